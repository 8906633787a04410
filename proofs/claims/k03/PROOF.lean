import PyProof.Rows.All
import Wide.All
import OpenK.AllK
import Wide.FinOn
import HandS.ForMost
import HandS.IsInst
import HandS.Walk
import KE.SortData
import PySem.Challenge.RW_seedreach_k03_reaches
set_option Elab.async false
set_option linter.all false
set_option maxRecDepth 100000
set_option maxHeartbeats 4000000
namespace L2
open PySem PySem.Spec PyProof.Rows
/-! ### readings, one step a lemma -/
section
variable {σ : St} {H : Hp} {Q : VK} {i j : Int} {n : Nat} {v : V} {ta tb tc te : TE} {K : PySem.W.Frag} {a p : Addr} {xs ys : List V} {z z' : Str}
theorem x_var (h : σ[n]? = some (some v)) (q : Q v H) : tVar n σ H Q := ⟨v, h, q⟩
theorem x_c (q : Q v H) : tC v σ H Q := q
theorem x_op {r : R2} (q : ta σ H fun x H1 => tb σ H1 fun y H2 => r x y H2 Q) : tOp r ta tb σ H Q := q
theorem x_un {r : V → Hp → VK → Prop} (q : ta σ H fun x H1 => r x H1 Q) : tUn r ta σ H Q := q
theorem x_rI {C : Int → Int → Prop} {g : Int → Int → V} (h : C i j) (q : Q (g i j) H) : rI C g (.int i) (.int j) H Q := ⟨i, j, rfl, rfl, h, q⟩
theorem x_rI0 {g : Int → Int → V} (q : Q (g i j) H) : rI0 g (.int i) (.int j) H Q := ⟨i, j, rfl, rfl, q⟩
theorem x_rU {g : Int → V} (q : Q (g i) H) : rU g (.int i) H Q := ⟨i, rfl, q⟩
theorem x_rEq {x y : V} (h : scal x y = true) (q : Q (.bl (decide (x = y))) H) : rEq x y H Q := ⟨h, q⟩
theorem x_rNe {x y : V} (h : scal x y = true) (q : Q (.bl (!decide (x = y))) H) : rNe x y H Q := ⟨h, q⟩
theorem x_test {t : TE} {R : Bool → Hp → Prop} (q : t σ H fun x H' => ∃ k, x = .bl k ∧ R k H') : tTest t σ H R := q
theorem x_b {t : TE} {R : Bool → Hp → Prop} (q : t σ H fun x H' => ∃ k, x = .bl k ∧ R k H') : tB t σ H R := q
theorem x_bl {b : Bool} {R : Bool → Prop} (q : R b) : ∃ k, V.bl b = V.bl k ∧ R k := ⟨b, rfl, q⟩
theorem x_ifE {t : TT} (q : t σ H fun c H1 => if c = true then ta σ H1 Q else tb σ H1 Q) : tIf t ta tb σ H Q := q
theorem x_ifS {t : TT} {u1 u2 : TS} {D : Ends} (q : t σ H fun c H1 => if c = true then u1 D σ H1 else u2 D σ H1) : tIfS t u1 u2 D σ H := q
theorem x_and {t u : TT} {R : Bool → Hp → Prop} (q : t σ H fun c H1 => if c = true then u σ H1 R else R false H1) : tAnd t u σ H R := q
theorem x_or {t u : TT} {R : Bool → Hp → Prop} (q : t σ H fun c H1 => if c = true then R true H1 else u σ H1 R) : tOr t u σ H R := q
theorem x_not {t : TT} {R : Bool → Hp → Prop} (q : t σ H fun c H1 => R (!c) H1) : tNot t σ H R := q
theorem x_notV (q : ta σ H fun x H1 => ∃ c, x = .bl c ∧ Q (.bl (!c)) H1) : tNotV ta σ H Q := q
theorem x_andV (q : ta σ H fun x H1 => ∃ c, x = .bl c ∧ if c = true then tb σ H1 Q else Q (.bl false) H1) : tAndV ta tb σ H Q := q
theorem x_orV (q : ta σ H fun x H1 => ∃ c, x = .bl c ∧ if c = true then Q (.bl true) H1 else tb σ H1 Q) : tOrV ta tb σ H Q := q
theorem x_cons {tr : TA} {R : List V → Hp → Prop} (q : ta σ H fun x H1 => tr σ H1 fun xs H2 => R (x :: xs) H2) : tCons ta tr σ H R := q
theorem x_nil {R : List V → Hp → Prop} (q : R [] H) : tNil σ H R := q
theorem x_tup {t : TA} (q : t σ H fun xs H1 => xs.length ≤ sizeLine ∧ ∀ p, H1 p = none → Q (.ref p) (upd H1 p (.tup xs))) : tTup t σ H Q := q
theorem x_lst {t : TA} (q : t σ H fun xs H1 => xs.length ≤ sizeLine ∧ ∀ p, H1 p = none → Q (.ref p) (upd H1 p (.lst xs))) : tLst t σ H Q := q
theorem x_cb {r : List V → Hp → VK → Prop} {t : TA} (q : t σ H fun vs H1 => r vs H1 Q) : tCB r t σ H Q := q
theorem x_call {sp : Sp} {dvs : List V} {E : XK} {t : TA} (q : t σ H fun vs H1 => sp (vs ++ dvs) H1 Q E) : tCall sp dvs E t σ H Q := q
theorem x_ixL (h : SqL K H p xs) (e : atI xs i = some v) (q : Q v H) : rIxL K (.ref p) (.int i) H Q := ⟨p, xs, i, v, rfl, rfl, h, e, q⟩
theorem x_ixT (h : SqT K H p xs) (e : atI xs i = some v) (q : Q v H) : rIxT K (.ref p) (.int i) H Q := ⟨p, xs, i, v, rfl, rfl, h, e, q⟩
theorem x_ixS {c : Nat} (h : z.length ≤ sizeLine) (e : atI z.cps.toList i = some c) (q : Q (.str ⟨#[c]⟩) H) : rIxS (.str z) (.int i) H Q := ⟨z, i, c, rfl, rfl, h, e, q⟩
theorem x_lenL {R : List V → Prop} (h : SqL K H p ys ∨ SqT K H p ys) (q : R ys) : ∃ (p' : Addr) (ys : List V), [V.ref p] = [V.ref p'] ∧ (SqL K H p' ys ∨ SqT K H p' ys) ∧ R ys := ⟨p, ys, rfl, h, q⟩
theorem x_lenS {R : Str → Prop} (h : z.length ≤ sizeLine) (q : R z) : ∃ z', [V.str z] = [V.str z'] ∧ z'.length ≤ sizeLine ∧ R z' := ⟨z, rfl, h, q⟩
theorem x_two {R : Int → Int → Prop} (q : R i j) : ∃ i' j', [V.int i, V.int j] = [V.int i', V.int j'] ∧ R i' j' := ⟨i, j, rfl, q⟩
theorem x_intB {R : Int → Prop} {S : Bool → Prop} {k : Bool} (q : S k) : (∃ i, [V.bl k] = [V.int i] ∧ R i) ∨ ∃ k', [V.bl k] = [V.bl k'] ∧ S k' := .inr ⟨k, rfl, q⟩
theorem x_addS {R : Str → Str → Prop} (h : z.length + z'.length ≤ sizeLine) (q : R z z') : ∃ i j, V.str z = V.str i ∧ V.str z' = V.str j ∧ i.length + j.length ≤ sizeLine ∧ R i j := ⟨z, z', rfl, rfl, h, q⟩
theorem x_chain {r r' : R2} (q : ta σ H fun x H1 => tb σ H1 fun y H2 => r x y H2 fun z H3 => ∃ k, z = .bl k ∧ if k = true then tc σ H3 fun w H4 => r' y w H4 Q else Q (.bl false) H3) : tChain r r' ta tb tc σ H Q := q
theorem x_seq {t u : TS} {D : Ends} (q : t { D with nx := u D } σ H) : tSeq t u D σ H := q
theorem x_next {D : Ends} (q : D.nx σ H) : tNext D σ H := q
theorem x_asg {g : TG} {D : Ends} (q : te σ H fun x H1 => g x σ H1 D.nx) : tAsg te g D σ H := q
theorem x_name {R : St → Hp → Prop} (q : R (σ.set n (some v)) H) : gName n v σ H R := q
theorem x_drop {D : Ends} (q : te σ H fun _ H1 => D.nx σ H1) : tDrop te D σ H := q
theorem x_ret {D : Ends} (q : te σ H D.rt) : tRet te D σ H := q
theorem x_gTup {t : TGs} {R : St → Hp → Prop} (h : SqT K H a xs) (hl : xs.length = n) (q : t xs σ H R) : gTup K n t (.ref a) σ H R := ⟨a, xs, rfl, h, hl, q⟩
theorem x_gCons {t : TG} {u : TGs} {vs : List V} {R : St → Hp → Prop} (q : t v σ H fun σ' H' => u vs σ' H' R) : gCons t u (v :: vs) σ H R := ⟨v, vs, rfl, q⟩
theorem x_gNil {R : St → Hp → Prop} (q : R σ H) : gNil [] σ H R := ⟨rfl, q⟩
theorem x_gSub {to ti : TE} {t : TSet} {R : St → Hp → Prop} (q : to σ H fun o H1 => ti σ H1 fun i H2 => t o i v H2 fun H3 => R σ H3) : gSub to ti t v σ H R := q
theorem x_setL {k : Nat} {R : Hp → Prop} (h : H p = some (.lst xs)) (e : ixN xs.length i = some k) (q : R (upd H p (.lst (xs.set k v)))) : rSetL (.ref p) (.int i) v H R := ⟨p, xs, i, k, rfl, rfl, h, e, q⟩
theorem x_bm {T : String} {r : V → List V → Hp → VK → Prop} {to : TE} {t : TA} (q : to σ H fun x H1 => tyV K T x H1 ∧ t σ H1 fun xs H2 => r x xs H2 Q) : tBM K T r to t σ H Q := q
theorem x_m1 {r : V → List V → Hp → VK → Prop} {to : TE} (q : to σ H fun x H1 => (∃ a, x = .str a) ∧ te σ H1 fun y H2 => r x [y] H2 Q) : tM1 r to te σ H Q := q
theorem x_m1s {R : Prop} (q : R) : (∃ a, V.str z = V.str a) ∧ R := ⟨⟨z, rfl⟩, q⟩
theorem x_sl {r : V → Option Int → Option Int → Hp → VK → Prop} {tl th : TO} (q : te σ H fun x H1 => tl σ H1 fun l H2 => th σ H2 fun u H3 => r x l u H3 Q) : tSl r te tl th σ H Q := q
theorem x_noPart {R : Option Int → Hp → Prop} (q : R none H) : tNoPart σ H R := q
theorem x_part {R : Option Int → Hp → Prop} (q : te σ H fun x H1 => ∃ i, x = .int i ∧ R (some i) H1) : tPart te σ H R := q
theorem x_parti {R : Int → Prop} (q : R i) : ∃ i', V.int i = V.int i' ∧ R i' := ⟨i, rfl, q⟩
theorem x_slS {lo hi : Option Int} (h : z.length ≤ sizeLine) (q : Q (.str (cutS z lo hi)) H) : rSlS (.str z) lo hi H Q := ⟨z, rfl, h, q⟩
theorem x_rng1 {t : TA} {R : It → Hp → Prop} (q : t σ H fun vs H1 => ∃ j : Int, vs = [.int j] ∧ -(2 ^ 62) ≤ j ∧ j < 2 ^ 62 ∧ R (Itr 0 j.toNat) H1) : iRng1 t σ H R := q
theorem x_rng1i {R : Int → Prop} (h1 : -(2 ^ 62) ≤ i) (h2 : i < 2 ^ 62) (q : R i) : ∃ j : Int, [V.int i] = [V.int j] ∧ -(2 ^ 62) ≤ j ∧ j < 2 ^ 62 ∧ R j := ⟨i, rfl, h1, h2, q⟩
theorem x_rng2 {t : TA} {R : It → Hp → Prop} (q : t σ H fun vs H1 => ∃ i j : Int, vs = [.int i, .int j] ∧ (-(2 ^ 62) ≤ i ∧ i < 2 ^ 62 ∧ -(2 ^ 62) ≤ j ∧ j < 2 ^ 62) ∧ R (Itr i (j - i).toNat) H1) : iRng2 t σ H R := q
theorem x_rng2i {R : Int → Int → Prop} (h : -(2 ^ 62) ≤ i ∧ i < 2 ^ 62 ∧ -(2 ^ 62) ≤ j ∧ j < 2 ^ 62) (q : R i j) : ∃ i' j' : Int, [V.int i, V.int j] = [V.int i', V.int j'] ∧ (-(2 ^ 62) ≤ i' ∧ i' < 2 ^ 62 ∧ -(2 ^ 62) ≤ j' ∧ j' < 2 ^ 62) ∧ R i' j' := ⟨i, j, rfl, h, q⟩
theorem x_lcR {g : TG} {tt : TT} {vs : List Nat} {wi : TI} (q : wi σ H fun J H1 => ∀ D, H1 D = none → ∃ W : Nat → Nat → Hp → Prop, (∃ m, W 0 m (upd H1 D (.lst []))) ∧ ∀ i m H, W i m H →
  (J.stop i H ∧ Q (.ref D) H) ∨ (J.go i H ∧ ∃ Nx : Hp → Prop, (∀ H', Nx H' → ∃ m', m' < m ∧ W (i + 1) m' H') ∧ ∀ x H', J.yld i H x H' → g x (wipe σ vs) H' fun σ2 H2 => wipe σ2 vs = wipe σ vs ∧ tt σ2 H2 fun b H3 =>
    if b = true then te σ2 H3 fun y H4 => ∃ acc, H4 D = some (.lst acc) ∧ acc.length < sizeLine ∧ Nx (upd H4 D (.lst (acc ++ [y]))) else Nx H3)) : tLc wi g tt te vs σ H Q := q
theorem x_yes {R : Bool → Hp → Prop} (q : R true H) : tYes σ H R := q
theorem x_iList {R : It → Hp → Prop} {tl : TE} (q : tl σ H fun x H1 => ∃ a, x = .ref a ∧ (∃ xs, SqL K H1 a xs) ∧ R (Itl K a) H1) : iList K tl σ H R := q
theorem x_iListi {R : Addr → Prop} (h : SqL K H a xs) (q : R a) : ∃ a', V.ref a = V.ref a' ∧ (∃ xs, SqL K H a' xs) ∧ R a' := ⟨a, rfl, ⟨xs, h⟩, q⟩
theorem x_iStr {R : It → Hp → Prop} (q : te σ H fun v H1 => ∃ x, v = .str x ∧ R (Its x) H1) : iStr te σ H R := q
theorem x_iStri {R : Str → Prop} (q : R z) : ∃ z', V.str z = V.str z' ∧ R z' := ⟨z, rfl, q⟩
theorem x_for {wi : TI} {g : TG} {tb : TS} {D : Ends} (q : wi σ H fun J H1 => ∃ W : Nat → Nat → St → Hp → Prop, (∃ m, W 0 m σ H1) ∧ ∀ i m σ H, W i m σ H →
    ((J.stop i H ∧ D.nx σ H) ∨ (J.go i H ∧ ∃ N : St → Hp → Prop, (∀ σ' H', N σ' H' → ∃ m', m' < m ∧ W (i + 1) m' σ' H') ∧ ∀ x H', J.yld i H x H' → g x σ H' fun σ2 H2 => tb { D with nx := N, ct := N, bk := D.nx } σ2 H2))) : tFor wi g tb D σ H := q
theorem x_append (h : H p = some (.lst xs)) (hl : xs.length < sizeLine) (q : Q .non (upd H p (.lst (xs ++ [v])))) : rAppend (.ref p) [v] H Q := ⟨p, xs, v, rfl, rfl, h, hl, q⟩
theorem x_s1 {R : Str → Str → Prop} (q : R z z') : ∃ a b, V.str z = V.str a ∧ [V.str z'] = [V.str b] ∧ R a b := ⟨z, z', rfl, rfl, q⟩
theorem x_aug {te : TE} {ti : TIp} {D : Ends} {x : V} (h : σ[n]? = some (some x)) (q : te σ H fun y H1 => ti x y H1 fun z H2 => D.nx (σ.set n (some z)) H2) : tAug n te ti D σ H := ⟨x, h, q⟩
theorem x_ipI {f : Int → Int → Int} (q : Q (.int (f i j)) H) : ipI f (.int i) (.int j) H Q := ⟨i, j, rfl, rfl, q⟩
theorem x_enumS {R : Str → Prop} (q : R z) : ∃ x, [V.str z] = [V.str x] ∧ R x := ⟨z, rfl, q⟩
theorem x_par {k : Nat} {t : TA} {D : Ends} (q : t σ H fun vs H1 => ∃ v w, vs = [v, w] ∧ D.nx ((σ.set n (some v)).set k (some w)) H1) : tPar n k t D σ H := q
theorem x_parv {R : V → V → Prop} {v' : V} (q : R v v') : ∃ x y, [v, v'] = [x, y] ∧ R x y := ⟨v, v', rfl, q⟩
theorem x_rIntB {R : Int → Prop} {S : Bool → Prop} (q : R i) : (∃ j, [V.int i] = [V.int j] ∧ R j) ∨ ∃ k, [V.int i] = [V.bl k] ∧ S k := .inl ⟨i, rfl, q⟩
theorem x_join {ys : List Str} {R : Str → List Str → Prop} (h : SqL K H p (ys.map V.str)) (hl : (ys.map (·.length)).sum + ys.length * z.length ≤ 16777216) (q : R z ys) :
    ∃ a p', ∃ ys : List Str, V.str z = V.str a ∧ [V.ref p] = [V.ref p'] ∧ (SqL K H p' (ys.map V.str) ∨ SqT K H p' (ys.map V.str)) ∧ (ys.map (·.length)).sum + ys.length * a.length ≤ 16777216 ∧ R a ys := ⟨z, p, ys, rfl, rfl, .inl h, hl, q⟩
end
theorem x_cutE {te : TE} {σ : St} {H : Hp} {Q : VK} (P : V → Hp → Prop) (h1 : ∀ Q' : VK, (∀ v H', P v H' → Q' v H') → te σ H Q') (h2 : ∀ v H', P v H' → Q v H') : te σ H Q := h1 Q h2
theorem x_cutS {t : TS} {D : Ends} {σ : St} {H : Hp} (P : St → Hp → Prop) (h1 : ∀ nx : St → Hp → Prop, (∀ σ' H', P σ' H' → nx σ' H') → t { D with nx := nx } σ H) (h2 : ∀ σ' H', P σ' H' → D.nx σ' H') : t D σ H := h1 D.nx h2
theorem x_iteNT {A B : Prop} (q : B) : if (!true) = true then A else B := q
theorem x_iteNF {A B : Prop} (q : A) : if (!false) = true then A else B := q
theorem hp_sz {n : Nat} (h : n ≤ 1000000) : n ≤ sizeLine := Nat.le_trans h (by decide)
end L2

namespace Sr
open PySem PySem.Spec PyProof.Rows L2
/-! ### the source of draws: a list [s, cells, i] at a, its cells at b -/
def Src (H : Hp) (a b : Addr) : Prop := a ≠ b ∧ ∃ (s i : Int) (cs : List Int), H a = some (.lst [.int s, .ref b, .int i]) ∧ H b = some (.lst (cs.map V.int)) ∧ cs.length ≤ 63
/-- all that is tracked but the source stands as it was -/
def Kp (a b : Addr) (H H' : Hp) : Prop := ∀ p o, p ≠ a → p ≠ b → H p = some o → H' p = some o
theorem Kp.refl {a b : Addr} (H : Hp) : Kp a b H H := fun _ _ _ _ h => h
theorem Kp.trans {a b : Addr} {H H1 H2 : Hp} (x : Kp a b H H1) (y : Kp a b H1 H2) : Kp a b H H2 := fun p o h1 h2 h => y p o h1 h2 (x p o h1 h2 h)
theorem Kp.of {a b : Addr} {H H' : Hp} (x : Same H H') : Kp a b H H' := fun p o _ _ h => x p o h
theorem Kp.new {a b p : Addr} {H : Hp} {o : HO} (h : H p = none) : Kp a b H (upd H p o) := fun q u _ _ e => by
  rw [upd_ne (ne_of_none e h)]
  exact e
theorem Kp.at_a {a b : Addr} {H : Hp} {o : HO} : Kp a b H (upd H a o) := fun q u n _ e => by
  rw [upd_ne n]
  exact e
theorem Kp.at_b {a b : Addr} {H : Hp} {o : HO} : Kp a b H (upd H b o) := fun q u _ n e => by
  rw [upd_ne n]
  exact e
theorem Src.new {a b p : Addr} {H : Hp} {o : HO} (x : Src H a b) (h : H p = none) : Src (upd H p o) a b := by
  obtain ⟨n, s, i, cs, h1, h2, h3⟩ := x
  exact ⟨n, s, i, cs, by rw [upd_ne (ne_of_none h1 h)]; exact h1, by rw [upd_ne (ne_of_none h2 h)]; exact h2, h3⟩
/-- an object that is no list of ints and no list that begins so stands apart -/
theorem same_upd {H : Hp} {p : Addr} {o : HO} (h : H p = none) : Same H (upd H p o) := fun b x e => by
  rw [upd_ne (ne_of_none e h)]
  exact e
theorem Src_same {a b : Addr} {H H' : Hp} (x : Src H a b) (e : Same H H') : Src H' a b := by
  obtain ⟨n, s, i, cs, h1, h2, h3⟩ := x
  exact ⟨n, s, i, cs, e _ _ h1, e _ _ h2, h3⟩
theorem atI_of {α : Type} {xs : List α} {i : Int} {v : α} (h0 : 0 ≤ i) (h : xs[i.toNat]? = some v) : atI xs i = some v := by
  have e : i = ((i.toNat : Nat) : Int) := by omega
  rw [e]
  exact atI_nat h
theorem ixN_of {n : Nat} {i : Int} (h0 : 0 ≤ i) (h : i < n) : ixN n i = some i.toNat := by
  unfold ixN
  rw [if_pos h0, if_pos h]
theorem eqv_ints_nil : ∀ cs : List Int, PyData.eqv (.list (cs.map PyData.int)) (.list []) = cs.isEmpty
  | [] => by decide +kernel
  | c :: cs => by
    show PyData.eqv (.list (PyData.int c :: cs.map PyData.int)) (.list []) = false
    simp [PyData.eqv, PyData.eqvAll]
theorem dp_ints {K : PySem.W.Frag} {H : Hp} : ∀ cs : List Int, DpAll K H (cs.map V.int) (cs.map PyData.int)
  | [] => .nil
  | c :: cs => .cons (.int c) (dp_ints cs)
theorem lay_ints : ∀ cs : List Int, PyData.canLayAll0 (cs.map PyData.int) = true
  | [] => by simp [PyData.canLayAll0]
  | c :: cs => by
    have h := lay_ints cs
    simp [PyData.canLayAll0, PyData.canLay0] at h ⊢
    exact h
theorem depth_ints : ∀ cs : List Int, PyData.depthAll (cs.map PyData.int) ≤ 1
  | [] => by simp [PyData.depthAll]
  | c :: cs => by
    have h := depth_ints cs
    simp [PyData.depthAll, PyData.depth] at h ⊢
    omega
theorem shaped_ints (cs : List Int) : SeqAt.shaped (.list (cs.map PyData.int)) = true := by
  unfold SeqAt.shaped
  rw [Bool.and_eq_true]
  refine ⟨lay_ints cs, decide_eq_true ?_⟩
  have h := depth_ints cs
  simp only [PyData.depth]
  omega
theorem ints_at {cs : List Int} {j : Nat} (h : j < cs.length) : (cs.map V.int)[j]? = some (.int cs[j]) := by
  rw [List.getElem?_map, List.getElem?_eq_getElem h]
  rfl
theorem map_set_int (cs : List Int) (j : Nat) (x : Int) : (cs.map V.int).set j (.int x) = (cs.set j x).map V.int := by
  rw [List.map_set]
end Sr

namespace Sr
open PySem PySem.Spec PyProof.Rows L2
open TL (tl)
/-! ### texts by their codes -/
/-- the text of these codes -/
def S (l : List Nat) : Str := ⟨l.toArray⟩
theorem tl_S (l : List Nat) : tl (S l) = l := rfl
theorem S_tl (z : Str) : S (tl z) = z := TL.mk_tl z
theorem S_inj {l m : List Nat} (h : S l = S m) : l = m := congrArg tl h
theorem len_S (l : List Nat) : (S l).length = l.length := by rw [TL.len_tl, tl_S]
theorem S_app (l m : List Nat) : S l ++ S m = S (l ++ m) := TL.ext_tl (by rw [TL.tl_append, tl_S, tl_S, tl_S])
def sg (c : Nat) : Str := ⟨#[c]⟩
theorem sg_S (c : Nat) : sg c = S [c] := rfl
theorem joinL_nil : ∀ ps : List (List Nat), TL.joinL [] ps = ps.flatten
  | [] => rfl
  | [p] => by simp [TL.joinL]
  | p :: q :: r => by
    show p ++ ([] ++ TL.joinL [] (q :: r)) = _
    rw [joinL_nil (q :: r)]
    simp
theorem join_signs (cs : List Nat) : Txt.join "" (cs.map sg) = S cs := by
  refine TL.ext_tl ?_
  rw [TL.join_eq, TL.tl_join, show tl ("" : Str) = [] from rfl, joinL_nil, tl_S, List.map_map]
  induction cs with
  | nil => rfl
  | cons c cs ih =>
    rw [List.map_cons, List.flatten_cons, ih]
    rfl
theorem signs_len (cs : List Nat) : ((cs.map sg).map (·.length)).sum + (cs.map sg).length * ("" : Str).length = cs.length := by
  rw [show ("" : Str).length = 0 from rfl, Nat.mul_zero, Nat.add_zero]
  induction cs with
  | nil => rfl
  | cons c cs ih =>
    rw [List.map_cons, List.map_cons, List.sum_cons, ih, List.length_cons]
    show 1 + cs.length = _
    omega
theorem spl_len (c : Nat) : ∀ (l acc : List Nat), (TL.spl [c] 0 acc l).length = l.count c + 1
  | [], acc => by simp [TL.spl]
  | d :: r, acc => by
    have e : TL.spl [c] 0 acc (d :: r) = if TL.pre [c] (d :: r) = true then acc :: TL.spl [c] 0 [] r else TL.spl [c] 0 (acc ++ [d]) r := rfl
    rw [e]
    by_cases h : d = c
    · subst h
      rw [if_pos (by simp [TL.pre]), List.length_cons, spl_len d r [], List.count_cons_self]
    · have hp : ¬ TL.pre [c] (d :: r) = true := by simp [TL.pre, h]
      rw [if_neg hp, spl_len c r _, List.count_cons_of_ne h]
theorem parts_len (x : Str) (n : Nat) : ∀ (cuts : List Nat) (a : Nat), (StrLaws.partsFrom x n a cuts).length = cuts.length + 1
  | [], _ => rfl
  | c :: r, a => by
    show (_ :: StrLaws.partsFrom x n (c + n) r).length = _
    rw [List.length_cons, parts_len x n r, List.length_cons]
theorem count_sign (z : Str) (c : Nat) : Txt.count z (sg c) = (((tl z).count c : Nat) : Int) := by
  have hy : tl (sg c) ≠ [] := by
    show [c] ≠ []
    simp
  obtain ⟨f, g, hn⟩ := StrLaws.occ_tight z (sg c) (by show 1 ≤ 1; exact Nat.le_refl _)
  have key := congrArg List.length (TL.parts_spl hy _ 0 f (Nat.zero_le _) g hn)
  rw [List.length_map, parts_len, List.drop_zero, show tl (sg c) = [c] from rfl, spl_len] at key
  show ((Builtin.Str.occurrences z (sg c) 0 z.length (z.length + 1)).length : Int) = _
  omega
/-- the worth of likes -/
def wor (g l : Int) : List Nat → Int
  | [] => 0
  | c :: r => (if c = 61 then g else -l) + wor g l r
theorem wor_app (g l : Int) : ∀ a b, wor g l (a ++ b) = wor g l a + wor g l b
  | [], b => by simp [wor]
  | c :: a, b => by
    show (if c = 61 then g else -l) + wor g l (a ++ b) = (if c = 61 then g else -l) + wor g l a + wor g l b
    rw [wor_app g l a b]
    omega
theorem wor_take (g l : Int) {z : List Nat} {i : Nat} (h : i < z.length) : wor g l (z.take (i + 1)) = wor g l (z.take i) + (if z[i] = 61 then g else -l) := by
  rw [List.take_succ_eq_append_getElem h, wor_app]
  show _ + ((if z[i] = 61 then g else -l) + 0) = _
  omega
/-- likes: a text of 61 and 47 alone -/
def Lk (z : List Nat) : Prop := ∀ c ∈ z, c = 61 ∨ c = 47
theorem wor_count (g l : Int) : ∀ {z : List Nat}, Lk z → g * ((z.count 61 : Nat) : Int) - l * ((z.count 47 : Nat) : Int) = wor g l z
  | [], _ => by simp [wor]
  | c :: r, h => by
    have ih := wor_count g l (z := r) fun d hd => h d (List.mem_cons_of_mem _ hd)
    show _ = (if c = 61 then g else -l) + wor g l r
    rcases h c (List.mem_cons_self ..) with e | e
    · subst e
      rw [List.count_cons_self, List.count_cons_of_ne (by decide), if_pos rfl, ← ih, Int.natCast_add, Int.mul_add]
      simp
      omega
    · subst e
      rw [List.count_cons_self, List.count_cons_of_ne (by decide), if_neg (by decide), ← ih, Int.natCast_add, Int.mul_add]
      simp
      omega
/-- the places of a lane -/
def onl (n : Nat) (d : Int) (p : Nat) : Bool := decide (0 ≤ (p : Int) + d) && decide ((p : Int) + d < (n : Int))
def plc (m n : Nat) (d : Int) : List Nat := (List.range m).filter (onl n d)
def bgn (d : Int) : Nat := (-d).toNat
def lkn (m n : Nat) (d : Int) : Nat := (min (m : Int) ((n : Int) - d) - (bgn d : Int)).toNat
theorem plc_eq (n : Nat) (d : Int) : ∀ m, plc m n d = (List.range (lkn m n d)).map (bgn d + ·)
  | 0 => by
    have h : lkn 0 n d = 0 := by unfold lkn bgn; omega
    rw [h]
    rfl
  | m + 1 => by
    have ih := plc_eq n d m
    unfold plc at ih ⊢
    rw [List.range_succ, List.filter_append, ih]
    by_cases h : onl n d m = true
    · have h' : 0 ≤ (m : Int) + d ∧ (m : Int) + d < n := by
        unfold onl at h
        simpa using h
      have e : lkn (m + 1) n d = lkn m n d + 1 := by unfold lkn bgn; omega
      have e2 : m = bgn d + lkn m n d := by unfold lkn bgn; omega
      rw [e, List.range_succ, List.map_append, List.filter_cons, if_pos h]
      show _ ++ [m] = _ ++ [bgn d + lkn m n d]
      rw [← e2]
    · have h' : ¬ (0 ≤ (m : Int) + d ∧ (m : Int) + d < n) := by
        unfold onl at h
        simpa using h
      have e : lkn (m + 1) n d = lkn m n d := by unfold lkn bgn; omega
      rw [e, List.filter_cons, if_neg h]
      simp
/-- the like at a place -/
def lk1 (o t : List Nat) (d : Int) (p : Nat) : Nat := if o[p]? = t[((p : Int) + d).toNat]? then 61 else 47
def likL (o t : List Nat) (d : Int) : List Nat := (plc o.length t.length d).map (lk1 o t d)
theorem likL_Lk (o t : List Nat) (d : Int) : Lk (likL o t d) := fun c h => by
  obtain ⟨p, _, rfl⟩ := List.mem_map.mp h
  unfold lk1
  split
  · exact .inl rfl
  · exact .inr rfl
theorem plc_len (m n : Nat) (d : Int) : (plc m n d).length = lkn m n d := by
  rw [plc_eq, List.length_map, List.length_range]
theorem likL_len (o t : List Nat) (d : Int) : (likL o t d).length = lkn o.length t.length d := by
  unfold likL
  rw [List.length_map, plc_len]
theorem lkn_le (m n : Nat) (d : Int) : lkn m n d ≤ m := by unfold lkn bgn; omega
theorem likL_le (o t : List Nat) (d : Int) : (likL o t d).length ≤ o.length := by rw [likL_len]; exact lkn_le _ _ _
theorem likL_eq (o t : List Nat) (d : Int) : likL o t d = (List.range (lkn o.length t.length d)).map fun i => lk1 o t d (bgn d + i) := by
  unfold likL
  rw [plc_eq, List.map_map]
  rfl
/-- the drawn letters -/
def letL (t n : Nat) : List Nat := (List.range n).map fun k => 97 + (t + 7 * k) % 26
theorem letL_len (t n : Nat) : (letL t n).length = n := by unfold letL; rw [List.length_map, List.length_range]
theorem pv_step {H2 H : Hp} {D : Addr} {f : Nat → V} {i : Nat} {y : V} (hn : H2 D = none) (sm : Same H2 H) (hD : H D = some (.lst ((List.range i).map f))) (hi : i ≤ 1000000) (hy : y = f i) :
    ∃ acc, H D = some (.lst acc) ∧ acc.length < sizeLine ∧ (Same H2 (upd H D (.lst (acc ++ [y]))) ∧ upd H D (.lst (acc ++ [y])) D = some (.lst ((List.range (i + 1)).map f))) := by
  refine ⟨_, hD, ?_, fun b o e => ?_, ?_⟩
  · rw [List.length_map, List.length_range]
    exact Nat.lt_of_le_of_lt hi (by decide)
  · rw [upd_ne (ne_of_none e hn)]
    exact sm b o e
  · rw [upd_same, hy, List.range_succ, List.map_append]
    rfl
theorem lst_map_signs (cs : List Nat) : (cs.map sg).map V.str = cs.map fun c => V.str (sg c) := by rw [List.map_map]; rfl
/-- the end of ''.join of signs -/
theorem join_end {K : PySem.W.Frag} {H : Hp} {p : Addr} {cs : List Nat} {Q : VK} (h : H p = some (.lst (cs.map fun c => V.str (sg c)))) (hl : cs.length ≤ 1000000) (q : Q (.str (S cs)) H) :
    ∃ a p', ∃ ys : List Str, V.str (Str.ofString "") = V.str a ∧ [V.ref p] = [V.ref p'] ∧ (SqL K H p' (ys.map V.str) ∨ SqT K H p' (ys.map V.str)) ∧ (ys.map (·.length)).sum + ys.length * a.length ≤ 16777216 ∧ Q (V.str (Txt.join a ys)) H := by
  refine ⟨_, p, cs.map sg, rfl, rfl, .inl (SqL.of ?_), ?_, ?_⟩
  · rw [lst_map_signs]
    exact h
  · have e := signs_len cs
    show ((cs.map sg).map (·.length)).sum + (cs.map sg).length * ("" : Str).length ≤ 16777216
    rw [e]
    omega
  · have e := join_signs cs
    show Q (V.str (Txt.join "" (cs.map sg))) H
    rw [e]
    exact q
/-- what a comprehension of drawn signs keeps -/
def Dr (a b : Addr) (H0 : Hp) (D : Addr) (ok : Nat → Prop) (i : Nat) (H : Hp) : Prop := ∃ cs : List Nat, cs.length = i ∧ (∀ c ∈ cs, ok c) ∧ Src H a b ∧ Kp a b H0 H ∧ H D = some (.lst (cs.map fun c => V.str (sg c)))
theorem Dr.start {a b : Addr} {H0 : Hp} {D : Addr} {ok : Nat → Prop} (hs : Src H0 a b) (hn : H0 D = none) : Dr a b H0 D ok 0 (upd H0 D (.lst [])) :=
  ⟨[], rfl, (fun c h => nomatch h), hs.new hn, Kp.new hn, upd_same⟩
theorem Src.ne_a {a b D : Addr} {H : Hp} (h : Src H a b) (hn : H D = none) : D ≠ a := by
  obtain ⟨_, _, _, _, h1, _⟩ := h
  exact (ne_of_none h1 hn).symm
theorem Src.ne_b {a b D : Addr} {H : Hp} (h : Src H a b) (hn : H D = none) : D ≠ b := by
  obtain ⟨_, _, _, _, _, h1, _⟩ := h
  exact (ne_of_none h1 hn).symm
theorem Src.upd {a b D : Addr} {H : Hp} {o : HO} (h : Src H a b) (na : D ≠ a) (nb : D ≠ b) : Src (upd H D o) a b := by
  obtain ⟨n, s, i, cs, h1, h2, h3⟩ := h
  exact ⟨n, s, i, cs, by rw [upd_ne na.symm]; exact h1, by rw [upd_ne nb.symm]; exact h2, h3⟩
/-- a turn: the element drew in between (H to H'), then its sign is appended -/
theorem Dr.step {a b : Addr} {H0 H H' : Hp} {D : Addr} {ok : Nat → Prop} {i c : Nat} (hn : H0 D = none) (hs0 : Src H0 a b) (h : Dr a b H0 D ok i H) (hi : i ≤ 1000000) (hs : Src H' a b) (k : Kp a b H H') (hc : ok c) :
    ∃ acc, H' D = some (.lst acc) ∧ acc.length < sizeLine ∧ Dr a b H0 D ok (i + 1) (L2.upd H' D (.lst (acc ++ [V.str (sg c)]))) := by
  obtain ⟨cs, hl, hok, _, k0, hD⟩ := h
  have na := hs0.ne_a hn
  have nb := hs0.ne_b hn
  refine ⟨_, k D _ na nb hD, ?_, cs ++ [c], ?_, ?_, hs.upd na nb, fun p o h1 h2 e => ?_, ?_⟩
  · rw [List.length_map, hl]
    exact Nat.lt_of_le_of_lt hi (by decide)
  · rw [List.length_append, hl]
    rfl
  · intro d hd
    rcases List.mem_append.mp hd with h1 | h1
    · exact hok d h1
    · rw [List.mem_singleton.mp h1]
      exact hc
  · rw [upd_ne (ne_of_none e hn)]
    exact k p o h1 h2 (k0 p o h1 h2 e)
  · rw [upd_same, List.map_append]
    rfl
end Sr
namespace Sr
open PySem PySem.Spec PyProof.Rows L2
/-! ### data that the law compares -/
inductive Gd : PyData → Prop where
  | int (i : Int) : Gd (.int i)
  | str (x : Str) : Gd (.str x)
  | bl (b : Bool) : Gd (.bool b)
  | lst (ds : List PyData) (hl : ds.length ≤ 100000) (h : ∀ d ∈ ds, Gd d) : Gd (.list ds)
  | tup (ds : List PyData) (hl : ds.length ≤ 100000) (h : ∀ d ∈ ds, Gd d) : Gd (.tuple ds)
theorem SqT_same {K : PySem.W.Frag} {H H' : Hp} {a : Addr} {xs : List V} (e : Same H H') (h : SqT K H a xs) : SqT K H' a xs := by
  rcases h with (h | ⟨o, h⟩) | h
  · exact .inl (.inl (e _ _ h))
  · exact .inl (.inr ⟨o, e _ _ h⟩)
  · exact .inr h
section
variable {K : PySem.W.Frag} {H H' : Hp}
mutual
theorem Dp_same (e : Same H H') : ∀ (d : PyData) (v : V), Dp K H v d → Dp K H' v d
  | .none, _, h => by cases h; exact .non
  | .bool b, _, h => by cases h; exact .bl b
  | .int i, _, h => by cases h; exact .int i
  | .str x, _, h => by cases h; exact .str x
  | .list ds, _, h => by
    cases h with
    | lst hs ha => exact .lst (e.seq hs) (DpAll_same e ds _ ha)
  | .tuple ds, _, h => by
    cases h with
    | tup hs ha => exact .tup (SqT_same e hs) (DpAll_same e ds _ ha)
  | .dict _, _, h => by cases h
theorem DpAll_same (e : Same H H') : ∀ (ds : List PyData) (vs : List V), DpAll K H vs ds → DpAll K H' vs ds
  | [], _, h => by cases h; exact .nil
  | d :: ds, _, h => by
    cases h with
    | cons h1 h2 => exact .cons (Dp_same e d _ h1) (DpAll_same e ds _ h2)
end
theorem DpAll_len : ∀ {ds : List PyData} {vs : List V}, DpAll K H vs ds → vs.length = ds.length
  | [], _, h => by cases h; rfl
  | d :: ds, _, h => by
    cases h with
    | cons h1 h2 => rw [List.length_cons, List.length_cons, DpAll_len h2]
theorem DpAll_get : ∀ {ds : List PyData} {vs : List V} (i : Nat), DpAll K H vs ds → i < ds.length → ∃ v d, vs[i]? = some v ∧ ds[i]? = some d ∧ Dp K H v d
  | [], _, i, h, hi => by simp at hi
  | d :: ds, _, 0, h, hi => by
    cases h with
    | cons h1 h2 => exact ⟨_, _, rfl, rfl, h1⟩
  | d :: ds, _, i + 1, h, hi => by
    cases h with
    | cons h1 h2 =>
      obtain ⟨v, d', e1, e2, h3⟩ := DpAll_get i h2 (by simpa using hi)
      exact ⟨v, d', e1, e2, h3⟩
def tname : PyData → String
  | .none => "NoneType"
  | .bool _ => "bool"
  | .int _ => "int"
  | .str _ => "str"
  | .list _ => "list"
  | .tuple _ => "tuple"
  | .dict _ => "dict"
theorem dp_ty {v : V} {d : PyData} (h : Dp K H v d) : TyX K H v (.type (tname d)) := by
  cases h with
  | non => exact .base .non
  | bl b => exact .base (.bl b)
  | int i => exact .base (.int i)
  | str x => exact .base (.str x)
  | lst hs _ =>
    rcases hs with (h | ⟨o, h⟩) | ⟨o, its, n, h1, h2, _⟩
    · exact .base (.lst h)
    · exact .base (.frz h)
    · exact .kList h1 h2
  | tup hs _ =>
    rcases hs with (h | ⟨o, h⟩) | ⟨o, its, n, h1, h2, _⟩
    · exact .base (.tup h)
    · exact .fTuple h
    · exact .kTuple h1 h2
theorem kit_lt {tn : String} {b1 b2 : Bool} (h1 : PySem.W.kitOne K (.type tn) (.type "list") = some b1) (h2 : PySem.W.kitOne K (.type tn) (.type "tuple") = some b2) :
    PySem.W.kitAny K (.type tn) [.type "list", .type "tuple"] = some (b1 || b2) :=
  kitAny_cons h1 (fun e => kitAny_cons h2 (fun e2 => by rw [e, e2]; exact kitAny_nil) fun e2 => by rw [e2, Bool.or_true]) fun e => by rw [e, Bool.true_or]
/-- a def that is never called where its promise asks the impossible -/
theorem fn_never {P : Program} {w : World} {mg : Str → Option Value} {base : Heap} {CX : CXT} {k : Nat} {f : Addr} {fd : FuncData} {ps : List Str} {sp : Sp} (h : ∀ vs H Q E, ¬ sp vs H Q E) : FnOk P w K mg base CX k f fd ps sp :=
  ⟨fun vs H Q E z => (h vs H Q E z).elim, fun _ _ _ _ _ _ _ _ _ _ _ _ _ z => (h _ _ _ _ z).elim⟩
theorem x_ixQ {p : Addr} {xs : List V} {i : Int} {v : V} {Q : VK} (h : SqL K H p xs ∨ SqT K H p xs) (e : atI xs i = some v) (q : Q v H) : rIx K (.ref p) (.int i) H Q := by
  rcases h with h | h
  · exact .inl ⟨p, xs, i, v, rfl, rfl, h, e, q⟩
  · exact .inr (.inl ⟨p, xs, i, v, rfl, rfl, h, e, q⟩)
theorem x_isi {x : V} {n tn : String} {b : Bool} {Q : VK} (ht : TyX K H x (.type tn)) (k : PySem.W.kitOne K (.type tn) (.type n) = some b) (q : Q (.bl b) H) : rIsi K [x, .ty n] H Q :=
  ⟨x, .ty n, _, _, b, rfl, .ty n, ht, k, q⟩
theorem x_isiLT {x : V} {tn : String} {p : Addr} {b : Bool} {Q : VK} (hp : H p = some (.tup [.ty "list", .ty "tuple"])) (ht : TyX K H x (.type tn)) (k : PySem.W.kitAny K (.type tn) [.type "list", .type "tuple"] = some b) (q : Q (.bl b) H) : rIsiT K [x, .ref p] H Q :=
  ⟨x, p, _, _, _, b, rfl, hp, .cons (.ty _) (.cons (.ty _) .nil), ht, k, q⟩
theorem TyX_same (e : Same H H') {v : V} {d : PyData} (h : Dp K H v d) : TyX K H' v (.type (tname d)) := dp_ty (Dp_same e d v h)
theorem depth_mem : ∀ {ds : List PyData} {d : PyData}, d ∈ ds → d.depth ≤ PyData.depthAll ds
  | x :: xs, d, h => by
    simp only [PyData.depthAll]
    rcases List.mem_cons.mp h with e | e
    · subst e
      exact Nat.le_max_left _ _
    · exact Nat.le_trans (depth_mem e) (Nat.le_max_right _ _)
end
end Sr
namespace Sr
open PySem PySem.Spec PyProof.Rows L2
theorem cutS_take (z : List Nat) (k : Nat) : cutS (S z) none (some (k : Int)) = S (z.take k) := by
  unfold cutS
  have e0 : HT.sIx (S z).length 0 none = 0 := rfl
  have e1 : HT.sIx (S z).length (S z).length (some (k : Int)) = min k (S z).length := HT.sIx_nat _ _ _
  rw [e0, e1, List.drop_zero, Nat.sub_zero, len_S]
  show S (z.take (min k z.length)) = _
  congr 1
  by_cases h : k ≤ z.length
  · rw [Nat.min_eq_left h]
  · rw [Nat.min_eq_right (by omega), List.take_of_length_le (Nat.le_refl _), List.take_of_length_le (by omega)]
theorem cutS_drop (z : List Nat) (k : Nat) : cutS (S z) (some (k : Int)) none = S (z.drop k) := by
  unfold cutS
  have e0 : HT.sIx (S z).length 0 (some (k : Int)) = min k (S z).length := HT.sIx_nat _ _ _
  have e1 : HT.sIx (S z).length (S z).length none = (S z).length := rfl
  rw [e0, e1, len_S]
  show S ((z.drop (min k z.length)).take (z.length - min k z.length)) = _
  congr 1
  by_cases h : k ≤ z.length
  · rw [Nat.min_eq_left h]
    exact List.take_of_length_le (by rw [List.length_drop]; exact Nat.le_refl _)
  · rw [Nat.min_eq_right (by omega), List.drop_eq_nil_of_le (Nat.le_refl _), List.drop_eq_nil_of_le (by omega)]
    simp
theorem cutS_cut (z : List Nat) (i j : Nat) (h : j ≤ z.length) : cutS (S z) (some (i : Int)) (some (j : Int)) = S ((z.drop i).take (j - i)) := by
  unfold cutS
  have e0 : HT.sIx (S z).length 0 (some (i : Int)) = min i (S z).length := HT.sIx_nat _ _ _
  have e1 : HT.sIx (S z).length (S z).length (some (j : Int)) = min j (S z).length := HT.sIx_nat _ _ _
  rw [e0, e1, len_S, Nat.min_eq_left h]
  show S ((z.drop (min i z.length)).take (j - min i z.length)) = _
  congr 1
  by_cases h2 : i ≤ z.length
  · rw [Nat.min_eq_left h2]
  · rw [Nat.min_eq_right (by omega), List.drop_eq_nil_of_le (Nat.le_refl _), List.drop_eq_nil_of_le (by omega)]
    simp
end Sr
namespace Sr
open PySem PySem.Spec PyProof.Rows L2
theorem seq_view {K : PySem.W.Frag} {H : Hp} {x y : V} {d : PyData} (hx : Dp K H x d) (hy : Dp K H y d) (g : Gd d) :
    (∃ i, x = .int i ∧ y = .int i ∧ tname d = "int") ∨ (∃ z, x = .str z ∧ y = .str z ∧ tname d = "str") ∨ (∃ b, x = .bl b ∧ y = .bl b ∧ tname d = "bool") ∨
    ∃ (ds : List PyData) (px py : Addr) (xs ys : List V) (b1 b2 : Bool), x = .ref px ∧ y = .ref py ∧ (SqL K H px xs ∨ SqT K H px xs) ∧ (SqL K H py ys ∨ SqT K H py ys) ∧ DpAll K H xs ds ∧ DpAll K H ys ds ∧ ds.length ≤ 100000 ∧ (∀ d ∈ ds, Gd d) ∧
      d.depth = PyData.depthAll ds + 1 ∧ PySem.W.kitOne K (.type (tname d)) (.type "list") = some b1 ∧ PySem.W.kitOne K (.type (tname d)) (.type "tuple") = some b2 ∧ (b1 || b2) = true := by
  cases g with
  | int i =>
    cases hx
    cases hy
    exact .inl ⟨i, rfl, rfl, rfl⟩
  | str z =>
    cases hx
    cases hy
    exact .inr (.inl ⟨z, rfl, rfl, rfl⟩)
  | bl b =>
    cases hx
    cases hy
    exact .inr (.inr (.inl ⟨b, rfl, rfl, rfl⟩))
  | lst ds hl h =>
    cases hx with
    | lst h1 h2 =>
      cases hy with
      | lst h3 h4 => exact .inr (.inr (.inr ⟨ds, _, _, _, _, true, false, rfl, rfl, .inl h1, .inl h3, h2, h4, hl, h, by simp only [PyData.depth], kit_ty (a := "list") (by decide +kernel), kit_ty (a := "list") (by decide +kernel), rfl⟩))
  | tup ds hl h =>
    cases hx with
    | tup h1 h2 =>
      cases hy with
      | tup h3 h4 => exact .inr (.inr (.inr ⟨ds, _, _, _, _, false, true, rfl, rfl, .inr h1, .inr h3, h2, h4, hl, h, by simp only [PyData.depth], kit_ty (a := "tuple") (by decide +kernel), kit_ty (a := "tuple") (by decide +kernel), rfl⟩))
theorem Sq_same {K : PySem.W.Frag} {H H' : Hp} {a : Addr} {xs : List V} (e : Same H H') (h : SqL K H a xs ∨ SqT K H a xs) : SqL K H' a xs ∨ SqT K H' a xs := h.elim (fun h => .inl (e.seq h)) fun h => .inr (SqT_same e h)
end Sr

namespace L2
open PySem PySem.Spec PyProof.Rows
/-! ### del xs[a:], by the model's own list.__delitem__ -/
section
variable {prog : Program} {w : World} {A : Around} {E : Value → Shared → Prop} {s : Shared}
theorem cut_zip {p : Nat → Bool} {a : Nat} : ∀ (l : List Value) (i : Nat), (∀ k, i ≤ k → k < i + l.length → p k = decide (a ≤ k)) → (l.zipIdx i).filterMap (fun (x, k) => if p k then none else some x) = l.take (a - i)
  | [], i, _ => by simp
  | x :: l, i, h => by
    rw [List.zipIdx_cons, List.filterMap_cons]
    have ih := cut_zip (p := p) (a := a) l (i + 1) fun k h1 h2 => h k (by omega) (by rw [List.length_cons]; omega)
    have h0 := h i (Nat.le_refl _) (by rw [List.length_cons]; omega)
    by_cases hai : a ≤ i
    · rw [decide_eq_true hai] at h0
      simp only [h0, if_true]
      rw [ih, show a - (i + 1) = 0 by omega, show a - i = 0 by omega]
      simp
    · rw [decide_eq_false hai] at h0
      simp only [h0, Bool.false_eq_true, if_false]
      rw [ih, show a - i = (a - (i + 1)) + 1 by omega, List.take_succ_cons]
theorem bounds_from {a n : Nat} (h : a ≤ n) : sliceBounds (some (a : Int)) none none n = ((a : Int), (n : Int), 1) := by
  simp only [sliceBounds, Option.getD_none]
  have h1 : ¬ ((a : Int) < 0) := by omega
  simp only [h1, if_false, show (1 : Int) > 0 by decide, if_true]
  congr 1
  omega
set_option maxRecDepth 100000 in
theorem delItem_from {l sl : Addr} {items : Array Value} {n : Nat} {vl : Value} {a : Nat} {Q : Unit → Shared → Prop}
    (e : s.heap.get? l = some { cls := .type "list", data := .seq items n }) (hs : s.heap.IsSliceOf sl vl .none .none) (pl : IsPart vl (some (a : Int))) (ha : a ≤ items.size)
    (hsz : items.size ≤ sizeLine) (h : ∀ f : Array Value → Array Value, f items = (items.toList.take a).toArray → Q () { s with heap := s.heap.update l (Obj.mapSeq f) }) :
    wpAny (model prog w) A (delItem (.ref l) (.ref sl)) Q E s := by
  have hl : s.heap.IsList l items := PySem.IsL.isList e
  obtain ⟨os, hos, hcs, hds⟩ := id hs
  have hTs : s.TypeIs (.ref sl) "slice" := ⟨os, hos, hcs⟩
  have hstep : ¬ ((rawPart none == rawInt 0) = true) := Bool.false_ne_true
  refine wpAny_delItem_slot hl.typeIs (by decide) F.slot_list_delitem (wpAny_call_entry F.slot_list_delitem hl.typeIs F.entry_list_delitem ?_ (F.args_list_delitem_2 _ _))
  show wpAny _ _ (Builtin.List.listSubscript? (.ref sl) >>= _) _ _ s
  refine wpAny_bind ?_
  unfold Builtin.List.listSubscript?
  refine wpAny_bind (wpAny_specialOf hTs slice_no_index ?_)
  simp only [Option.isNone_none, if_true]
  refine wpAny_pure ?_
  show wpAny _ _ (typeOf (.ref sl) >>= _) _ _ s
  refine wpAny_bind (wpAny_typeOf hTs ?_)
  rw [if_neg (by decide)]
  rw [listSliceParts_eq]
  refine wpAny_bind (wpAny_bind (wpAny_field hos hds (x := .none) rfl (wpAny_bind (wpAny_listPart .none ?_))))
  rw [if_neg hstep]
  refine wpAny_bind (wpAny_field hos hds (x := vl) rfl (wpAny_bind (wpAny_listPart pl ?_)))
  refine wpAny_bind (wpAny_field hos hds (x := .none) rfl (wpAny_bind (wpAny_listPart .none (wpAny_pure ?_))))
  unfold Builtin.List.listItems
  refine wpAny_bind (wpAny_bind (wpAny_seqItems e rfl (wpAny_pure ?_)))
  refine wpAny_bind (wpAny_of_eq ((sliceIndices_raw (some (a : Int)) none none items.size (by simp)).trans (congrArg (pure : Int × Int × Int → Sem (Int × Int × Int)) (bounds_from ha))) ?_)
  refine wpAny_bind (wpAny_rule ?_)
  have key : ∀ (p : Nat → Bool) (f : Array Value → Array Value), (∀ k, k < items.size → p k = decide (a ≤ k)) → (∀ xs, f xs = (xs.toList.zipIdx.filterMap fun (x, k) => if p k then none else some x).toArray) → f items = (items.toList.take a).toArray := fun p f hp hf => by
    rw [hf, cut_zip (a := a) items.toList 0 fun k _ h2 => hp k (by simpa using h2)]
    rfl
  have sz : ∀ f : Array Value → Array Value, f items = (items.toList.take a).toArray → (f items).size ≤ sizeLine + 1 := fun f hf => by
    rw [hf, List.size_toArray, List.length_take, Array.length_toList]
    omega
  have pk : ∀ k, k < items.size → (if (1 : Int) > 0 then decide ((a : Int) ≤ (k : Int)) && decide ((k : Int) < (items.size : Int)) && (((k : Int) - (a : Int)) % 1 == 0) else decide ((items.size : Int) < (k : Int)) && decide ((k : Int) ≤ (a : Int)) && (((a : Int) - (k : Int)) % (-1) == 0)) = decide (a ≤ k) := fun k hk => by
    rw [if_pos (by decide), Int.emod_one, decide_eq_true (show (k : Int) < (items.size : Int) by omega), Bool.and_true]
    simp
  have fk : (fun xs : Array Value => (xs.toList.zipIdx.filterMap fun (x, k) => if (if (1 : Int) > 0 then decide ((a : Int) ≤ (k : Int)) && decide ((k : Int) < (items.size : Int)) && (((k : Int) - (a : Int)) % 1 == 0) else decide ((items.size : Int) < (k : Int)) && decide ((k : Int) ≤ (a : Int)) && (((a : Int) - (k : Int)) % (-1) == 0)) then none else some x).toArray) items = (items.toList.take a).toArray := key (fun k : Nat => (if (1 : Int) > 0 then decide ((a : Int) ≤ (k : Int)) && decide ((k : Int) < (items.size : Int)) && (((k : Int) - (a : Int)) % 1 == 0) else decide ((items.size : Int) < (k : Int)) && decide ((k : Int) ≤ (a : Int)) && (((a : Int) - (k : Int)) % (-1) == 0))) _ pk (fun xs => rfl)
  generalize hf0 : (fun xs : Array Value => (xs.toList.zipIdx.filterMap fun (x, k) => if (if (1 : Int) > 0 then decide ((a : Int) ≤ (k : Int)) && decide ((k : Int) < (items.size : Int)) && (((k : Int) - (a : Int)) % 1 == 0) else decide ((items.size : Int) < (k : Int)) && decide ((k : Int) ≤ (a : Int)) && (((a : Int) - (k : Int)) % (-1) == 0)) then none else some x).toArray) = f0 at fk
  refine wpAny_bind (wpAny_updateSeq (hz := hsz) (_hz' := by have z := sz f0 fk; subst hf0; exact z) e rfl ?_)
  refine wpAny_bind (wpAny_letGo ?_)
  exact wpAny_pure ⟨.none, rfl, by have z := h f0 fk; subst hf0; exact z⟩
end
end L2
namespace L2
open PySem PySem.Spec PyProof.Rows
section
variable {X : Cx}
/-- del xs[a:] -/
def tDelFrom (to tl : TE) : TS := fun D σ H => to σ H fun x H1 => tl σ H1 fun y H2 => ∃ (l : Addr) (xs : List V) (a : Nat), x = .ref l ∧ y = .int (a : Nat) ∧ H2 l = some (.lst xs) ∧ a ≤ xs.length ∧ D.nx σ (upd H2 l (.lst (xs.take a)))
theorem ps_delFrom {o lo : Expr} {to tl : TE} {tpos p2 pos : Pos} (ho : PE X o to) (hl : PE X lo tl) : PS X (.Delete [.Subscript o (.Slice (some lo) none none p2) tpos] pos) (tDelFrom to tl) := by
  refine ⟨fun pins s σ H D I h => ?_⟩
  refine wpAny_Delete (wpAny_deleteEach_cons (wpAny_delete_Subscript (thn (ho.run pins s σ H _ I h) fun u s1 ⟨x, H1, I1, rx, q1⟩ => ?_)))
  refine wpAny_Slice ?_
  rw [evalPart_some, evalPart_none]
  refine thn (hl.run pins s1 σ H1 _ I1 q1) fun vl s2 ⟨y, H2, I2, ry, q2⟩ => ?_
  refine wpAny_pure ?_
  refine wpAny_pure ?_
  obtain ⟨l, xs, a, ex, ey, hH, ha, q⟩ := q2
  subst ex
  subst ey
  cases (show u = Value.ref l from rx)
  obtain ⟨t, rfl⟩ := (show ∃ t, vl = Value.int (a : Nat) t from ry)
  have I3 : Inv X pins σ H2 { s2 with heap := s2.heap.push { cls := .type "slice", data := .fields #[.int (a : Nat) t, .none, .none] } } := I2.kept (t' := s2.toks) fun b ob z => Heap.get?_push_of_some _ z
  obtain ⟨z, its, n, r, hlen, e⟩ := I3.lstM hH
  refine delItem_from (a := a) e (Heap.IsSliceOf.new ..) (.int _ _) (by rw [List.size_toArray]; omega) (by rw [List.size_toArray]; omega) fun f hf => ?_
  refine wpAny_deleteEach_nil ⟨σ, _, ?_, q⟩
  refine I3.lset (its' := its.take a) (t' := s2.toks) hH e ?_ (r.take a) ?_
  · rw [hf]
  · rw [List.length_take]
    omega
end
/-! ### enumerate(text) -/
def Ities (x : Str) : It :=
  ⟨fun i _ => i < x.cps.size, fun i H v H' => ∃ T c, v = .ref T ∧ H T = none ∧ x.cps[i]? = some c ∧ H' = upd H T (.tup [.int (i : Nat), .str ⟨#[c]⟩]), fun i _ => i = x.cps.size⟩
theorem turn_enumS {P : Program} {w : World} {K : PySem.W.Frag} {elts : List Expr} {kk : Nat} {tpos : Pos} (x : Str) (t : Tok) (e it : Addr) (ty : String) (hty : ty = "str_ascii_iterator" ∨ ty = "str_iterator") :
    Turn P w K (.Tuple elts kk tpos) (Ities x) [e, it] e (fun i h => (∃ old, IsEnum h e it ((i : Nat) : Int) old) ∧ h.IsStrIter it ty x t i ∧ e ≠ it) where
  mem := by simp
  obj := fun i h st b hb => by
    obtain ⟨⟨old, he⟩, ⟨o, ho, hc, hd⟩, _⟩ := st
    have e' : b = e ∨ b = it := by simpa using hb
    rcases e' with z | z
    · rw [z]; exact ⟨_, he, fun v q => nomatch q⟩
    · rw [z]; exact ⟨o, ho, fun v q => by rw [hd] at q; cases q⟩
  keep := fun i h h' st k => let ⟨⟨old, he⟩, ⟨o, ho, r⟩, hne⟩ := st; ⟨⟨old, k e (by simp) _ he⟩, ⟨o, k it (by simp) o ho, r⟩, hne⟩
  item := by
    intro X hP hw hK hc i pins s σ H E I hf st hg
    subst hP hw hK
    obtain ⟨⟨old, he⟩, hit, hne⟩ := st
    have hel : e < s.heap.objs.size := Heap.lt_size he
    have hil : it < s.heap.objs.size := by obtain ⟨_, q, _⟩ := hit; exact Heap.lt_size q
    have W : Draws X.prog X.w X.A.in1 it [it] x.cps.size (fun i v => ∃ c u, x.cps[i]? = some c ∧ v = .str ⟨#[c]⟩ u) (fun i h => h.IsStrIter it ty x t i) := by
      rcases hty with q | q
      · rw [q]; exact Draws.strAscii (A := X.A.in1) (show X.A.in1.handled = none from I.ok.hd hc) it x t
      · rw [q]; exact Draws.strWide (A := X.A.in1) (show X.A.in1.handled = none from I.ok.hd hc) it x t
    refine wpAny_pyNext_enum_itemD W he hit hg hne (by simpa using hne) fun v h' tk hv ho hit' hT hsz hk => ?_
    obtain ⟨c, u, hcx, rfl⟩ := hv
    refine ⟨_, rfl, wpAny_letOwnedTupleGo_enum (s := { s with heap := h', toks := tk + 1 }) ho fun h'' he' sb => ?_⟩
    have hT2 : h''.get? s.heap.objs.size = some { cls := .type "tuple", data := .seq #[.int i tk, .str ⟨#[c]⟩ u] } := (sb.2 _ (Nat.ne_of_gt hel)).trans hT
    have new : ObjOk X.prog X.w (upd H s.heap.objs.size (.tup [.int (i : Nat), .str ⟨#[c]⟩])) h'' s.heap.objs.size (.tup [.int (i : Nat), .str ⟨#[c]⟩]) :=
      ⟨by show 2 ≤ sizeLine; decide, [.int i tk, .str ⟨#[c]⟩ u], .cons ⟨_, rfl⟩ (.cons ⟨_, rfl⟩ .nil), ⟨_, hT2, rfl, _, rfl⟩⟩
    have I1 : Inv X pins σ (upd H s.heap.objs.size (.tup [.int (i : Nat), .str ⟨#[c]⟩])) { s with heap := h'', toks := tk + 1 } :=
      I.turnedNew (ch := [e, it]) (fun b ob hb q => (sb.2 b (fun z => hb (by simp [z]))).trans (hk b ob (fun z => hb (by simp [z])) (fun z => hb (by simp [z])) q)) hf (Nat.le_refl _) new
    refine ⟨.ref s.heap.objs.size, _, I1, rfl, ⟨_, c, rfl, I.hok.fresh (Nat.le_refl _), hcx, rfl⟩, ⟨⟨.str ⟨#[c]⟩ u, ?_⟩, ?_, hne⟩, fun b hb => ?_⟩
    · have e1 : ((i + 1 : Nat) : Int) = (i : Int) + 1 := by omega
      rw [e1]; exact he'
    · obtain ⟨o, ho2, r⟩ := hit'
      exact ⟨o, (sb.2 it (Ne.symm hne)).trans ho2, r⟩
    · have hb' : b < s.heap.objs.size := by
        have e' : b = e ∨ b = it := by simpa using hb
        rcases e' with z | z
        · rw [z]; exact hel
        · rw [z]; exact hil
      rw [upd_ne (Nat.ne_of_lt hb')]
      exact (hf b hb).1
  done := by
    intro X hP hw hK hc i pins s σ H E I hf st hg
    subst hP hw hK
    obtain ⟨⟨old, he⟩, hit, hne⟩ := st
    have hg' : i = x.cps.size := hg
    subst hg'
    have W : Draws X.prog X.w X.A.in1 it [it] x.cps.size (fun i v => ∃ c u, x.cps[i]? = some c ∧ v = .str ⟨#[c]⟩ u) (fun i h => h.IsStrIter it ty x t i) := by
      rcases hty with q | q
      · rw [q]; exact Draws.strAscii (A := X.A.in1) (show X.A.in1.handled = none from I.ok.hd hc) it x t
      · rw [q]; exact Draws.strWide (A := X.A.in1) (show X.A.in1.handled = none from I.ok.hd hc) it x t
    obtain ⟨f0, f1, f2, f3, f4, f5⟩ := hf it (by simp)
    exact wpAny_pyNext_enum_endD W he hit fun h' eb => ⟨rfl, I.turned (t' := s.toks) (fun b o hb q => eb b o hb q) f0 f1 f3 f4 f5⟩
  self := fun A i s Q E st h => let ⟨⟨_, he⟩, _⟩ := st; wpAny_pyIter_enum he h
def iEnumS (ta : TA) : TI := fun σ H R => ta σ H fun vs H1 => ∃ x, vs = [.str x] ∧ R (Ities x) H1
theorem pi_enumS {X : Cx} {e : Expr} {ta : TA} {p pos tpos : Pos} {elts : List Expr} {kk : Nat} (hg : Gl X "enumerate") (hm : X.mg "enumerate" = none) (ha : PA X [e] ta) (hs : starEach [e] X.env = [(false, eval e X.env)] := by rfl) :
    PI X (.Tuple elts kk tpos) (.Call (.Name "enumerate" p) [e] [] pos) (iEnumS ta) := by
  refine ⟨fun pins s σ H R I h => ?_⟩
  refine Call_ (ld_blt I hg hm boot_enumerate (PyProof.Rows.callWith_type1 (thn (ha.run pos pins s σ H _ I h) fun us s1 ⟨vs, H1, I1, r1, q1⟩ => ?_) hs rfl))
  obtain ⟨x, ex, q⟩ := q1
  subst ex
  cases r1 with
  | cons r rr =>
    cases rr
    obtain ⟨t, rfl⟩ := r
    refine call_enumerate_str fun h' he hit hsz hk => wpAny_pyIter_enum he ?_
    have I2 : Inv X pins σ H1 { s1 with heap := h' } := I1.kept (t' := s1.toks) hk
    have hty : strIterType x = "str_ascii_iterator" ∨ strIterType x = "str_iterator" := by
      unfold strIterType
      split
      · exact .inl rfl
      · exact .inr rfl
    refine ⟨s1.heap.objs.size + 1, [s1.heap.objs.size + 1, s1.heap.objs.size], _, _, H1, rfl, I2, turn_enumS x t (s1.heap.objs.size + 1) s1.heap.objs.size _ hty, ⟨⟨.none, he⟩, hit, Nat.succ_ne_self _⟩, fun b hb => ?_, q⟩
    have e' : b = s1.heap.objs.size + 1 ∨ b = s1.heap.objs.size := by simpa using hb
    have hle : s1.heap.objs.size ≤ b := by
      rcases e' with z | z
      · rw [z]; exact Nat.le_add_right _ _
      · rw [z]; exact Nat.le_refl _
    exact I1.fpOk hle (I1.hok.fresh hle)
theorem walk_enumS {x : Str} : Walk (Ities x) x.cps.size (fun _ => True) (fun i H v H' => ∃ T c, v = .ref T ∧ H T = none ∧ x.cps[i]? = some c ∧ H' = upd H T (.tup [.int (i : Nat), .str ⟨#[c]⟩])) :=
  ⟨fun _ _ hi _ => hi, fun _ _ => rfl, fun _ _ _ _ _ _ y => y⟩
end L2
namespace L2
open PySem PySem.Spec PyProof.Rows
theorem x_del {to tl : TE} {D : Ends} {σ : St} {H : Hp} (q : to σ H fun x H1 => tl σ H1 fun y H2 => ∃ (l : Addr) (xs : List V) (a : Nat), x = .ref l ∧ y = .int (a : Nat) ∧ H2 l = some (.lst xs) ∧ a ≤ xs.length ∧ D.nx σ (upd H2 l (.lst (xs.take a)))) : tDelFrom to tl D σ H := q
theorem x_iEnumS {t : TA} {σ : St} {H : Hp} {R : It → Hp → Prop} (q : t σ H fun vs H1 => ∃ x, vs = [.str x] ∧ R (Ities x) H1) : iEnumS t σ H R := q
theorem x_delFrom {p : Addr} {xs : List V} {i : Int} {k : Nat} {H : Hp} {R : Addr → List V → Nat → Prop} (h : H p = some (.lst xs)) (e : i = (k : Int)) (hk : k ≤ xs.length) (q : R p xs k) :
    ∃ (l : Addr) (xs : List V) (a : Nat), V.ref p = .ref l ∧ V.int i = .int (a : Nat) ∧ H l = some (.lst xs) ∧ a ≤ xs.length ∧ R l xs a := ⟨p, xs, k, rfl, by rw [e], h, hk, q⟩
end L2
namespace L2
open PySem PySem.Spec PyProof.Rows
/-! ### a test of three comparisons in a row -/
section
variable {X : Cx} {a b c d : Expr} {ta tb tc td : TE} {pos : Pos}
def tChain3 (r r' r'' : R2) (ta tb tc td : TE) : TT := fun σ H R => ta σ H fun x H1 => tb σ H1 fun y H2 => r x y H2 fun z H3 => ∃ k, z = .bl k ∧
  (if k = true then tc σ H3 fun w' H4 => r' y w' H4 fun z2 H5 => ∃ k2, z2 = .bl k2 ∧ (if k2 = true then td σ H5 fun v' H6 => r'' w' v' H6 fun z3 H7 => ∃ k3, z3 = .bl k3 ∧ R k3 H7 else R false H5) else R false H3)
theorem pt_chain3 {op op' op'' : CmpOp} {r r' r'' : R2} (ho : OpR X (compareOp op) r) (ho' : OpR X (compareOp op') r') (ho'' : OpR X (compareOp op'') r'') (ha : PE X a ta) (hb : PE X b tb) (hc : PE X c tc) (hd : PE X d td)
    (hm : lastMarks [op, op', op''] [b, c, d] = false := by with_unfolding_all rfl) : PT X (.Compare a [op, op', op''] [b, c, d] pos) (tChain3 r r' r'' ta tb tc td) := by
  refine ⟨fun pins s σ H Q I h => ?_⟩
  refine isTrue_chain (thn (ha.run pins s σ H _ I h) fun v s1 ⟨x, H1, I1, r1, q1⟩ => test_link (thn (hb.run pins s1 σ H1 _ I1 q1) fun u s2 ⟨y, H2, I2, r2, q2⟩ =>
    thn (ho pins s2 σ H2 x y v u _ I2 r1 r2 q2) fun d s3 ⟨z, H3, I3, r3, k, e, q3⟩ => ?_)) hm
  subst e
  cases r3
  refine wpAny_truthy_bool ?_
  cases k with
  | false => exact ite_ff ⟨H3, I3, q3⟩
  | true =>
    refine ite_tt (test_link (thn (hc.run pins s3 σ H3 _ I3 q3) fun w' s4 ⟨z', H4, I4, r4, q4⟩ => thn (ho' pins s4 σ H4 y z' u w' _ I4 r2 r4 q4) fun d' s5 ⟨z2, H5, I5, r5, k2, e2, q5⟩ => ?_))
    subst e2
    cases r5
    refine wpAny_truthy_bool ?_
    cases k2 with
    | false => exact ite_ff ⟨H5, I5, q5⟩
    | true =>
      refine ite_tt (test_last (thn (hd.run pins s5 σ H5 _ I5 q5) fun v' s6 ⟨z4, H6, I6, r6, q6⟩ => thn (ho'' pins s6 σ H6 z' z4 w' v' _ I6 r4 r6 q6) fun d2 s7 ⟨z5, H7, I7, r7, k3, e3, q7⟩ => ?_))
      subst e3
      cases r7
      exact wpAny_truthy_bool ⟨H7, I7, q7⟩
theorem x_chain3 {r r' r'' : R2} {σ : St} {H : Hp} {R : Bool → Hp → Prop} (q : ta σ H fun x H1 => tb σ H1 fun y H2 => r x y H2 fun z H3 => ∃ k, z = .bl k ∧
  (if k = true then tc σ H3 fun w' H4 => r' y w' H4 fun z2 H5 => ∃ k2, z2 = .bl k2 ∧ (if k2 = true then td σ H5 fun v' H6 => r'' w' v' H6 fun z3 H7 => ∃ k3, z3 = .bl k3 ∧ R k3 H7 else R false H5) else R false H3)) : tChain3 r r' r'' ta tb tc td σ H R := q
end
end L2

namespace Sr
/-! ### stretches by levels -/
/-- (b, e) stands by itself: the level at b is lower, at e higher, than every other one between -/
def St (s : Nat → Int) (b e : Nat) : Prop := b < e ∧ (∀ j, b < j → j ≤ e → s b < s j) ∧ (∀ j, b ≤ j → j < e → s j < s e)
def Ripe (s : Nat → Int) (n b e : Nat) : Prop := St s b e ∧ e ≤ n ∧ ∀ b' e', St s b' e' → e' ≤ n → b' ≤ b → e ≤ e' → b' = b ∧ e' = e
def Apt (p q : Nat × Nat) : Prop := p.2 ≤ q.1
structure RL (s : Nat → Int) (n : Nat) (L : List (Nat × Nat)) : Prop where
  ripe : ∀ p ∈ L, Ripe s n p.1 p.2
  all : ∀ b e, Ripe s n b e → (b, e) ∈ L
  apt : L.Pairwise Apt
section
variable {s : Nat → Int}
theorem argmax_first (s : Nat → Int) (b : Nat) : ∀ k : Nat, ∃ m, b ≤ m ∧ m ≤ b + k ∧ (∀ j, b ≤ j → j < m → s j < s m) ∧ ∀ j, b ≤ j → j ≤ b + k → s j ≤ s m
  | 0 => ⟨b, Nat.le_refl _, Nat.le_refl _, fun j h1 h2 => by omega, fun j h1 h2 => by
    have : j = b := by omega
    subst this
    exact Int.le_refl _⟩
  | k + 1 => by
    obtain ⟨m, h1, h2, h3, h4⟩ := argmax_first s b k
    by_cases h : s m < s (b + (k + 1))
    · refine ⟨b + (k + 1), by omega, Nat.le_refl _, fun j j1 j2 => ?_, fun j j1 j2 => ?_⟩
      · have := h4 j j1 (by omega)
        omega
      · by_cases hj : j = b + (k + 1)
        · subst hj
          exact Int.le_refl _
        · have := h4 j j1 (by omega)
          omega
    · refine ⟨m, h1, by omega, h3, fun j j1 j2 => ?_⟩
      by_cases hj : j = b + (k + 1)
      · subst hj
        omega
      · exact h4 j j1 (by omega)
theorem argmin_last (s : Nat → Int) (b : Nat) : ∀ k : Nat, ∃ m, b ≤ m ∧ m ≤ b + k ∧ (∀ j, m < j → j ≤ b + k → s m < s j) ∧ ∀ j, b ≤ j → j ≤ b + k → s m ≤ s j
  | 0 => ⟨b, Nat.le_refl _, Nat.le_refl _, fun j h1 h2 => by omega, fun j h1 h2 => by
    have : j = b := by omega
    subst this
    exact Int.le_refl _⟩
  | k + 1 => by
    obtain ⟨m, h1, h2, h3, h4⟩ := argmin_last s b k
    by_cases h : s (b + (k + 1)) ≤ s m
    · refine ⟨b + (k + 1), by omega, Nat.le_refl _, fun j j1 j2 => by omega, fun j j1 j2 => ?_⟩
      by_cases hj : j = b + (k + 1)
      · subst hj
        exact Int.le_refl _
      · have := h4 j j1 (by omega)
        omega
    · refine ⟨m, h1, by omega, fun j j1 j2 => ?_, fun j j1 j2 => ?_⟩
      · by_cases hj : j = b + (k + 1)
        · subst hj
          omega
        · exact h3 j j1 (by omega)
      · by_cases hj : j = b + (k + 1)
        · subst hj
          omega
        · exact h4 j j1 (by omega)
theorem ripe_of {n : Nat} : ∀ (k b e : Nat), n - (e - b) ≤ k → St s b e → e ≤ n → ∃ b' e', Ripe s n b' e' ∧ b' ≤ b ∧ e ≤ e' := by
  intro k
  induction k with
  | zero =>
    intro b e hk h he
    refine ⟨b, e, ⟨h, he, fun b' e' h' he' h1 h2 => ?_⟩, Nat.le_refl _, Nat.le_refl _⟩
    have := h.1
    have := h'.1
    omega
  | succ k ih =>
    intro b e hk h he
    by_cases hr : Ripe s n b e
    · exact ⟨b, e, hr, Nat.le_refl _, Nat.le_refl _⟩
    · have : ∃ b' e', St s b' e' ∧ e' ≤ n ∧ b' ≤ b ∧ e ≤ e' ∧ ¬ (b' = b ∧ e' = e) := by
        apply Classical.byContradiction
        intro hc
        exact hr ⟨h, he, fun b' e' h1 h2 h3 h4 => Classical.byContradiction fun hn => hc ⟨b', e', h1, h2, h3, h4, hn⟩⟩
      obtain ⟨b', e', h1, h2, h3, h4, h5⟩ := this
      have := h.1
      obtain ⟨b2, e2, r, h6, h7⟩ := ih b' e' (by omega) h1 h2
      exact ⟨b2, e2, r, by omega, by omega⟩
theorem ripe_over {n b e : Nat} (h : St s b e) (he : e ≤ n) : ∃ b' e', Ripe s n b' e' ∧ b' ≤ b ∧ e ≤ e' := ripe_of _ b e (Nat.le_refl _) h he
theorem St.join {b1 e1 b2 e2 : Nat} (h1 : St s b1 e1) (h2 : St s b2 e2) (hb : b1 ≤ b2) (hm : b2 < e1) (he : e1 ≤ e2) : St s b1 e2 := by
  have l12 : s b1 ≤ s b2 := by
    by_cases h : b1 = b2
    · subst h
      exact Int.le_refl _
    · have := h1.2.1 b2 (by omega) (by omega)
      omega
  have g12 : s e1 ≤ s e2 := by
    by_cases h : e1 = e2
    · subst h
      exact Int.le_refl _
    · have := h2.2.2 e1 (by omega) (by omega)
      omega
  refine ⟨by have := h2.1; omega, fun j j1 j2 => ?_, fun j j1 j2 => ?_⟩
  · by_cases h : j ≤ e1
    · exact h1.2.1 j j1 h
    · have := h2.2.1 j (by omega) j2
      omega
  · by_cases h : b2 ≤ j
    · exact h2.2.2 j h j2
    · have := h1.2.2 j j1 (by omega)
      omega
theorem ripe_apart {n b1 e1 b2 e2 : Nat} (h1 : Ripe s n b1 e1) (h2 : Ripe s n b2 e2) (hb : b1 ≤ b2) : (b1 = b2 ∧ e1 = e2) ∨ e1 ≤ b2 := by
  by_cases hm : e1 ≤ b2
  · exact .inr hm
  · left
    by_cases he : e1 ≤ e2
    · have j := h1.1.join h2.1 hb (by omega) he
      have k1 := h1.2.2 b1 e2 j h2.2.1 (Nat.le_refl _) he
      have k2 := h2.2.2 b1 e2 j h2.2.1 hb (Nat.le_refl _)
      exact ⟨k2.1, k1.2.symm⟩
    · have k2 := h2.2.2 b1 e1 h1.1 h1.2.1 hb (by omega)
      exact k2
/-- a beginning b of a stretch that ends behind the like pair at i; R: what is ripe ahead of b -/
structure Cand (s : Nat → Int) (i b : Nat) (R : List (Nat × Nat)) : Prop where
  st : St s b (i + 1)
  ripe : ∀ p ∈ R, Ripe s i p.1 p.2 ∧ p.2 ≤ b
  all : ∀ b' e', Ripe s i b' e' → e' ≤ b → (b', e') ∈ R
  cut : ∀ b' e', Ripe s i b' e' → e' ≤ b ∨ b ≤ b'
  apt : R.Pairwise Apt
theorem Cand.start {i : Nat} {L : List (Nat × Nat)} (h : RL s i L) (hi : s i < s (i + 1)) : Cand s i i L where
  st := ⟨by omega, fun j j1 j2 => by
    have : j = i + 1 := by omega
    subst this
    exact hi, fun j j1 j2 => by
    have : j = i := by omega
    subst this
    exact hi⟩
  ripe := fun p hp => ⟨h.ripe p hp, (h.ripe p hp).2.1⟩
  all := fun b' e' r _ => h.all b' e' r
  cut := fun b' e' r => .inl r.2.1
  apt := h.apt
theorem Cand.le {i b : Nat} {R : List (Nat × Nat)} (h : Cand s i b R) : b ≤ i := by
  have := h.st.1
  omega
theorem mem_split {R1 R2 : List (Nat × Nat)} {q p : Nat × Nat} (h : p ∈ R1 ++ q :: R2) : p ∈ R1 ∨ p = q ∨ p ∈ R2 := by
  rcases List.mem_append.mp h with h | h
  · exact .inl h
  · rcases List.mem_cons.mp h with h | h
    · exact .inr (.inl h)
    · exact .inr (.inr h)
theorem apt_split {R1 R2 : List (Nat × Nat)} {q : Nat × Nat} (h : (R1 ++ q :: R2).Pairwise Apt) : R1.Pairwise Apt ∧ (∀ p ∈ R1, Apt p q) ∧ (∀ p ∈ R2, Apt q p) := by
  rw [List.pairwise_append] at h
  obtain ⟨h1, h2, h3⟩ := h
  refine ⟨h1, fun p hp => h3 p hp q (List.mem_cons_self ..), fun p hp => ?_⟩
  rw [List.pairwise_cons] at h2
  exact h2.1 p hp
/-- no beginning further left -/
theorem Cand.leftmost {i b : Nat} {R : List (Nat × Nat)} (h : Cand s i b R)
    (hc : (∀ p ∈ R, s b ≤ s p.1) ∨ ∃ R1 R2 bk ek, R = R1 ++ (bk, ek) :: R2 ∧ (∀ p ∈ R2, s b ≤ s p.1) ∧ s (i + 1) ≤ s ek) : ∀ b', b' < b → ¬ St s b' (i + 1) := by
  intro b' hb hs
  have hbi := h.le
  have l1 : s b' < s b := hs.2.1 b hb (by omega)
  obtain ⟨m, m1, m2, m3, m4⟩ := argmax_first s b' (b - b')
  have hm : b' ≠ m := fun e => by
    have := m4 b (by omega) (by omega)
    rw [← e] at this
    omega
  have st2 : St s b' m := ⟨by omega, fun j j1 j2 => hs.2.1 j j1 (by omega), fun j j1 j2 => m3 j j1 j2⟩
  obtain ⟨bj, ej, r, r1, r2⟩ := ripe_over (n := i) st2 (by omega)
  have hej : ej ≤ b := by
    rcases h.cut bj ej r with z | z
    · exact z
    · omega
  have hmem := h.all bj ej r hej
  have l2 : s bj ≤ s b' := by
    by_cases hz : bj = b'
    · subst hz
      exact Int.le_refl _
    · have := r.1.2.1 b' (by omega) (by omega)
      omega
  rcases hc with hc | ⟨R1, R2, bk, ek, rfl, hc1, hc2⟩
  · have := hc _ hmem
    show False
    simp only at this
    omega
  · obtain ⟨a1, a2, a3⟩ := apt_split h.apt
    have rk : Ripe s i bk ek ∧ ek ≤ b := h.ripe (bk, ek) (by simp)
    have hk1 : bk < ek := rk.1.1.1
    have hk2 : ek ≤ b := rk.2
    rcases mem_split hmem with z | z | z
    · have : ej ≤ bk := a2 _ z
      have := hs.2.2 ek (by omega) (by omega)
      omega
    · have e1 : bj = bk := congrArg Prod.fst z
      have e2 : ej = ek := congrArg Prod.snd z
      have := hs.2.2 ek (by omega) (by omega)
      omega
    · have := hc1 _ z
      simp only at this
      omega
theorem Cand.step {i b bk ek : Nat} {R1 R2 : List (Nat × Nat)} (h : Cand s i b (R1 ++ (bk, ek) :: R2)) (h2 : ∀ p ∈ R2, s b ≤ s p.1) (hl : s bk < s b) (hh : s ek < s (i + 1)) : Cand s i bk R1 := by
  have hbi := h.le
  obtain ⟨a1, a2, a3⟩ := apt_split h.apt
  have rk : Ripe s i bk ek ∧ ek ≤ b := h.ripe (bk, ek) (by simp)
  have hk1 : bk < ek := rk.1.1.1
  have hk2 : ek ≤ b := rk.2
  have gapL : ∀ j, bk < j → j ≤ b → s bk < s j := by
    intro j j1 j2
    by_cases hj : j ≤ ek
    · exact rk.1.1.2.1 j j1 hj
    · apply Classical.byContradiction
      intro hn
      obtain ⟨m, m1, m2, m3, m4⟩ := argmin_last s j (b - j)
      have lm : s m ≤ s bk := by
        have := m4 j (Nat.le_refl _) (by omega)
        omega
      have hmb : m ≠ b := fun e => by
        rw [e] at lm
        omega
      obtain ⟨e2, e21, e22, e23, e24⟩ := argmax_first s m (b - m)
      have hne : m ≠ e2 := fun e => by
        have := e24 b (by omega) (by omega)
        rw [← e] at this
        omega
      have st2 : St s m e2 := ⟨by omega, fun x x1 x2 => m3 x x1 (by omega), fun x x1 x2 => e23 x x1 x2⟩
      obtain ⟨bj, ej, r, r1, r2⟩ := ripe_over (n := i) st2 (by omega)
      have hej : ej ≤ b := by
        rcases h.cut bj ej r with z | z
        · exact z
        · omega
      have l2 : s bj ≤ s m := by
        by_cases hz : bj = m
        · subst hz
          exact Int.le_refl _
        · have := r.1.2.1 m (by omega) (by omega)
          omega
      rcases mem_split (h.all bj ej r hej) with z | z | z
      · have : ej ≤ bk := a2 _ z
        omega
      · have e3 : ej = ek := congrArg Prod.snd z
        omega
      · have := h2 _ z
        simp only at this
        omega
  have gapH : ∀ j, bk ≤ j → j ≤ b → s j < s (i + 1) := by
    intro j j1 j2
    by_cases hj : j ≤ ek
    · by_cases hz : j = ek
      · rw [hz]
        exact hh
      · have := rk.1.1.2.2 j j1 (by omega)
        omega
    · apply Classical.byContradiction
      intro hn
      obtain ⟨m, m1, m2, m3, m4⟩ := argmax_first s bk (j - bk)
      have hm : s (i + 1) ≤ s m := by
        have := m4 j (by omega) (by omega)
        omega
      have hek : s ek < s m := by omega
      have hme : ek < m := by
        apply Classical.byContradiction
        intro hz
        by_cases hz2 : m = ek
        · rw [hz2] at hek
          omega
        · have := rk.1.1.2.2 m m1 (by omega)
          omega
      have st2 : St s bk m := ⟨by omega, fun x x1 x2 => gapL x x1 (by omega), fun x x1 x2 => m3 x x1 x2⟩
      have := rk.1.2.2 bk m st2 (by omega) (Nat.le_refl _) (Nat.le_of_lt hme)
      simp only at this
      omega
  refine ⟨⟨by omega, fun j j1 j2 => ?_, fun j j1 j2 => ?_⟩, fun p hp => ⟨(h.ripe p (by simp [hp])).1, a2 p hp⟩, fun b' e' r he => ?_, fun b' e' r => ?_, a1⟩
  · by_cases hj : j ≤ b
    · exact gapL j j1 hj
    · have := h.st.2.1 j (by omega) j2
      omega
  · by_cases hj : j ≤ b
    · exact gapH j j1 hj
    · exact h.st.2.2 j (by omega) j2
  · rcases mem_split (h.all b' e' r (by omega)) with z | z | z
    · exact z
    · have e3 : e' = ek := congrArg Prod.snd z
      omega
    · have : ek ≤ b' := a3 _ z
      have := r.1.1
      omega
  · by_cases hz : b' ≤ bk
    · rcases ripe_apart r rk.1 hz with ⟨z, _⟩ | z
      · exact .inr (by omega)
      · exact .inl z
    · exact .inr (by omega)
theorem Cand.done {i b : Nat} {R : List (Nat × Nat)} (h : Cand s i b R) (hl : ∀ b', b' < b → ¬ St s b' (i + 1)) : RL s (i + 1) (R ++ [(b, i + 1)]) := by
  have hbi := h.le
  have rb : Ripe s (i + 1) b (i + 1) := ⟨h.st, Nat.le_refl _, fun b' e' st he hb hi => by
    have e2 : e' = i + 1 := by omega
    subst e2
    refine ⟨?_, rfl⟩
    by_cases hz : b' < b
    · exact absurd st (hl b' hz)
    · omega⟩
  refine ⟨fun p hp => ?_, fun b' e' r => ?_, ?_⟩
  · rcases List.mem_append.mp hp with z | z
    · obtain ⟨r, hr⟩ := h.ripe p z
      refine ⟨r.1, by have := r.2.1; omega, fun b' e' st he hb hi => ?_⟩
      by_cases hz : e' ≤ i
      · exact r.2.2 b' e' st hz hb hi
      · have e2 : e' = i + 1 := by omega
        subst e2
        have := r.1.1
        exact absurd st (hl b' (by omega))
    · rw [List.mem_singleton.mp z]
      exact rb
  · by_cases hz : e' ≤ i
    · have r' : Ripe s i b' e' := ⟨r.1, hz, fun b2 e2 st he hb hi => r.2.2 b2 e2 st (by omega) hb hi⟩
      rcases h.cut b' e' r' with z | z
      · exact List.mem_append.mpr (.inl (h.all b' e' r' z))
      · have := r.2.2 b (i + 1) h.st (Nat.le_refl _) z (by omega)
        omega
    · have e2 : e' = i + 1 := by
        have := r.2.1
        omega
      subst e2
      by_cases hlt : b' < b
      · exact absurd r.1 (hl b' hlt)
      · have := r.2.2 b (i + 1) h.st (Nat.le_refl _) (by omega) (Nat.le_refl _)
        rw [← this.1]
        simp
  · rw [List.pairwise_append]
    refine ⟨h.apt, by simp, fun p hp q hq => ?_⟩
    rw [List.mem_singleton.mp hq]
    exact (h.ripe p hp).2
theorem RL.unlike {i : Nat} {L : List (Nat × Nat)} (h : RL s i L) (hi : s (i + 1) < s i) : RL s (i + 1) L := by
  have no : ∀ b e, St s b e → e ≤ i + 1 → e ≤ i := fun b e st he => by
    apply Classical.byContradiction
    intro hn
    have e2 : e = i + 1 := by omega
    subst e2
    have := st.2.2 i (by have := st.1; omega) (by omega)
    omega
  refine ⟨fun p hp => ?_, fun b e r => ?_, h.apt⟩
  · have r := h.ripe p hp
    exact ⟨r.1, by have := r.2.1; omega, fun b' e' st he hb hi => r.2.2 b' e' st (no _ _ st he) hb hi⟩
  · exact h.all b e ⟨r.1, no _ _ r.1 r.2.1, fun b' e' st he hb hi => r.2.2 b' e' st (by omega) hb hi⟩
theorem RL.zero (s : Nat → Int) : RL s 0 [] := ⟨(fun p hp => nomatch hp), (fun b e r => by
  have := r.1.1
  have := r.2.1
  omega), .nil⟩
theorem same_sorted : ∀ {L M : List (Nat × Nat)}, L.Pairwise (fun p q => p.1 < q.1) → M.Pairwise (fun p q => p.1 < q.1) → (∀ p, p ∈ L ↔ p ∈ M) → L = M
  | [], [], _, _, _ => rfl
  | [], q :: M, _, _, h => by
    have := (h q).mpr (List.mem_cons_self ..)
    cases this
  | p :: L, [], _, _, h => by
    have := (h p).mp (List.mem_cons_self ..)
    cases this
  | p :: L, q :: M, h1, h2, h => by
    rw [List.pairwise_cons] at h1 h2
    have e : p = q := by
      rcases List.mem_cons.mp ((h p).mp (List.mem_cons_self ..)) with z | z
      · exact z
      · rcases List.mem_cons.mp ((h q).mpr (List.mem_cons_self ..)) with z2 | z2
        · exact z2.symm
        · have := h2.1 p z
          have := h1.1 q z2
          omega
    subst e
    rw [same_sorted h1.2 h2.2 fun x => ⟨fun hx => ?_, fun hx => ?_⟩]
    · rcases List.mem_cons.mp ((h x).mp (List.mem_cons_of_mem _ hx)) with z | z
      · have := h1.1 x hx
        rw [z] at this
        omega
      · exact z
    · rcases List.mem_cons.mp ((h x).mpr (List.mem_cons_of_mem _ hx)) with z | z
      · have := h2.1 x hx
        rw [z] at this
        omega
      · exact z
theorem RL.lt {n : Nat} {L : List (Nat × Nat)} (h : RL s n L) : L.Pairwise (fun p q => p.1 < q.1) := by
  refine List.Pairwise.imp_of_mem ?_ h.apt
  intro p q hp hq hpq
  have := (h.ripe p hp).1.1
  have : p.2 ≤ q.1 := hpq
  omega
theorem RL.unique {n : Nat} {L M : List (Nat × Nat)} (h1 : RL s n L) (h2 : RL s n M) : L = M :=
  same_sorted h1.lt h2.lt fun p => ⟨fun hp => h2.all _ _ (h1.ripe p hp), fun hp => h1.all _ _ (h2.ripe p hp)⟩
/-- it is enough that two of these that differ begin at unlike places, ascending -/
theorem RL.of_lt {n : Nat} {L : List (Nat × Nat)} (h1 : ∀ p ∈ L, Ripe s n p.1 p.2) (h2 : ∀ b e, Ripe s n b e → (b, e) ∈ L) (h3 : L.Pairwise (fun p q => p.1 ≤ q.1 ∧ p ≠ q)) : RL s n L := by
  refine ⟨h1, h2, ?_⟩
  refine List.Pairwise.imp_of_mem ?_ h3
  intro p q hp hq hpq
  rcases ripe_apart (h1 p hp) (h1 q hq) hpq.1 with ⟨z1, z2⟩ | z
  · exact absurd (Prod.ext z1 z2) hpq.2
  · exact z
/-- what the document says of a stretch that stands by itself -/
theorem St_iff {b e : Nat} (hb : b < e) : St s b e ↔ 0 < s e - s b ∧ ∀ b' e', b ≤ b' → b' < e' → e' ≤ e → (b', e') ≠ (b, e) → s e' - s b' < s e - s b := by
  constructor
  · intro h
    refine ⟨by have := h.2.1 e hb (Nat.le_refl _); omega, fun b' e' h1 h2 h3 h4 => ?_⟩
    have k1 : s b ≤ s b' := by
      by_cases hz : b = b'
      · subst hz
        exact Int.le_refl _
      · have := h.2.1 b' (by omega) (by omega)
        omega
    have k2 : s e' ≤ s e := by
      by_cases hz : e' = e
      · subst hz
        exact Int.le_refl _
      · have := h.2.2 e' (by omega) (by omega)
        omega
    by_cases hz : b = b'
    · have : e' ≠ e := fun q => h4 (by rw [hz, q])
      have := h.2.2 e' (by omega) (by omega)
      omega
    · have := h.2.1 b' (by omega) (by omega)
      omega
  · rintro ⟨h1, h2⟩
    refine ⟨hb, fun j j1 j2 => ?_, fun j j1 j2 => ?_⟩
    · by_cases hz : j = e
      · subst hz
        omega
      · have := h2 j e (by omega) (by omega) (Nat.le_refl _) (fun q => by have := congrArg Prod.fst q; simp only at this; omega)
        omega
    · by_cases hz : j = b
      · subst hz
        omega
      · have := h2 b j (Nat.le_refl _) (by omega) (by omega) (fun q => by have := congrArg Prod.snd q; simp only at this; omega)
        omega
end
end Sr
namespace Sr
open PySem PySem.Spec PyProof.Rows L2
/-! ### levels of likes; parts and stretches as tuples -/
def lev (g l : Int) (z : List Nat) (i : Nat) : Int := wor g l (z.take i)
theorem lev_succ (g l : Int) {z : List Nat} {i : Nat} (h : i < z.length) : lev g l z (i + 1) = lev g l z i + (if z[i] = 61 then g else -l) := wor_take g l h
theorem lev_zero (g l : Int) (z : List Nat) : lev g l z 0 = 0 := by
  unfold lev
  rw [List.take_zero]
  rfl
/-- only the object at a is another -/
def K1 (a : Addr) (H H' : Hp) : Prop := ∀ p o, p ≠ a → H p = some o → H' p = some o
theorem K1.refl {a : Addr} (H : Hp) : K1 a H H := fun _ _ _ h => h
theorem K1.trans {a : Addr} {H H1 H2 : Hp} (x : K1 a H H1) (y : K1 a H1 H2) : K1 a H H2 := fun p o h1 h => y p o h1 (x p o h1 h)
theorem K1.of {a : Addr} {H H' : Hp} (x : Same H H') : K1 a H H' := fun p o _ h => x p o h
theorem K1.at {a : Addr} {H : Hp} {o : HO} : K1 a H (upd H a o) := fun q u n e => by
  rw [upd_ne n]
  exact e
theorem K1.same {a : Addr} {H0 H H' : Hp} (x : K1 a H H') (h0 : H0 a = none) (s : Same H0 H) : Same H0 H' := fun p o h => x p o (ne_of_none h h0) (s p o h)
/-- the tuples at as tell L, each by f -/
def Tup {α : Type} (f : α → List V) (H : Hp) (as : List Addr) (L : List α) : Prop := as.length = L.length ∧ ∀ (j : Nat) (a : Addr) (p : α), as[j]? = some a → L[j]? = some p → H a = some (.tup (f p))
section
variable {α : Type} {f : α → List V} {H H' : Hp} {as : List Addr} {L : List α}
theorem Tup.nil : Tup f H [] [] := ⟨rfl, fun j a p h => by simp at h⟩
theorem Tup.k1 {a : Addr} {xs : List V} (h : Tup f H as L) (k : K1 a H H') (ha : H a = some (.lst xs)) : Tup f H' as L := ⟨h.1, fun j b p h1 h2 => by
  have h3 := h.2 j b p h1 h2
  exact k b _ (ne_of h3 ha (by intro q; cases q)) h3⟩
theorem Tup.same (h : Tup f H as L) (k : Same H H') : Tup f H' as L := ⟨h.1, fun j b p h1 h2 => k b _ (h.2 j b p h1 h2)⟩
theorem Tup.take (h : Tup f H as L) (k : Nat) : Tup f H (as.take k) (L.take k) := ⟨by rw [List.length_take, List.length_take, h.1], fun j b p h1 h2 => by
  rw [List.getElem?_take] at h1 h2
  split at h1
  · rename_i hj
    rw [if_pos hj] at h2
    exact h.2 j b p h1 h2
  · cases h1⟩
theorem Tup.snoc {a : Addr} {p : α} (h : Tup f H as L) (ha : H a = some (.tup (f p))) : Tup f H (as ++ [a]) (L ++ [p]) := ⟨by rw [List.length_append, List.length_append, h.1]; rfl, fun j b q h1 h2 => by
  by_cases hj : j < as.length
  · rw [List.getElem?_append_left hj] at h1
    rw [List.getElem?_append_left (by rw [← h.1]; exact hj)] at h2
    exact h.2 j b q h1 h2
  · rw [List.getElem?_append_right (by omega)] at h1
    rw [List.getElem?_append_right (by rw [← h.1]; omega)] at h2
    have e1 : j - as.length = 0 := by
      apply Classical.byContradiction
      intro hn
      rw [List.getElem?_eq_none (by simp; omega)] at h1
      cases h1
    rw [e1] at h1
    rw [← h.1, e1] at h2
    have : a = b := Option.some.inj h1
    have : p = q := Option.some.inj h2
    subst_vars
    exact ha⟩
theorem Tup.get (h : Tup f H as L) {j : Nat} {p : α} (hp : L[j]? = some p) : ∃ a, as[j]? = some a ∧ (as.map V.ref)[j]? = some (.ref a) ∧ H a = some (.tup (f p)) := by
  have hj : j < as.length := by
    rw [h.1]
    exact (List.getElem?_eq_some_iff.mp hp).1
  refine ⟨as[j], List.getElem?_eq_getElem hj, by rw [List.getElem?_map, List.getElem?_eq_getElem hj]; rfl, h.2 j _ p (List.getElem?_eq_getElem hj) hp⟩
theorem Tup.len (h : Tup f H as L) : (as.map V.ref).length = L.length := by rw [List.length_map, h.1]
theorem Tup.dp {K : PySem.W.Frag} {g : α → List PyData} (hg : ∀ p, DpAll K H (f p) (g p)) : ∀ {as : List Addr} {L : List α}, Tup f H as L → DpAll K H (as.map V.ref) (L.map fun p => PyData.tuple (g p))
  | [], [], _ => .nil
  | [], p :: L, h => by have := h.1; simp at this
  | a :: as, [], h => by have := h.1; simp at this
  | a :: as, p :: L, h => .cons (.tup (SqT.of (h.2 0 a p rfl rfl)) (hg p)) (Tup.dp hg ⟨by simpa using h.1, fun j b q h1 h2 => h.2 (j + 1) b q h1 h2⟩)
end
/-- a part: its stretch, and the levels at its ends -/
def part4 (s : Nat → Int) (p : Nat × Nat) : List V := [.int (p.1 : Nat), .int (p.2 : Nat), .int (s p.1), .int (s p.2)]
def pair2 (p : Nat × Nat) : List V := [.int (p.1 : Nat), .int (p.2 : Nat)]
def pairD (p : Nat × Nat) : List PyData := [.int (p.1 : Nat), .int (p.2 : Nat)]
theorem pair2_dp {K : PySem.W.Frag} {H : Hp} (p : Nat × Nat) : DpAll K H (pair2 p) (pairD p) := .cons (.int _) (.cons (.int _) .nil)
theorem len_sorted : ∀ {L : List (Nat × Nat)} {k n : Nat}, L.Pairwise (fun p q => p.1 < q.1) → (∀ p ∈ L, k ≤ p.1 ∧ p.1 < n) → L.length ≤ n - k
  | [], _, _, _, _ => by simp
  | p :: L, k, n, h, hb => by
    rw [List.pairwise_cons] at h
    have hp := hb p (List.mem_cons_self ..)
    have ih := len_sorted (k := p.1 + 1) (n := n) h.2 fun q hq => ⟨h.1 q hq, (hb q (List.mem_cons_of_mem _ hq)).2⟩
    rw [List.length_cons]
    omega
theorem RL.len {s : Nat → Int} {n : Nat} {L : List (Nat × Nat)} (h : RL s n L) : L.length ≤ n := by
  have := len_sorted (k := 0) (n := n) h.lt fun p hp => ⟨Nat.zero_le _, by
    have r := h.ripe p hp
    have := r.1.1
    have := r.2.1
    omega⟩
  omega
theorem Gd_pairs (L : List (Nat × Nat)) (h : L.length ≤ 100000) : Gd (.list (L.map fun p => PyData.tuple (pairD p))) := by
  refine .lst _ (by rw [List.length_map]; exact h) fun d hd => ?_
  obtain ⟨p, _, rfl⟩ := List.mem_map.mp hd
  refine .tup _ (by show 2 ≤ 100000; omega) fun e he => ?_
  rcases List.mem_cons.mp he with rfl | he
  · exact .int _
  · rcases List.mem_cons.mp he with rfl | he
    · exact .int _
    · cases he
theorem depth_pairs (L : List (Nat × Nat)) : PyData.depthAll (L.map fun p => PyData.tuple (pairD p)) ≤ 1 := by
  induction L with
  | nil => simp [PyData.depthAll]
  | cons p L ih =>
    have h : (PyData.tuple (pairD p)).depth = 1 := by simp [pairD, PyData.depth, PyData.depthAll]
    rw [List.map_cons, PyData.depthAll, h]
    exact Nat.max_le.mpr ⟨Nat.le_refl _, ih⟩
theorem eq_like (c : Nat) : decide (V.str (sg c) = V.str (Str.ofString "=")) = decide (c = 61) := by
  by_cases h : c = 61
  · subst h
    rfl
  · rw [decide_eq_false h]
    refine decide_eq_false fun q => h ?_
    have : S [c] = S [61] := V.str.inj q
    have := S_inj this
    exact (List.cons.inj this).1
theorem x_slT {K : PySem.W.Frag} {H : Hp} {a : Addr} {xs : List V} {lo hi : Option Int} {Q : VK} (h : SqT K H a xs) (hn : ¬ (HT.sIx xs.length 0 lo = 0 ∧ HT.sIx xs.length xs.length hi = xs.length)) (q : ∀ p, H p = none → Q (.ref p) (upd H p (.tup (cutV xs lo hi)))) :
    rSlT K (.ref a) lo hi H Q := ⟨a, xs, rfl, h, hn, q⟩
/-- a new tuple t is appended to the list of tuples at D -/
theorem tup_push {α : Type} {f : α → List V} {H0 H : Hp} {D t : Addr} {as : List Addr} {M : List α} {p : α} (hD0 : H0 D = none) (sm : Same H0 H) (hD : H D = some (.lst (as.map V.ref))) (hT : Tup f H as M) (ht : H t = none) :
    Same H0 (upd (upd H t (.tup (f p))) D (.lst (as.map V.ref ++ [.ref t]))) ∧ upd (upd H t (.tup (f p))) D (.lst (as.map V.ref ++ [.ref t])) D = some (.lst ((as ++ [t]).map V.ref)) ∧
      Tup f (upd (upd H t (.tup (f p))) D (.lst (as.map V.ref ++ [.ref t]))) (as ++ [t]) (M ++ [p]) := by
  have hne : D ≠ t := ne_of_none hD ht
  have k : K1 D H (upd (upd H t (.tup (f p))) D (.lst (as.map V.ref ++ [.ref t]))) := (K1.of (same_upd ht)).trans K1.at
  refine ⟨k.same hD0 sm, by rw [upd_same, List.map_append]; rfl, Tup.snoc (hT.k1 k hD) ?_⟩
  rw [upd_ne hne.symm, upd_same]
theorem wor_cut (g l : Int) (z : List Nat) {i j : Nat} (h : i ≤ j) : wor g l ((z.drop i).take (j - i)) = lev g l z j - lev g l z i := by
  have e : z.take j = z.take i ++ (z.drop i).take (j - i) := by
    have hj : j = i + (j - i) := by omega
    rw [hj, List.take_add, ← hj]
  unfold lev
  rw [e, wor_app]
  omega
theorem eqv_pair (a b c d : Int) : PyData.eqv (.tuple [.int a, .int b]) (.tuple [.int c, .int d]) = decide (a = c ∧ b = d) := by
  simp [PyData.eqv, PyData.eqvAll]
  by_cases h1 : a = c <;> by_cases h2 : b = d <;> simp [h1, h2]
theorem dp_pair {K : PySem.W.Frag} {H : Hp} {p : Addr} {a b : Int} (h : H p = some (.tup [.int a, .int b])) : Dp K H (.ref p) (.tuple [.int a, .int b]) := .tup (SqT.of h) (.cons (.int a) (.cons (.int b) .nil))
/-- all stretches that stand by themselves, as far as the walk has come: ahead of (bi, ei) -/
def Lex (p q : Nat × Nat) : Prop := p.1 < q.1 ∨ (p.1 = q.1 ∧ p.2 < q.2)
structure SLI (s : Nat → Int) (n bi ei : Nat) (L : List (Nat × Nat)) : Prop where
  st : ∀ p ∈ L, St s p.1 p.2 ∧ p.2 ≤ n
  all : ∀ b e, St s b e → e ≤ n → (b < bi ∨ (b = bi ∧ e < ei)) → (b, e) ∈ L
  lt : L.Pairwise Lex
  top : ∀ p ∈ L, p.1 < bi ∨ (p.1 = bi ∧ p.2 < ei)
  len : L.length ≤ bi * (n + 1) + ei
theorem SLI.zero (s : Nat → Int) (n : Nat) : SLI s n 0 1 [] := ⟨(fun p h => nomatch h), (fun b e h _ h2 => by have := h.1; omega), .nil, (fun p h => nomatch h), by simp⟩
theorem SLI.row {s : Nat → Int} {n i : Nat} {L : List (Nat × Nat)} (h : SLI s n i (n + 1) L) : SLI s n (i + 1) (i + 1 + 1) L := by
  refine ⟨h.st, fun b e hs he h2 => h.all b e hs he ?_, h.lt, fun p hp => ?_, ?_⟩
  · have := hs.1
    omega
  · have := h.top p hp
    omega
  · have := h.len
    rw [Nat.succ_mul]
    omega
theorem SLI.no {s : Nat → Int} {n i e : Nat} {L : List (Nat × Nat)} (h : SLI s n i e L) (hn : ¬ St s i e) : SLI s n i (e + 1) L := by
  refine ⟨h.st, fun b e' hs he h2 => h.all b e' hs he ?_, h.lt, fun p hp => ?_, ?_⟩
  · by_cases hz : b = i ∧ e' = e
    · obtain ⟨z1, z2⟩ := hz
      subst z1 z2
      exact absurd hs hn
    · omega
  · have := h.top p hp
    omega
  · have := h.len
    omega
theorem SLI.yes {s : Nat → Int} {n i e : Nat} {L : List (Nat × Nat)} (h : SLI s n i e L) (hy : St s i e) (he : e ≤ n) : SLI s n i (e + 1) (L ++ [(i, e)]) := by
  refine ⟨fun p hp => ?_, fun b e' hs he h2 => ?_, ?_, fun p hp => ?_, ?_⟩
  · rcases List.mem_append.mp hp with z | z
    · exact h.st p z
    · rw [List.mem_singleton.mp z]
      exact ⟨hy, he⟩
  · by_cases hz : b = i ∧ e' = e
    · rw [hz.1, hz.2]
      simp
    · exact List.mem_append.mpr (.inl (h.all b e' hs he (by omega)))
  · rw [List.pairwise_append]
    refine ⟨h.lt, by simp, fun p hp q hq => ?_⟩
    rw [List.mem_singleton.mp hq]
    exact h.top p hp
  · rcases List.mem_append.mp hp with z | z
    · have := h.top p z
      omega
    · rw [List.mem_singleton.mp z]
      exact .inr ⟨rfl, Nat.lt_succ_self _⟩
  · have := h.len
    rw [List.length_append]
    show L.length + 1 ≤ _
    omega
/-- q holds p within, and is another -/
def cont (p q : Nat × Nat) : Bool := decide (q.1 ≤ p.1) && (decide (p.2 ≤ q.2) && !decide (q = p))
def mxs (L : List (Nat × Nat)) (p : Nat × Nat) : Bool := (L.filter (cont p)).isEmpty
theorem SLI.ripe {s : Nat → Int} {n : Nat} {L : List (Nat × Nat)} (h : SLI s n n (n + 1) L) : RL s n (L.filter (mxs L)) := by
  have all : ∀ b e, St s b e → e ≤ n → (b, e) ∈ L := fun b e hs he => h.all b e hs he (by have := hs.1; omega)
  refine RL.of_lt (fun p hp => ?_) (fun b e r => ?_) ?_
  · obtain ⟨h1, h2⟩ := List.mem_filter.mp hp
    obtain ⟨h3, h4⟩ := h.st p h1
    refine ⟨h3, h4, fun b' e' hs he hb hi => ?_⟩
    apply Classical.byContradiction
    intro hn
    have hc : cont p (b', e') = true := by
      unfold cont
      rw [decide_eq_true (show (b', e').1 ≤ p.1 from hb), decide_eq_true (show p.2 ≤ (b', e').2 from hi), decide_eq_false (show ¬ (b', e') = p from fun q => hn ⟨congrArg Prod.fst q, congrArg Prod.snd q⟩)]
      rfl
    have hm : (b', e') ∈ L.filter (cont p) := List.mem_filter.mpr ⟨all b' e' hs he, hc⟩
    unfold mxs at h2
    rw [List.isEmpty_iff] at h2
    rw [h2] at hm
    cases hm
  · refine List.mem_filter.mpr ⟨all b e r.1 r.2.1, ?_⟩
    unfold mxs
    rw [List.isEmpty_iff, List.filter_eq_nil_iff]
    intro q hq hc
    unfold cont at hc
    simp only [Bool.and_eq_true, decide_eq_true_eq, Bool.not_eq_true', decide_eq_false_iff_not] at hc
    obtain ⟨h3, h4⟩ := h.st q hq
    have := r.2.2 q.1 q.2 h3 h4 hc.1 hc.2.1
    exact hc.2.2 (Prod.ext this.1 this.2)
  · refine (h.lt.filter _).imp fun {p q} hpq => ⟨?_, fun e => ?_⟩
    · rcases hpq with z | z <;> omega
    · subst e
      rcases hpq with z | z <;> omega
theorem SLI.skip {s : Nat → Int} {n i e e' : Nat} {L : List (Nat × Nat)} (h : SLI s n i e L) (hn : ∀ x, e ≤ x → ¬ St s i x) (hle : e ≤ e') : SLI s n i e' L := by
  refine ⟨h.st, fun b x hs he h2 => h.all b x hs he ?_, h.lt, fun p hp => ?_, ?_⟩
  · by_cases hz : b = i ∧ e ≤ x
    · obtain ⟨z1, z2⟩ := hz
      subst z1
      exact absurd hs (hn x z2)
    · omega
  · have := h.top p hp
    omega
  · have := h.len
    omega
/-- some stretch that stands by itself is worth as much as any two levels differ -/
theorem St.of_diff {s : Nat → Int} {i j : Nat} (hij : i < j) (h : s i < s j) : ∃ b e, i ≤ b ∧ b < e ∧ e ≤ j ∧ St s b e ∧ s j - s i ≤ s e - s b := by
  obtain ⟨e, e1, e2, e3, e4⟩ := argmax_first s i (j - i)
  have he := e4 j (by omega) (by omega)
  have hie : i ≠ e := fun q => by
    rw [← q] at he
    omega
  obtain ⟨b, b1, b2, b3, b4⟩ := argmin_last s i (e - i)
  have hb := b4 i (Nat.le_refl _) (by omega)
  have hbe : b ≠ e := fun q => by
    rw [q] at hb
    have := e3 i (Nat.le_refl _) (by omega)
    omega
  exact ⟨b, e, b1, by omega, by omega, ⟨by omega, fun x x1 x2 => b3 x x1 (by omega), fun x x1 x2 => e3 x (by omega) x2⟩, by omega⟩
theorem RL.best {s : Nat → Int} {n : Nat} {L : List (Nat × Nat)} (h : RL s n L) {i j : Nat} (hij : i < j) (hj : j ≤ n) (hd : s i < s j) : ∃ p ∈ L, s j - s i ≤ s p.2 - s p.1 := by
  obtain ⟨b, e, h1, h2, h3, h4, h5⟩ := St.of_diff hij hd
  obtain ⟨b', e', r, r1, r2⟩ := ripe_over (n := n) h4 (by omega)
  refine ⟨(b', e'), h.all b' e' r, ?_⟩
  have k1 : s b' ≤ s b := by
    by_cases hz : b' = b
    · subst hz
      exact Int.le_refl _
    · have := r.1.2.1 b (by omega) (by omega)
      omega
  have k2 : s e ≤ s e' := by
    by_cases hz : e = e'
    · subst hz
      exact Int.le_refl _
    · have := r.1.2.2 e (by omega) (by omega)
      omega
  show s j - s i ≤ s e' - s b'
  omega
theorem lev_add (g l : Int) {z : List Nat} {i : Nat} (h : i < z.length) : wor g l [z[i]] = lev g l z (i + 1) - lev g l z i := by
  rw [lev_succ g l h]
  show (if z[i] = 61 then g else -l) + 0 = _
  omega
end Sr

namespace Sr
open PySem PySem.Spec PyProof.Rows L2
/-! ### sorted of tuples of data, any number -/
def rSortD (K : PySem.W.Frag) : List V → Hp → VK → Prop := fun vs H Q => ∃ (α : Type) (a : Addr) (as : List Addr) (L : List α) (f : α → List V) (g : α → List PyData), vs = [.ref a] ∧ SqL K H a (as.map V.ref) ∧ Tup f H as L ∧ (∀ p, DpAll K H (f p) (g p)) ∧
  PySem.W.AllAlike (L.map fun p => PyData.tuple (g p)) ∧ (∀ p ∈ L, g p ≠ []) ∧ (∀ p ∈ L, (PyData.tuple (g p)).depth ≤ 60) ∧
  ∀ (D : Addr) (as' : List Addr), H D = none → Tup f H as' (L.mergeSort (PySem.W.dataLe false fun p => PyData.tuple (g p))) → Q (.ref D) (upd H D (.lst (as'.map V.ref)))
theorem refs_of : ∀ {as : List Addr} {us : List Value}, Vals (as.map V.ref) us → us = as.map Value.ref
  | [], _, h => by
    cases h
    rfl
  | a :: as, _, h => by
    cases h with
    | cons h1 h2 =>
      have e1 : _ = Value.ref a := h1
      rw [e1, refs_of h2]
      rfl
theorem vals_refs : ∀ as : List Addr, Vals (as.map V.ref) (as.map Value.ref)
  | [] => .nil
  | a :: as => .cons rfl (vals_refs as)
theorem each_tup {α : Type} {f : α → List V} {H : Hp} : ∀ {as : List Addr} {L : List α}, Tup f H as L → PySem.W.EachIs (fun (v : Value) (p : α) => ∃ t, v = .ref t ∧ H t = some (.tup (f p))) (as.map Value.ref) L
  | [], [], _ => .nil
  | [], p :: L, h => by have := h.1; simp at this
  | a :: as, [], h => by have := h.1; simp at this
  | a :: as, p :: L, h => .cons ⟨a, rfl, h.2 0 a p rfl rfl⟩ (each_tup ⟨by simpa using h.1, fun j b q h1 h2 => h.2 (j + 1) b q h1 h2⟩)
theorem tup_each {α : Type} {f : α → List V} {H : Hp} : ∀ {us : List Value} {L : List α}, PySem.W.EachIs (fun (v : Value) (p : α) => ∃ t, v = .ref t ∧ H t = some (.tup (f p))) us L → ∃ as, us = as.map Value.ref ∧ Tup f H as L
  | [], [], _ => ⟨[], rfl, Tup.nil⟩
  | u :: us, p :: L, h => by
    cases h with
    | cons h1 h2 =>
      obtain ⟨t, rfl, ht⟩ := h1
      obtain ⟨as, rfl, hT⟩ := tup_each h2
      refine ⟨t :: as, rfl, by rw [List.length_cons, List.length_cons, hT.1], fun j b q k1 k2 => ?_⟩
      cases j with
      | zero =>
        have e1 : t = b := Option.some.inj k1
        have e2 : p = q := Option.some.inj k2
        subst e1 e2
        exact ht
      | succ j => exact hT.2 j b q k1 k2
theorem cr_sortD {X : Cx} (hu : X.A.units + 64 < cLine) : CallR X (.builtin "sorted") (rSortD X.K) := by
  intro pins s σ H vs us Q I r h
  obtain ⟨α, a, as, L, f, g, rfl, hs, hT, hg, hal, hne, hdep, q⟩ := h
  obtain ⟨its, rv, hl, hz⟩ := I.list hs
  obtain ⟨u, rfl, ru⟩ := vals1 r
  obtain rfl : u = Value.ref a := ru
  obtain rfl := refs_of rv
  have eR := each_tup hT
  have hlen : L.length ≤ sizeLine := by
    rw [← hT.1]
    rw [List.length_map] at hz
    exact hz
  refine PySem.W.sorted_data (enc := fun p => PyData.tuple (g p)) hl.isList eR (eR.mono fun v p h => ?_) hal (.inl fun d hd => ?_) hlen (fun p hp => ?_) fun out ho hout => ?_
  · obtain ⟨t, rfl, ht⟩ := h
    exact Dp.reads I (.tuple (g p)) (.ref t) (.ref t) (.tup (SqT.of ht) (hg p)) rfl
  · obtain ⟨p, hp, rfl⟩ := List.mem_map.mp hd
    cases hgp : g p with
    | nil => exact absurd hgp (hne p hp)
    | cons x xs => exact ⟨x, xs, rfl⟩
  · have := hdep p hp
    show X.A.units + 2 + (PyData.tuple (g p)).depth < cLine
    omega
  · obtain ⟨as', rfl, hT'⟩ := tup_each hout
    obtain ⟨e, he⟩ := PyProof.Rows.sortedAll_at s.heap (as.map Value.ref) (as'.map Value.ref).toArray
    have hD : H (s.heap.objs.size + 1) = none := I.hok.fresh (Nat.le_succ _)
    have new : ObjOk X.prog X.w (upd H (s.heap.objs.size + 1) (.lst (as'.map V.ref))) (PyProof.Rows.sortedAll s.heap (as.map Value.ref) (as'.map Value.ref).toArray) (s.heap.objs.size + 1) (.lst (as'.map V.ref)) :=
      ⟨by rw [List.length_map, hT'.1, List.length_mergeSort]; exact hlen, as'.map Value.ref, e, vals_refs as', he⟩
    exact ⟨.ref (s.heap.objs.size + 1), _, I.laid (t' := s.toks) (fun b o z => PyProof.Rows.sortedAll_old z) (Nat.le_succ _) new, rfl, q _ as' hD hT'⟩
end Sr

namespace Sr
open PySem PySem.Spec PyProof.Rows L2
/-! ### all ripe stretches of all lanes -/
open Classical in
noncomputable def ripL (s : Nat → Int) (n : Nat) : List (Nat × Nat) := if h : ∃ L, RL s n L then h.choose else []
theorem ripL_eq {s : Nat → Int} {n : Nat} {L : List (Nat × Nat)} (h : RL s n L) : ripL s n = L := by
  have h' : ∃ L, RL s n L := ⟨L, h⟩
  unfold ripL
  rw [dif_pos h']
  exact h'.choose_spec.unique h
abbrev Tri := Int × Int × Int
/-- the stretches of a lane that are worth told at least -/
noncomputable def rchL (g l told : Int) (o t : List Nat) (d : Int) : List Tri :=
  ((ripL (lev g l (likL o t d)) (likL o t d).length).filter fun p => decide (told ≤ lev g l (likL o t d) p.2 - lev g l (likL o t d) p.1)).map fun p => (d, ((bgn d + p.1 : Nat) : Int), ((bgn d + p.2 : Nat) : Int))
noncomputable def rchN (g l told : Int) (o t : List Nat) (d0 : Int) (n : Nat) : List Tri := (List.range n).flatMap fun k : Nat => rchL g l told o t (d0 + (k : Int))
def nsh (o t : List Nat) : Nat := ((t.length : Int) - (1 - (o.length : Int))).toNat
noncomputable def rchA (g l told : Int) (o t : List Nat) : List Tri := rchN g l told o t (1 - (o.length : Int)) (nsh o t)
theorem rchN_succ (g l told : Int) (o t : List Nat) (d0 : Int) (n : Nat) : rchN g l told o t d0 (n + 1) = rchN g l told o t d0 n ++ rchL g l told o t (d0 + (n : Int)) := by
  unfold rchN
  rw [List.range_succ, List.flatMap_append]
  simp
theorem rchN_cons (g l told : Int) (o t : List Nat) (d0 : Int) (n : Nat) : rchN g l told o t d0 (n + 1) = rchL g l told o t d0 ++ rchN g l told o t (d0 + 1) n := by
  unfold rchN
  rw [List.range_succ_eq_map, List.flatMap_cons, List.flatMap_map]
  congr 1
  · congr 1
    omega
  · congr 1
    funext k
    congr 1
    simp
    omega
theorem rchL_out (g l told : Int) (o t : List Nat) {d : Int} (h : likL o t d = []) : rchL g l told o t d = [] := by
  unfold rchL
  rw [h]
  have e : ripL (lev g l []) ([] : List Nat).length = [] := ripL_eq (RL.zero _)
  rw [e]
  rfl
theorem lik_out {o t : List Nat} {d : Int} (h : lkn o.length t.length d = 0) : likL o t d = [] := by
  have := likL_len o t d
  rw [h] at this
  exact List.length_eq_zero_iff.mp this
/-- two lanes more, at the ends, tell nothing -/
theorem rchA_wide (g l told : Int) (o t : List Nat) : rchN g l told o t (0 - (o.length : Int)) (((t.length : Int) + 1 - (0 - (o.length : Int))).toNat) = rchA g l told o t := by
  have e1 : ((t.length : Int) + 1 - (0 - (o.length : Int))).toNat = t.length + o.length + 1 := by omega
  rw [e1, rchN_cons, rchL_out g l told o t (lik_out (by unfold lkn bgn; omega)), List.nil_append]
  have e2 : (0 : Int) - (o.length : Int) + 1 = 1 - (o.length : Int) := by omega
  rw [e2]
  unfold rchA nsh
  by_cases h : t.length + o.length = 0
  · have e3 : ((t.length : Int) - (1 - (o.length : Int))).toNat = 0 := by omega
    rw [e3, h]
  · have e3 : t.length + o.length = ((t.length : Int) - (1 - (o.length : Int))).toNat + 1 := by omega
    rw [e3, rchN_succ, rchL_out g l told o t (lik_out (by unfold lkn bgn; omega)), List.append_nil]
/-- the order of triples -/
def TLt (p q : Tri) : Prop := p.1 < q.1 ∨ (p.1 = q.1 ∧ p.2.1 < q.2.1)
theorem rchL_mem {g l told : Int} {o t : List Nat} {d : Int} {p : Tri} (h : p ∈ rchL g l told o t d) : p.1 = d := by
  unfold rchL at h
  obtain ⟨q, _, rfl⟩ := List.mem_map.mp h
  rfl
theorem ripL_lt (s : Nat → Int) (n : Nat) : (ripL s n).Pairwise (fun p q => p.1 < q.1) := by
  unfold ripL
  split
  · rename_i h
    exact h.choose_spec.lt
  · exact .nil
theorem rchL_lt (g l told : Int) (o t : List Nat) (d : Int) : (rchL g l told o t d).Pairwise TLt := by
  unfold rchL
  rw [List.pairwise_map]
  refine ((ripL_lt _ _).filter _).imp fun {p q} h => ?_
  right
  exact ⟨rfl, by show ((bgn d + p.1 : Nat) : Int) < ((bgn d + q.1 : Nat) : Int); omega⟩
theorem rchN_lt (g l told : Int) (o t : List Nat) (d0 : Int) : ∀ n, (rchN g l told o t d0 n).Pairwise TLt ∧ ∀ p ∈ rchN g l told o t d0 n, p.1 < d0 + (n : Int)
  | 0 => ⟨(show ([] : List Tri).Pairwise TLt from .nil), fun p h => by
    have h' : p ∈ ([] : List Tri) := h
    cases h'⟩
  | n + 1 => by
    obtain ⟨h1, h2⟩ := rchN_lt g l told o t d0 n
    rw [rchN_succ]
    refine ⟨?_, fun p hp => ?_⟩
    · rw [List.pairwise_append]
      refine ⟨h1, rchL_lt g l told o t _, fun p hp q hq => ?_⟩
      left
      rw [rchL_mem hq]
      exact h2 p hp
    · rcases List.mem_append.mp hp with z | z
      · have := h2 p z
        omega
      · rw [rchL_mem z]
        omega
theorem rchN_mem {g l told : Int} {o t : List Nat} {d0 : Int} {n : Nat} {p : Tri} : p ∈ rchN g l told o t d0 n ↔ ∃ k : Nat, k < n ∧ p ∈ rchL g l told o t (d0 + (k : Int)) := by
  unfold rchN
  rw [List.mem_flatMap]
  constructor
  · rintro ⟨k, h1, h2⟩
    exact ⟨k, List.mem_range.mp h1, h2⟩
  · rintro ⟨k, h1, h2⟩
    exact ⟨k, List.mem_range.mpr h1, h2⟩
/-- the other way round -/
def turn (p : Tri) : Tri := (0 - p.1, p.2.1 + p.1, p.2.2 + p.1)
theorem lik_turn (o t : List Nat) (d : Int) : likL t o (0 - d) = likL o t d := by
  rw [likL_eq, likL_eq]
  have e : lkn t.length o.length (0 - d) = lkn o.length t.length d := by unfold lkn bgn; omega
  rw [e]
  refine List.map_congr_left fun k hk => ?_
  have hk' := List.mem_range.mp hk
  unfold lk1
  have e1 : (((bgn (0 - d) + k : Nat) : Int) + (0 - d)).toNat = bgn d + k := by unfold bgn; omega
  have e2 : (((bgn d + k : Nat) : Int) + d).toNat = bgn (0 - d) + k := by unfold bgn; omega
  rw [e1, e2]
  by_cases h : t[bgn (0 - d) + k]? = o[bgn d + k]?
  · rw [if_pos h, if_pos h.symm]
  · rw [if_neg h, if_neg fun q => h q.symm]
theorem rchL_turn (g l told : Int) (o t : List Nat) (d : Int) : rchL g l told t o (0 - d) = (rchL g l told o t d).map turn := by
  unfold rchL
  rw [lik_turn, List.map_map]
  refine List.map_congr_left fun p _ => ?_
  show ((0 - d : Int), ((bgn (0 - d) + p.1 : Nat) : Int), ((bgn (0 - d) + p.2 : Nat) : Int)) = turn (d, ((bgn d + p.1 : Nat) : Int), ((bgn d + p.2 : Nat) : Int))
  unfold turn bgn
  simp only [Prod.mk.injEq, true_and]
  omega
theorem rchA_turn (g l told : Int) (o t : List Nat) (p : Tri) : p ∈ rchA g l told t o ↔ p ∈ (rchA g l told o t).map turn := by
  unfold rchA
  rw [rchN_mem, List.mem_map]
  have en : nsh t o = nsh o t := by unfold nsh; omega
  constructor
  · rintro ⟨k, hk, h⟩
    rw [en] at hk
    have e : 1 - (t.length : Int) + (k : Int) = 0 - (1 - (o.length : Int) + ((nsh o t - 1 - k : Nat) : Int)) := by unfold nsh at hk ⊢; omega
    rw [e, rchL_turn] at h
    obtain ⟨q, hq, rfl⟩ := List.mem_map.mp h
    exact ⟨q, rchN_mem.mpr ⟨nsh o t - 1 - k, by omega, hq⟩, rfl⟩
  · rintro ⟨q, hq, rfl⟩
    obtain ⟨k, hk, h⟩ := rchN_mem.mp hq
    have e : 1 - (t.length : Int) + ((nsh o t - 1 - k : Nat) : Int) = 0 - (1 - (o.length : Int) + (k : Int)) := by unfold nsh at hk ⊢; omega
    refine ⟨nsh o t - 1 - k, by rw [en]; omega, ?_⟩
    rw [e, rchL_turn]
    exact List.mem_map.mpr ⟨q, h, rfl⟩
theorem turn_inj {p q : Tri} (h : turn p = turn q) : p = q := by
  obtain ⟨a, b, c⟩ := p
  obtain ⟨a', b', c'⟩ := q
  unfold turn at h
  simp only [Prod.mk.injEq] at h ⊢
  omega
/-- lists that go up strictly and hold the same are one -/
theorem same_up {α : Type} {R : α → α → Prop} (asym : ∀ x y, R x y → ¬ R y x) : ∀ {L M : List α}, L.Pairwise R → M.Pairwise R → (∀ p, p ∈ L ↔ p ∈ M) → L = M
  | [], [], _, _, _ => rfl
  | [], q :: M, _, _, h => by
    have := (h q).mpr (List.mem_cons_self ..)
    cases this
  | p :: L, [], _, _, h => by
    have := (h p).mp (List.mem_cons_self ..)
    cases this
  | p :: L, q :: M, h1, h2, h => by
    rw [List.pairwise_cons] at h1 h2
    have e : p = q := by
      rcases List.mem_cons.mp ((h p).mp (List.mem_cons_self ..)) with z | z
      · exact z
      · rcases List.mem_cons.mp ((h q).mpr (List.mem_cons_self ..)) with z2 | z2
        · exact z2.symm
        · exact absurd (h1.1 q z2) (asym _ _ (h2.1 p z))
    subst e
    rw [same_up asym h1.2 h2.2 fun x => ⟨fun hx => ?_, fun hx => ?_⟩]
    · rcases List.mem_cons.mp ((h x).mp (List.mem_cons_of_mem _ hx)) with z | z
      · have := h1.1 x hx
        rw [z] at this
        exact absurd this (asym _ _ this)
      · exact z
    · rcases List.mem_cons.mp ((h x).mpr (List.mem_cons_of_mem _ hx)) with z | z
      · have := h2.1 x hx
        rw [z] at this
        exact absurd this (asym _ _ this)
      · exact z
def triV (p : Tri) : List V := [.int p.1, .int p.2.1, .int p.2.2]
def triI (p : Tri) : List Int := [p.1, p.2.1, p.2.2]
def triD (p : Tri) : List PyData := (triI p).map .int
theorem tri_dp {K : PySem.W.Frag} {H : Hp} (p : Tri) : DpAll K H (triV p) (triD p) := .cons (.int _) (.cons (.int _) (.cons (.int _) .nil))
/-- sorted of tuples of ints, by the ints' own order -/
theorem dataLe_ints {α : Type} (h : α → List Int) : PySem.W.dataLe false (fun p : α => PyData.tuple ((h p).map .int)) = fun p q => !decide (h q < h p) := by
  funext p q
  show (!PySem.W.dataLt (.tuple ((h q).map .int)) (.tuple ((h p).map .int))) = _
  rw [PySem.W.dataLt_tuple]
  show (!PySem.W.rowLt ((h q).map .int) ((h p).map .int)) = _
  rw [PySem.W.dataLt_ints]
end Sr
namespace Sr
open PySem PySem.Spec PyProof.Rows L2
/-! ### the law's own way to the ripe ones: by beginnings, longer ones ahead -/
theorem lex2 (a b c d : Int) : [a, b] < [c, d] ↔ a < c ∨ (a = c ∧ b < d) := by
  rw [List.cons_lt_cons_iff, List.cons_lt_cons_iff]
  simp
theorem lex3 (a b c a' b' c' : Int) : [a, b, c] < [a', b', c'] ↔ a < a' ∨ (a = a' ∧ (b < b' ∨ (b = b' ∧ c < c'))) := by
  rw [List.cons_lt_cons_iff, List.cons_lt_cons_iff, List.cons_lt_cons_iff]
  simp
def beI (p : Nat × Nat) : List Int := [(p.1 : Int), 0 - (p.2 : Int)]
def beV (p : Nat × Nat) : List V := [.int (p.1 : Nat), .int (0 - ((p.2 : Nat) : Int))]
def Ahd (p q : Nat × Nat) : Prop := p.1 < q.1 ∨ (p.1 = q.1 ∧ q.2 < p.2)
theorem le_total {α : Type} (h : α → List Int) : PySem.W.TotalLe (fun p q : α => !decide (h q < h p)) := by
  rw [← dataLe_ints h]
  exact PySem.W.sortLe_total _ _ _
theorem sorted_ahd {M : List (Nat × Nat)} (hn : M.Nodup) : (M.mergeSort fun p q => !decide (beI q < beI p)).Pairwise Ahd := by
  have h1 := PySem.W.sort_pairwise (le_total beI) M
  have h2 : (M.mergeSort fun p q => !decide (beI q < beI p)).Nodup := (List.mergeSort_perm M _).nodup_iff.mpr hn
  have h3 := h1.and h2
  refine h3.imp fun {p q} h => ?_
  obtain ⟨h4, h5⟩ := h
  have h6 : ¬ (beI q < beI p) := by simpa using h4
  unfold beI at h6
  rw [lex2] at h6
  unfold Ahd
  by_cases hz : p.1 = q.1
  · have : p.2 ≠ q.2 := fun e => h5 (Prod.ext hz e)
    omega
  · omega
structure GI (s : Nat → Int) (n : Nat) (P F : List (Nat × Nat)) (last : Nat) : Prop where
  ripe : ∀ p ∈ F, Ripe s n p.1 p.2
  all : ∀ p ∈ P, Ripe s n p.1 p.2 → p ∈ F
  lt : F.Pairwise (fun p q => p.1 ≤ q.1 ∧ p ≠ q)
  sub : ∀ p ∈ F, p ∈ P
  top : ∀ p ∈ P, p.2 ≤ last
  end_ : last = 0 ∨ ∃ p ∈ F, p.2 = last
theorem GI.zero (s : Nat → Int) (n : Nat) : GI s n [] [] 0 := ⟨(fun p h => nomatch h), (fun p h => nomatch h), .nil, (fun p h => nomatch h), (fun p h => nomatch h), .inl rfl⟩
theorem GI.yes {s : Nat → Int} {n last : Nat} {P F R : List (Nat × Nat)} {p : Nat × Nat} (h : GI s n P F last) (hS : (P ++ p :: R).Pairwise Ahd) (hall : ∀ b e, St s b e → e ≤ n → (b, e) ∈ P ++ p :: R) (hst : St s p.1 p.2 ∧ p.2 ≤ n) (hl : last < p.2) :
    GI s n (P ++ [p]) (F ++ [p]) p.2 := by
  rw [List.pairwise_append, List.pairwise_cons] at hS
  obtain ⟨h1, ⟨h2, h3⟩, h4⟩ := hS
  have hr : Ripe s n p.1 p.2 := ⟨hst.1, hst.2, fun b' e' st he hb hi => by
    rcases List.mem_append.mp (hall b' e' st he) with z | z
    · have := h.top _ z
      simp only at this
      omega
    · rcases List.mem_cons.mp z with z | z
      · exact ⟨congrArg Prod.fst z, congrArg Prod.snd z⟩
      · have := h2 _ z
        unfold Ahd at this
        simp only at this
        omega⟩
  refine ⟨fun q hq => ?_, fun q hq r => ?_, ?_, fun q hq => ?_, fun q hq => ?_, .inr ⟨p, by simp, rfl⟩⟩
  · rcases List.mem_append.mp hq with z | z
    · exact h.ripe q z
    · rw [List.mem_singleton.mp z]
      exact hr
  · rcases List.mem_append.mp hq with z | z
    · exact List.mem_append.mpr (.inl (h.all q z r))
    · rw [List.mem_singleton.mp z]
      simp
  · rw [List.pairwise_append]
    refine ⟨h.lt, by simp, fun q hq q' hq' => ?_⟩
    rw [List.mem_singleton.mp hq']
    have := h4 q (h.sub q hq) p (List.mem_cons_self ..)
    unfold Ahd at this
    refine ⟨by omega, fun e => ?_⟩
    subst e
    omega
  · rcases List.mem_append.mp hq with z | z
    · exact List.mem_append.mpr (.inl (h.sub q z))
    · exact List.mem_append.mpr (.inr z)
  · rcases List.mem_append.mp hq with z | z
    · have := h.top q z
      omega
    · rw [List.mem_singleton.mp z]
      exact Nat.le_refl _
theorem GI.no {s : Nat → Int} {n last : Nat} {P F R : List (Nat × Nat)} {p : Nat × Nat} (h : GI s n P F last) (hS : (P ++ p :: R).Pairwise Ahd) (hst : St s p.1 p.2) (hl : ¬ last < p.2) : GI s n (P ++ [p]) F last := by
  rw [List.pairwise_append, List.pairwise_cons] at hS
  obtain ⟨h1, ⟨h2, h3⟩, h4⟩ := hS
  refine ⟨h.ripe, fun q hq r => ?_, h.lt, fun q hq => List.mem_append.mpr (.inl (h.sub q hq)), fun q hq => ?_, h.end_⟩
  · rcases List.mem_append.mp hq with z | z
    · exact h.all q z r
    · have e := List.mem_singleton.mp z
      subst e
      have := hst.1
      rcases h.end_ with k | ⟨u, hu, k⟩
      · omega
      · have ha := h4 u (h.sub u hu) q (List.mem_cons_self ..)
        unfold Ahd at ha
        have ru := h.ripe u hu
        have := r.2.2 u.1 u.2 ru.1 ru.2.1 (by omega) (by omega)
        omega
  · rcases List.mem_append.mp hq with z | z
    · exact h.top q z
    · rw [List.mem_singleton.mp z]
      omega
theorem GI.done {s : Nat → Int} {n last : Nat} {P F : List (Nat × Nat)} (h : GI s n P F last) (hall : ∀ b e, St s b e → e ≤ n → (b, e) ∈ P) : RL s n F :=
  RL.of_lt h.ripe (fun b e r => h.all (b, e) (hall b e r.1 r.2.1) r) h.lt
theorem Lex_nodup {M : List (Nat × Nat)} (h : M.Pairwise Lex) : M.Nodup := h.imp fun {p q} hpq e => by
  subst e
  rcases hpq with z | z <;> omega
end Sr
namespace Sr
open PySem PySem.Spec PyProof.Rows L2
theorem alike_ints : ∀ xs ys : List Int, PySem.W.alikeAll (xs.map .int) (ys.map .int) = true
  | [], _ => by simp [PySem.W.alikeAll]
  | x :: xs, [] => by simp [PySem.W.alikeAll]
  | x :: xs, y :: ys => by
    have h := alike_ints xs ys
    simp [PySem.W.alikeAll, PySem.W.alike] at h ⊢
    exact h
theorem allAlike_ints {α : Type} (h : α → List Int) (L : List α) : PySem.W.AllAlike (L.map fun p => PyData.tuple ((h p).map .int)) := by
  intro d hd d' hd'
  obtain ⟨p, _, rfl⟩ := List.mem_map.mp hd
  obtain ⟨q, _, rfl⟩ := List.mem_map.mp hd'
  show PySem.W.alikeAll _ _ = true
  exact alike_ints _ _
theorem depth_tup_ints (xs : List Int) : (PyData.tuple (xs.map .int)).depth ≤ 2 := by
  have h := depth_ints xs
  simp only [PyData.depth]
  omega
theorem plc_first {m n : Nat} {d : Int} (h : 0 < lkn m n d) : (plc m n d)[0]?.getD 0 = bgn d := by
  rw [plc_eq]
  obtain ⟨k, hk⟩ : ∃ k, lkn m n d = k + 1 := ⟨lkn m n d - 1, by omega⟩
  rw [hk, List.range_succ_eq_map]
  simp
theorem rchL_len (g l told : Int) (o t : List Nat) (d : Int) : (rchL g l told o t d).length ≤ o.length := by
  unfold rchL
  rw [List.length_map]
  refine Nat.le_trans (List.length_filter_le _ _) ?_
  unfold ripL
  split
  · rename_i h
    exact Nat.le_trans h.choose_spec.len (likL_le o t d)
  · exact Nat.zero_le _
theorem rchN_len (g l told : Int) (o t : List Nat) (d0 : Int) : ∀ n, (rchN g l told o t d0 n).length ≤ n * o.length
  | 0 => Nat.zero_le _
  | n + 1 => by
    rw [rchN_succ, List.length_append, Nat.succ_mul]
    have h1 := rchN_len g l told o t d0 n
    have h2 := rchL_len g l told o t (d0 + (n : Int))
    omega
/-- the part of a lane's list that the first j of its ripe ones make -/
def rchP (g l told : Int) (o t : List Nat) (d : Int) (M : List (Nat × Nat)) : List Tri :=
  (M.filter fun p => decide (told ≤ lev g l (likL o t d) p.2 - lev g l (likL o t d) p.1)).map fun p => (d, ((bgn d + p.1 : Nat) : Int), ((bgn d + p.2 : Nat) : Int))
theorem rchP_all {g l told : Int} {o t : List Nat} {d : Int} {L : List (Nat × Nat)} (h : RL (lev g l (likL o t d)) (likL o t d).length L) : rchP g l told o t d L = rchL g l told o t d := by
  unfold rchP rchL
  rw [ripL_eq h]
theorem rchP_snoc (g l told : Int) (o t : List Nat) (d : Int) (M : List (Nat × Nat)) (p : Nat × Nat) :
    rchP g l told o t d (M ++ [p]) = rchP g l told o t d M ++ if told ≤ lev g l (likL o t d) p.2 - lev g l (likL o t d) p.1 then [(d, ((bgn d + p.1 : Nat) : Int), ((bgn d + p.2 : Nat) : Int))] else [] := by
  unfold rchP
  rw [List.filter_append, List.map_append, List.filter_cons]
  by_cases h : told ≤ lev g l (likL o t d) p.2 - lev g l (likL o t d) p.1
  · rw [if_pos h, if_pos (decide_eq_true h)]
    rfl
  · rw [if_neg h, if_neg (by rw [decide_eq_false h]; exact Bool.false_ne_true)]
    rfl
theorem rchP_len (g l told : Int) (o t : List Nat) (d : Int) (M : List (Nat × Nat)) : (rchP g l told o t d M).length ≤ M.length := by
  unfold rchP
  rw [List.length_map]
  exact List.length_filter_le _ _
theorem Gd_tris (L : List Tri) (h : L.length ≤ 100000) : Gd (.list (L.map fun p => PyData.tuple (triD p))) := by
  refine .lst _ (by rw [List.length_map]; exact h) fun d hd => ?_
  obtain ⟨p, _, rfl⟩ := List.mem_map.mp hd
  refine .tup _ (by show 3 ≤ 100000; omega) fun e he => ?_
  obtain ⟨i, _, rfl⟩ := List.mem_map.mp he
  exact .int i
theorem depth_tris (L : List Tri) : PyData.depthAll (L.map fun p => PyData.tuple (triD p)) ≤ 2 := by
  induction L with
  | nil => simp [PyData.depthAll]
  | cons p L ih =>
    have h := depth_tup_ints (triI p)
    rw [List.map_cons, PyData.depthAll]
    exact Nat.max_le.mpr ⟨h, ih⟩
theorem lay_tris : ∀ L : List Tri, PyData.canLayAll0 (L.map fun p => PyData.tuple (triD p)) = true
  | [] => by simp [PyData.canLayAll0]
  | p :: L => by
    have h1 := lay_tris L
    have h2 := lay_ints (triI p)
    rw [List.map_cons]
    simp only [PyData.canLayAll0, PyData.canLay0, Bool.and_eq_true]
    exact ⟨h2, h1⟩
theorem shaped_tris (L : List Tri) : SeqAt.shaped (.list (L.map fun p => PyData.tuple (triD p))) = true := by
  unfold SeqAt.shaped
  rw [Bool.and_eq_true]
  refine ⟨lay_tris L, decide_eq_true ?_⟩
  have h := depth_tris L
  simp only [PyData.depth]
  omega
theorem eqv_tris (L : List Tri) : PyData.eqv (.list (L.map fun p => PyData.tuple (triD p))) (.list (L.map fun p => PyData.tuple (triD p))) = true := SeqAt.eqv_refl _ (lay_tris L)
end Sr
namespace Sr
open PySem PySem.Spec PyProof.Rows L2
/-! ### one lane's, each with its worth -/
def lrP (g l told : Int) (o t : List Nat) (d : Int) (M : List (Nat × Nat)) : List Tri :=
  (M.filter fun p => decide (told ≤ lev g l (likL o t d) p.2 - lev g l (likL o t d) p.1)).map fun p => (((bgn d + p.1 : Nat) : Int), ((bgn d + p.2 : Nat) : Int), lev g l (likL o t d) p.2 - lev g l (likL o t d) p.1)
noncomputable def lrL (g l told : Int) (o t : List Nat) (d : Int) : List Tri := lrP g l told o t d (ripL (lev g l (likL o t d)) (likL o t d).length)
theorem lrP_all {g l told : Int} {o t : List Nat} {d : Int} {L : List (Nat × Nat)} (h : RL (lev g l (likL o t d)) (likL o t d).length L) : lrP g l told o t d L = lrL g l told o t d := by
  unfold lrL
  rw [ripL_eq h]
theorem lrP_snoc (g l told : Int) (o t : List Nat) (d : Int) (M : List (Nat × Nat)) (p : Nat × Nat) :
    lrP g l told o t d (M ++ [p]) = lrP g l told o t d M ++ if told ≤ lev g l (likL o t d) p.2 - lev g l (likL o t d) p.1 then [(((bgn d + p.1 : Nat) : Int), ((bgn d + p.2 : Nat) : Int), lev g l (likL o t d) p.2 - lev g l (likL o t d) p.1)] else [] := by
  unfold lrP
  rw [List.filter_append, List.map_append]
  congr 1
  rw [List.filter_cons, List.filter_nil]
  by_cases h : told ≤ lev g l (likL o t d) p.2 - lev g l (likL o t d) p.1
  · rw [if_pos (decide_eq_true h), if_pos h]
    rfl
  · rw [if_neg (by simpa using h), if_neg h]
    rfl
theorem lrP_len (g l told : Int) (o t : List Nat) (d : Int) (M : List (Nat × Nat)) : (lrP g l told o t d M).length ≤ M.length := by
  unfold lrP
  rw [List.length_map]
  exact List.length_filter_le _ _
theorem rchL_lr (g l told : Int) (o t : List Nat) (d : Int) : rchL g l told o t d = (lrL g l told o t d).map fun q => (d, q.1, q.2.1) := by
  unfold rchL lrL lrP
  rw [List.map_map]
  rfl
theorem lrL_len (g l told : Int) (o t : List Nat) (d : Int) : (lrL g l told o t d).length ≤ o.length := by
  have h := rchL_len g l told o t d
  rw [rchL_lr, List.length_map] at h
  exact h
end Sr

namespace Sr
open PySem PySem.Spec PyProof.Rows L2
/-! ### the text -/
def topS (i : Nat) : Stmt := PySem.Challenge.pw_seedreach_k03_reaches.main.body.getD i (.Pass ⟨0, 0, 0, 0⟩)
abbrev slane_begin : Stmt := topS 3
abbrev nlane_begin : List Str := ["shift"]
theorem sclane_begin : FnScope nlane_begin ["shift"] (defScope slane_begin) := ⟨rfl, rfl, rfl, by decide +kernel, rfl, by decide +kernel, by decide +kernel⟩
abbrev slikes_of : Stmt := topS 4
abbrev nlikes_of : List Str := ["one", "other", "shift", "begin", "end", "place"]
theorem sclikes_of : FnScope nlikes_of ["one", "other", "shift"] (defScope slikes_of) := ⟨rfl, rfl, rfl, by decide +kernel, rfl, by decide +kernel, by decide +kernel⟩
abbrev sworth_of : Stmt := topS 5
abbrev nworth_of : List Str := ["likes", "scale", "gain", "loss"]
theorem scworth_of : FnScope nworth_of ["likes", "scale"] (defScope sworth_of) := ⟨rfl, rfl, rfl, by decide +kernel, rfl, by decide +kernel, by decide +kernel⟩
abbrev s_last_below : Stmt := topS 8
abbrev n_last_below : List Str := ["parts", "low", "at"]
theorem sc_last_below : FnScope n_last_below ["parts", "low"] (defScope s_last_below) := ⟨rfl, rfl, rfl, by decide +kernel, rfl, by decide +kernel, by decide +kernel⟩
abbrev s_join : Stmt := topS 7
abbrev n_join : List Str := ["parts", "place", "low", "high", "begin", "at"]
theorem sc_join : FnScope n_join ["parts", "place", "low", "high"] (defScope s_join) := ⟨rfl, rfl, rfl, by decide +kernel, rfl, by decide +kernel, by decide +kernel⟩
abbrev sripe : Stmt := topS 6
abbrev nripe : List Str := ["likes", "scale", "gain", "loss", "parts", "level", "place", "pair", "part"]
theorem scripe : FnScope nripe ["likes", "scale"] (defScope sripe) := ⟨rfl, rfl, rfl, by decide +kernel, rfl, by decide +kernel, by decide +kernel⟩
abbrev slane_reaches : Stmt := topS 9
abbrev nlane_reaches : List Str := ["one", "other", "shift", "scale", "told", "likes", "first", "found", "begin", "end", "worth"]
theorem sclane_reaches : FnScope nlane_reaches ["one", "other", "shift", "scale", "told"] (defScope slane_reaches) := ⟨rfl, rfl, rfl, by decide +kernel, rfl, by decide +kernel, by decide +kernel⟩
abbrev sreaches : Stmt := topS 10
abbrev nreaches : List Str := ["one", "other", "scale", "told", "found", "shift", "begin", "end", "_"]
theorem screaches : FnScope nreaches ["one", "other", "scale", "told"] (defScope sreaches) := ⟨rfl, rfl, rfl, by decide +kernel, rfl, by decide +kernel, by decide +kernel⟩
abbrev s_law_next : Stmt := topS 12
abbrev n_law_next : List Str := ["_law_h", "_law_many", "_law_at", "_law_cell"]
theorem sc_law_next : FnScope n_law_next ["_law_h", "_law_many"] (defScope s_law_next) := ⟨rfl, rfl, rfl, by decide +kernel, rfl, by decide +kernel, by decide +kernel⟩
abbrev s_law_letters : Stmt := topS 13
abbrev n_law_letters : List Str := ["_law_h", "_law_turn", "_law_k"]
theorem sc_law_letters : FnScope n_law_letters ["_law_h"] (defScope s_law_letters) := ⟨rfl, rfl, rfl, by decide +kernel, rfl, by decide +kernel, by decide +kernel⟩
abbrev s_law_row : Stmt := topS 14
abbrev n_law_row : List Str := ["_law_h", "_law_letters_here", "_law_most", "_law_k"]
theorem sc_law_row : FnScope n_law_row ["_law_h", "_law_letters_here", "_law_most"] (defScope s_law_row) := ⟨rfl, rfl, rfl, by decide +kernel, rfl, by decide +kernel, by decide +kernel⟩
abbrev s_law_near : Stmt := topS 15
abbrev n_law_near : List Str := ["_law_h", "_law_row_here", "_law_letters_here", "_law_found", "_law_keep", "_law_sign", "_law_way"]
theorem sc_law_near : FnScope n_law_near ["_law_h", "_law_row_here", "_law_letters_here"] (defScope s_law_near) := ⟨rfl, rfl, rfl, by decide +kernel, rfl, by decide +kernel, by decide +kernel⟩
abbrev s_law_scale : Stmt := topS 16
abbrev n_law_scale : List Str := ["_law_h"]
theorem sc_law_scale : FnScope n_law_scale ["_law_h"] (defScope s_law_scale) := ⟨rfl, rfl, rfl, by decide +kernel, rfl, by decide +kernel, by decide +kernel⟩
abbrev s_law_worth : Stmt := topS 17
abbrev n_law_worth : List Str := ["_law_likes", "_law_scale_here", "_law_found", "_law_sign"]
theorem sc_law_worth : FnScope n_law_worth ["_law_likes", "_law_scale_here"] (defScope s_law_worth) := ⟨rfl, rfl, rfl, by decide +kernel, rfl, by decide +kernel, by decide +kernel⟩
abbrev s_law_stands : Stmt := topS 18
abbrev n_law_stands : List Str := ["_law_likes", "_law_scale_here", "_law_found", "_law_begin", "_law_low", "_law_total", "_law_end"]
theorem sc_law_stands : FnScope n_law_stands ["_law_likes", "_law_scale_here"] (defScope s_law_stands) := ⟨rfl, rfl, rfl, by decide +kernel, rfl, by decide +kernel, by decide +kernel⟩
abbrev s_law_ripe : Stmt := topS 19
abbrev n_law_ripe : List Str := ["_law_likes", "_law_scale_here", "_law_found", "_law_last", "_law_begin", "_law_low", "_law_end"]
theorem sc_law_ripe : FnScope n_law_ripe ["_law_likes", "_law_scale_here"] (defScope s_law_ripe) := ⟨rfl, rfl, rfl, by decide +kernel, rfl, by decide +kernel, by decide +kernel⟩
abbrev s_law_lane : Stmt := topS 20
abbrev n_law_lane : List Str := ["_law_one", "_law_other", "_law_shift", "_law_places", "_law_likes", "_law_p"]
theorem sc_law_lane : FnScope n_law_lane ["_law_one", "_law_other", "_law_shift"] (defScope s_law_lane) := ⟨rfl, rfl, rfl, by decide +kernel, rfl, by decide +kernel, by decide +kernel⟩
abbrev s_law_reaches : Stmt := topS 21
abbrev n_law_reaches : List Str := ["_law_one", "_law_other", "_law_scale_here", "_law_told", "_law_found", "_law_shift", "_law_likes", "_law_ahead", "_law_begin", "_law_end"]
theorem sc_law_reaches : FnScope n_law_reaches ["_law_one", "_law_other", "_law_scale_here", "_law_told"] (defScope s_law_reaches) := ⟨rfl, rfl, rfl, by decide +kernel, rfl, by decide +kernel, by decide +kernel⟩
abbrev s_law_same : Stmt := topS 22
abbrev n_law_same : List Str := ["_law_found", "_law_due", "_law_k"]
theorem sc_law_same : FnScope n_law_same ["_law_found", "_law_due"] (defScope s_law_same) := ⟨rfl, rfl, rfl, by decide +kernel, rfl, by decide +kernel, by decide +kernel⟩
abbrev slaw : Stmt := topS 23
abbrev nlaw : List Str := ["_law_script", "_law_h", "_law_letters_here", "_law_scale_here", "_law_one", "_law_other", "_law_told", "_law_due", "_law_found", "_law_turned", "_law_shift", "_law_begin", "_law_end"]
theorem sclaw : FnScope nlaw ["_law_script"] (defScope slaw) := ⟨rfl, rfl, rfl, by decide +kernel, rfl, by decide +kernel, by decide +kernel⟩
structure Dn (P : Program) (w : World) (K : PySem.W.Frag) (mg : Str → Option Value) (base : Heap) (x : Str) (k : Nat) (ps : List Str) (sp : Sp) (f : Addr) (fd : FuncData) : Prop where
  ok : FnOk P w K mg base CX0 k f fd ps sp
  g : mg x = some (.ref f)
  kp : PySem.W.keepIn K (.ref f) = true
  b : Binds K fd ps []
structure Bl (mg : Str → Option Value) : Prop where
  m_max : mg "max" = none
  m_min : mg "min" = none
  m_len : mg "len" = none
  m_range : mg "range" = none
  m_enumerate : mg "enumerate" = none
  m_sorted : mg "sorted" = none
  m_int : mg "int" = none
  m_isinstance : mg "isinstance" = none
  m_str : mg "str" = none
  m_list : mg "list" = none
  m_tuple : mg "tuple" = none
  m_bool : mg "bool" = none
structure Cs (mg : Str → Option Value) (uLIKE uUNLIKE : Value) : Prop where
  c_LIKE : RelV (.str "=") uLIKE ∧ mg "LIKE" = some uLIKE
  c_UNLIKE : RelV (.str "/") uUNLIKE ∧ mg "UNLIKE" = some uUNLIKE
def splane_begin (K : PySem.W.Frag) : Sp := fun vs H Q _ => ∃ (d : Int), vs = [.int d] ∧ Q (.int (bgn d : Nat)) H
def splikes_of (K : PySem.W.Frag) : Sp := fun vs H Q _ => ∃ (o t : List Nat) (d : Int), vs = [.str (S o), .str (S t), .int d] ∧ o.length ≤ 1000 ∧ t.length ≤ 1000 ∧ -100000 ≤ d ∧ d ≤ 100000 ∧ ∀ H', Same H H' → Q (.str (S (likL o t d))) H'
def spworth_of (K : PySem.W.Frag) : Sp := fun vs H Q _ => ∃ (z : List Nat) (p : Addr) (g l : Int), vs = [.str (S z), .ref p] ∧ SqT K H p [.int g, .int l] ∧ Lk z ∧ 0 ≤ g ∧ g ≤ 1000 ∧ 0 ≤ l ∧ l ≤ 1000 ∧ Q (.int (wor g l z)) H
def sp_last_below (K : PySem.W.Frag) : Sp := fun vs H Q _ => ∃ (pp : Addr) (low : Int) (s : Nat → Int) (as : List Addr) (L : List (Nat × Nat)), vs = [.ref pp, .int low] ∧ H pp = some (.lst (as.map V.ref)) ∧ Tup (part4 s) H as L ∧
  ∀ k : Nat, k ≤ L.length → (∀ j p, k ≤ j → L[j]? = some p → low ≤ s p.1) → (∀ j p, k = j + 1 → L[j]? = some p → s p.1 < low) → Q (.int ((k : Int) - 1)) H
def sp_join (K : PySem.W.Frag) : Sp := fun vs H Q _ => ∃ (pp : Addr) (i : Nat) (s : Nat → Int) (as : List Addr) (L : List (Nat × Nat)), vs = [.ref pp, .int (i : Nat), .int (s i), .int (s (i + 1))] ∧ H pp = some (.lst (as.map V.ref)) ∧ Tup (part4 s) H as L ∧ RL s i L ∧ s i < s (i + 1) ∧ i ≤ 1000 ∧
  ∀ (H' : Hp) (as' : List Addr) (L' : List (Nat × Nat)), RL s (i + 1) L' → H' pp = some (.lst (as'.map V.ref)) → Tup (part4 s) H' as' L' → K1 pp H H' → Q .non H'
def spripe (K : PySem.W.Frag) : Sp := fun vs H Q _ => ∃ (z : List Nat) (ps : Addr) (g l : Int), vs = [.str (S z), .ref ps] ∧ SqT K H ps [.int g, .int l] ∧ 1 ≤ g ∧ g ≤ 1000 ∧ 1 ≤ l ∧ l ≤ 1000 ∧ z.length ≤ 1000 ∧
  ∀ (D : Addr) (H' : Hp) (as : List Addr) (L : List (Nat × Nat)), RL (lev g l z) z.length L → Same H H' → H D = none → H' D = some (.lst (as.map V.ref)) → Tup pair2 H' as L → Q (.ref D) H'
def splane_reaches (K : PySem.W.Frag) : Sp := fun vs H Q _ => ∃ (o t : List Nat) (d : Int) (ps : Addr) (g l told : Int), vs = [.str (S o), .str (S t), .int d, .ref ps, .int told] ∧ SqT K H ps [.int g, .int l] ∧ 1 ≤ g ∧ g ≤ 1000 ∧ 1 ≤ l ∧ l ≤ 1000 ∧ o.length ≤ 100 ∧ t.length ≤ 100 ∧ -100000 ≤ d ∧ d ≤ 100000 ∧
  ∀ (D : Addr) (H' : Hp) (as : List Addr), Same H H' → H D = none → H' D = some (.lst (as.map V.ref)) → Tup triV H' as (lrL g l told o t d) → Q (.ref D) H'
def spreaches (K : PySem.W.Frag) : Sp := fun vs H Q _ => ∃ (o t : List Nat) (ps : Addr) (g l told : Int), vs = [.str (S o), .str (S t), .ref ps, .int told] ∧ SqT K H ps [.int g, .int l] ∧ 1 ≤ g ∧ g ≤ 1000 ∧ 1 ≤ l ∧ l ≤ 1000 ∧ o.length ≤ 100 ∧ t.length ≤ 100 ∧
  ∀ (D : Addr) (H' : Hp) (as : List Addr), Same H H' → H D = none → H' D = some (.lst (as.map V.ref)) → Tup triV H' as (rchA g l told o t) → Q (.ref D) H'
def sp_law_next (K : PySem.W.Frag) : Sp := fun vs H Q _ => ∃ (a b : Addr) (m : Int), vs = [.ref a, .int m] ∧ Src H a b ∧ 0 < m ∧ m < 1000000 ∧ ∀ (r : Int) (H' : Hp), 0 ≤ r → r < m → Src H' a b → Kp a b H H' → Q (.int r) H'
def sp_law_letters (K : PySem.W.Frag) : Sp := fun vs H Q _ => ∃ (a b : Addr), vs = [.ref a] ∧ Src H a b ∧ ∀ (t n : Nat) (H' : Hp), t < 26 → 2 ≤ n → n ≤ 6 → Src H' a b → Kp a b H H' → Q (.str (S (letL t n))) H'
def sp_law_row (K : PySem.W.Frag) : Sp := fun vs H Q _ => ∃ (a b : Addr) (l : List Nat) (m : Int), vs = [.ref a, .str (S l), .int m] ∧ Src H a b ∧ 0 < l.length ∧ l.length ≤ 1000 ∧ 0 ≤ m ∧ m ≤ 1000 ∧ ∀ (z : List Nat) (H' : Hp), (z.length : Int) ≤ m → (∀ c ∈ z, c ∈ l) → Src H' a b → Kp a b H H' → Q (.str (S z)) H'
def sp_law_near (K : PySem.W.Frag) : Sp := fun vs H Q _ => ∃ (a b : Addr) (r l : List Nat), vs = [.ref a, .str (S r), .str (S l)] ∧ Src H a b ∧ 0 < l.length ∧ l.length ≤ 1000 ∧ r.length ≤ 1000 ∧ (∀ c ∈ r, c ∈ l) ∧ ∀ (z : List Nat) (H' : Hp), z.length ≤ 60 → (∀ c ∈ z, c ∈ l) → Src H' a b → Kp a b H H' → Q (.str (S z)) H'
def sp_law_scale (K : PySem.W.Frag) : Sp := fun vs H Q _ => ∃ (a b : Addr), vs = [.ref a] ∧ Src H a b ∧ ∀ (g l : Int) (p : Addr) (H' : Hp), 1 ≤ g → g ≤ 9 → 1 ≤ l → l ≤ 9 → H' p = some (.tup [.int g, .int l]) → p ≠ a → p ≠ b → Src H' a b → Kp a b H H' → Q (.ref p) H'
def sp_law_worth (K : PySem.W.Frag) : Sp := fun vs H Q _ => ∃ (z : List Nat) (p : Addr) (g l : Int), vs = [.str (S z), .ref p] ∧ SqT K H p [.int g, .int l] ∧ Q (.int (wor g l z)) H
def sp_law_stands (K : PySem.W.Frag) : Sp := fun vs H Q _ => ∃ (z : List Nat) (ps : Addr) (g l : Int), vs = [.str (S z), .ref ps] ∧ SqT K H ps [.int g, .int l] ∧ 1 ≤ g ∧ 1 ≤ l ∧ z.length ≤ 1000 ∧
  ∀ (D : Addr) (H' : Hp) (as : List Addr) (M : List (Nat × Nat)), SLI (lev g l z) z.length z.length (z.length + 1) M → Same H H' → H D = none → H' D = some (.lst (as.map V.ref)) → Tup pair2 H' as M → Q (.ref D) H'
def sp_law_ripe (K : PySem.W.Frag) : Sp := fun vs H Q _ => ∃ (z : List Nat) (ps : Addr) (g l : Int), vs = [.str (S z), .ref ps] ∧ SqT K H ps [.int g, .int l] ∧ 1 ≤ g ∧ 1 ≤ l ∧ z.length ≤ 1000 ∧
  ∀ (D : Addr) (H' : Hp) (as : List Addr) (L : List (Nat × Nat)), RL (lev g l z) z.length L → Same H H' → H D = none → H' D = some (.lst (as.map V.ref)) → Tup pair2 H' as L → Q (.ref D) H'
def sp_law_lane (K : PySem.W.Frag) : Sp := fun vs H Q _ => ∃ (o t : List Nat) (d : Int), vs = [.str (S o), .str (S t), .int d] ∧ o.length ≤ 1000 ∧ t.length ≤ 1000 ∧ ∀ (p : Addr) (H' : Hp), Same H H' → H' p = some (.tup [.str (S (likL o t d)), .int (((plc o.length t.length d)[0]?.getD 0 : Nat) : Int)]) → Q (.ref p) H'
def sp_law_reaches (K : PySem.W.Frag) : Sp := fun vs H Q _ => ∃ (o t : List Nat) (ps : Addr) (g l told : Int), vs = [.str (S o), .str (S t), .ref ps, .int told] ∧ SqT K H ps [.int g, .int l] ∧ 1 ≤ g ∧ g ≤ 1000 ∧ 1 ≤ l ∧ l ≤ 1000 ∧ o.length ≤ 100 ∧ t.length ≤ 100 ∧
  ∀ (D : Addr) (H' : Hp) (as : List Addr), Same H H' → H D = none → H' D = some (.lst (as.map V.ref)) → Tup triV H' as (rchA g l told o t) → Q (.ref D) H'
def sp_sameN (n : Nat) (K : PySem.W.Frag) : Sp := fun vs H Q _ => ∃ (x y : V) (d : PyData), vs = [x, y] ∧ Dp K H x d ∧ Dp K H y d ∧ Gd d ∧ d.depth + 1 ≤ n ∧ ∀ H', Same H H' → Q (.bl true) H'
def sp_law_same (K : PySem.W.Frag) : Sp := sp_sameN 12 K
def splaw (K : PySem.W.Frag) : Sp := fun vs H Q _ => ∃ (a : Addr) (ns : List Int), vs = [.ref a] ∧ SqL K H a (ns.map V.int) ∧ ns.length ≤ 63 ∧ ∀ H', Q (.bl true) H'
end Sr
local macro_rules | `(tactic| walk_at "hp") => `(tactic| first | assumption | exact L2.upd_same | exact (L2.upd_ne (by assumption)).trans (by walk_at "hp") | exact (L2.upd_ne (Ne.symm (by assumption))).trans (by walk_at "hp") | exact (L2.upd_ne (L2.ne_of_none (by assumption) (by assumption))).trans (by walk_at "hp"))
local macro_rules | `(tactic| walk_at "sql") => `(tactic| first | assumption | exact L2.SqL.of (by walk_at "hp"))
local macro_rules | `(tactic| walk_at "sqt") => `(tactic| first | assumption | exact L2.SqT.of (by walk_at "hp"))
local macro_rules | `(tactic| walk_at "vc01") => `(tactic| first
  | (with_reducible refine L2.x_seq ?_)
  | (with_reducible refine L2.x_asg ?_)
  | (with_reducible refine L2.x_name ?_)
  | (with_reducible refine L2.x_op ?_)
  | ((with_reducible (refine L2.x_var (v := ?v) ?hv ?_)); case hv => rfl)
  | (with_reducible refine L2.x_c ?_)
  | (with_reducible refine L2.x_rI0 ?_)
  | ((with_reducible (refine L2.x_rI ?hrI ?_)); case hrI => first | exact ⟨by omega, by omega⟩ | exact .inr ⟨by omega, by omega⟩ | exact .inl ⟨by omega, by omega⟩ | (show (0 : Int) < _; omega) | exact ⟨by omega, by omega, by omega⟩ | exact ⟨by decide, by decide, by decide⟩)
  | (with_reducible refine L2.x_rU ?_)
  | (with_reducible refine L2.x_un ?_)
  | ((with_reducible (refine L2.x_rEq ?hs ?_)); case hs => rfl)
  | ((with_reducible (refine L2.x_rNe ?hs ?_)); case hs => rfl)
  | (with_reducible refine L2.x_test ?_)
  | (with_reducible refine L2.x_b ?_)
  | (with_reducible refine L2.x_bl ?_)
  | (with_reducible refine L2.x_and ?_)
  | (with_reducible refine L2.x_or ?_)
  | (with_reducible refine L2.x_not ?_)
  | (with_reducible refine L2.x_notV ?_)
  | (with_reducible refine L2.x_andV ?_)
  | (with_reducible refine L2.x_orV ?_)
  | (with_reducible refine L2.x_cons ?_)
  | (with_reducible refine L2.x_nil ?_)
  | (with_reducible refine L2.x_tup ?_)
  | (with_reducible refine L2.x_lst ?_)
  | (with_reducible refine L2.x_cb ?_)
  | (with_reducible refine L2.x_call ?_)
  | (with_reducible refine L2.x_chain ?_)
  | (with_reducible refine L2.x_next ?_)
  | (with_reducible refine L2.x_drop ?_)
  | (with_reducible refine L2.x_ret ?_)
  | (with_reducible refine L2.x_gCons ?_)
  | (with_reducible refine L2.x_gNil ?_)
  | (with_reducible refine L2.x_gSub ?_)
  | (with_reducible refine L2.x_bm ?_)
  | (with_reducible refine L2.x_m1 ?_)
  | (with_reducible refine L2.x_m1s ?_)
  | (with_reducible refine L2.x_sl ?_)
  | (with_reducible refine L2.x_noPart ?_)
  | (with_reducible refine L2.x_part ?_)
  | (with_reducible refine L2.x_parti ?_)
  | (with_reducible refine L2.x_rng1 ?_)
  | (with_reducible refine L2.x_rng2 ?_)
  | (with_reducible refine L2.x_lcR ?_)
  | (with_reducible refine L2.x_yes ?_)
  | (with_reducible refine L2.x_iList ?_)
  | (with_reducible refine L2.x_iStr ?_)
  | (with_reducible refine L2.x_iStri ?_)
  | (with_reducible refine L2.x_for ?_)
  | ((with_reducible (refine L2.x_rng2i ?h1 ?_)); (case h1 => exact ⟨by omega, by omega, by omega, by omega⟩))
  | (with_reducible refine L2.x_two ?_)
  | (with_reducible refine L2.x_chain3 ?_)
  | (with_reducible refine L2.x_iEnumS ?_)
  | (with_reducible refine L2.x_par ?_)
  | (with_reducible refine L2.x_parv ?_)
  | ((with_reducible (refine L2.x_aug (x := ?x) ?h ?_)); (case h => rfl))
  | (with_reducible refine L2.x_ipI ?_)
  | (with_reducible refine L2.iteT ?_)
  | (with_reducible refine L2.iteF ?_)
  | (with_reducible refine L2.x_iteNT ?_)
  | (with_reducible refine L2.x_iteNF ?_)
  | (with_reducible refine L2.x_s1 ?_)
  | (with_reducible refine L2.x_rIntB ?_)
  | ((with_reducible (refine L2.x_addS ?h1 ?_)); (case h1 => first | assumption | exact L2.hp_sz (by omega)))
  | (with_reducible refine L2.x_intB ?_)
  | ((with_reducible (refine L2.x_rng1i ?h1 ?h2 ?_)); (case h1 => omega); (case h2 => omega))
  | ((with_reducible (refine L2.x_lenS ?h1 ?_)); (case h1 => first | assumption | exact L2.hp_sz (by omega)))
  | ((with_reducible (refine L2.x_lenL (ys := ?ys) ?h1 ?_)); (case h1 => first | assumption | exact .inl (by walk_at "sql") | exact .inr (by walk_at "sqt")))
  | ((with_reducible (refine L2.x_setL (xs := ?xs) (k := ?k) ?h1 ?h2 ?_)); (case h1 => walk_at "hp"); (case h2 => first | assumption | rfl | exact L2.atI_nat (j := 0) rfl))
  | ((with_reducible (refine L2.x_ixL (xs := ?xs) (v := ?v) ?h1 ?h2 ?_)); (case h1 => walk_at "sql"); (case h2 => first | assumption | rfl | exact L2.atI_nat (j := 0) rfl))
  | ((with_reducible (refine L2.x_ixT (xs := ?xs) (v := ?v) ?h1 ?h2 ?_)); (case h1 => walk_at "sqt"); (case h2 => first | assumption | rfl | exact L2.atI_nat (j := 0) rfl))
  | (with_reducible refine L2.x_enumS ?_)
  | ((with_reducible (refine L2.x_gTup (xs := ?xs) ?h1 ?h2 ?_)); (case h1 => walk_at "sqt"); (case h2 => rfl)))
local macro_rules | `(tactic| walk_at "vc1") => `(tactic| first | (walk_at "vc01") | (with_reducible refine L2.x_ifE ?_) | (with_reducible refine L2.x_ifS ?_))
local macro_rules | `(tactic| walk_at "vc0") => `(tactic| repeat (walk_at "vc01"))
local macro_rules | `(tactic| walk_at "vc") => `(tactic| repeat (walk_at "vc1"))
namespace Sr
open PySem PySem.Spec PyProof.Rows L2
section
variable {P : Program} {w : World} {K : PySem.W.Frag} {mg : Str → Option Value} {base : Heap}
theorem oklane_begin {f : Addr} {fd : FuncData} (F : Fun K "lane_begin" "lane_begin" slane_begin f fd) (B : Bl mg) : FnOk P w K mg base CX0 1 f fd ["shift"] (splane_begin K) := by
  refine F.ok sclane_begin (fun vs H Q E h => ?_) (fun cdv A outer s H vs Q E hr h => ?_)
  · first
      | (obtain ⟨_, rfl, _⟩ := h; rfl)
      | (obtain ⟨_, _, rfl, _⟩ := h; rfl)
      | (obtain ⟨_, _, _, rfl, _⟩ := h; rfl)
      | (obtain ⟨_, _, _, _, rfl, _⟩ := h; rfl)
      | (obtain ⟨_, _, _, _, _, rfl, _⟩ := h; rfl)
      | (obtain ⟨_, _, _, _, _, _, rfl, _⟩ := h; rfl)
      | (obtain ⟨_, _, _, _, _, _, _, rfl, _⟩ := h; rfl)
      | (obtain ⟨_, _, _, _, _, _, _, _, rfl, _⟩ := h; rfl)
      | (obtain ⟨_, _, _, _, _, _, _, _, _, rfl, _⟩ := h; rfl)
      | (obtain ⟨_, _, _, _, _, _, _, _, _, _, rfl, _⟩ := h; rfl)
      | (obtain ⟨_, _, _, _, _, _, _, _, _, _, _, rfl, _⟩ := h; rfl)
  · obtain ⟨d, rfl, q⟩ := h
    refine ⟨_, 
  (pss_one (ps_ret (pe_callB (call_max2 rfl) (by rfl) B.m_max (by decide +kernel) (pa_cons pe_int (pa_cons (pe_un un_neg (pv 0)) pa_nil))))), ?_⟩
    walk_at "vc"
    have e : (if -d > 0 then -d else 0) = ((bgn d : Nat) : Int) := by unfold bgn; omega
    rw [e]
    exact q


theorem oklikes_of {f : Addr} {fd : FuncData} {uLIKE uUNLIKE : Value} {flane_begin : Addr} {fdlane_begin : FuncData} (F : Fun K "likes_of" "likes_of" slikes_of f fd) (B : Bl mg) (C : Cs mg uLIKE uUNLIKE) (Dlane_begin : Dn P w K mg base "lane_begin" 1 ["shift"] (splane_begin K) flane_begin fdlane_begin) : FnOk P w K mg base CX0 2 f fd ["one", "other", "shift"] (splikes_of K) := by
  refine F.ok sclikes_of (fun vs H Q E h => ?_) (fun cdv A outer s H vs Q E hr h => ?_)
  · first
      | (obtain ⟨_, rfl, _⟩ := h; rfl)
      | (obtain ⟨_, _, rfl, _⟩ := h; rfl)
      | (obtain ⟨_, _, _, rfl, _⟩ := h; rfl)
      | (obtain ⟨_, _, _, _, rfl, _⟩ := h; rfl)
      | (obtain ⟨_, _, _, _, _, rfl, _⟩ := h; rfl)
      | (obtain ⟨_, _, _, _, _, _, rfl, _⟩ := h; rfl)
      | (obtain ⟨_, _, _, _, _, _, _, rfl, _⟩ := h; rfl)
      | (obtain ⟨_, _, _, _, _, _, _, _, rfl, _⟩ := h; rfl)
      | (obtain ⟨_, _, _, _, _, _, _, _, _, rfl, _⟩ := h; rfl)
      | (obtain ⟨_, _, _, _, _, _, _, _, _, _, rfl, _⟩ := h; rfl)
      | (obtain ⟨_, _, _, _, _, _, _, _, _, _, _, rfl, _⟩ := h; rfl)
  · obtain ⟨o, t, d, rfl, ho, ht, hd1, hd2, q⟩ := h
    have eo : ((S o).length : Int) = o.length := by rw [len_S]
    have et : ((S t).length : Int) = t.length := by rw [len_S]
    have lo : (S o).length ≤ sizeLine := hp_sz (by rw [len_S]; omega)
    have lt : (S t).length ≤ sizeLine := hp_sz (by rw [len_S]; omega)
    refine ⟨_, 
  (pss_cons (ps_set (i := 3) sclikes_of.nd rfl (.inl rfl) (pe_call Dlane_begin.ok hr (by rfl) Dlane_begin.g Dlane_begin.kp Dlane_begin.b .nil pass0 (pa_cons (pv 2) pa_nil))) 
  (pss_cons (ps_set (i := 4) sclikes_of.nd rfl (.inl rfl) (pe_callB (call_min2 rfl) (by rfl) B.m_min (by decide +kernel) (pa_cons (pe_callB call_len_str (by rfl) B.m_len PySem.boot_len (pa_cons (pv 0) pa_nil)) (pa_cons (pe_op op_sub (pe_callB call_len_str (by rfl) B.m_len PySem.boot_len (pa_cons (pv 1) pa_nil)) (pv 2)) pa_nil)))) 
  (pss_one (ps_ret (pe_join pe_str (pe_lc (own := [("place", 5)]) (g := gName 5) (tt := tYes) rfl sclikes_of.nd (pi_range2 rfl B.m_range (pa_cons (pv 3) (pa_cons (pv 4) pa_nil))) (blkOk_by (N := nlikes_of) (sc := defScope slikes_of) (by decide +kernel)) (fun _ _ _ _ _ => (pg_name (i := 5) sclikes_of.nd rfl (.inl rfl))) (fun _ _ _ _ _ => pts_nil) (fun _ _ _ _ _ => (pe_ifExp (pt_cmpR op_eq (pe_ix ix_str (pv 0) (pv 5) (fun _ _ => rfl)) (pe_ix ix_str (pv 1) (pe_op op_add (pv 5) (pv 2)) (fun _ _ => rfl)) (nomark _)) (pe_glob rfl C.c_LIKE.2 C.c_LIKE.1) (pe_glob rfl C.c_UNLIKE.2 C.c_UNLIKE.1))))))))), ?_⟩
    walk_at "vc"
    refine ⟨d, rfl, ?_⟩
    walk_at "vc"
    have eb : ((bgn d : Nat) : Int) = if -d > 0 then -d else 0 := by unfold bgn; omega
    refine ⟨⟨by omega, by omega, by split <;> omega, by split <;> omega⟩, ?_⟩
    have en : ((if ((S t).length : Int) - d < ((S o).length : Int) then ((S t).length : Int) - d else ((S o).length : Int)) - ((bgn d : Nat) : Int)).toNat = lkn o.length t.length d := by
      rw [eo, et]
      unfold lkn
      omega
    rw [en]
    intro D hD
    refine lc_range (fun i H' => Same H H' ∧ H' D = some (.lst ((List.range i).map fun i => V.str (sg (lk1 o t d (bgn d + i)))))) ⟨same_upd hD, upd_same⟩ (fun i H' hi h => ?_) (fun H' h => ?_)
    · walk_at "vc"
      refine ⟨rfl, ?_⟩
      have h1 : bgn d + i < o.length := by unfold lkn at hi; omega
      have h2 : 0 ≤ ((bgn d + i : Nat) : Int) + d := by unfold bgn; omega
      have h3 : (((bgn d + i : Nat) : Int) + d).toNat < t.length := by unfold lkn at hi; omega
      walk_at "vc"
      refine x_ixS lo (c := o[bgn d + i]) (atI_of (by omega) ?_) ?_
      · have e : (((bgn d : Nat) : Int) + (i : Int)).toNat = bgn d + i := by omega
        rw [e]
        exact List.getElem?_eq_getElem h1
      walk_at "vc"
      refine x_ixS lt (c := t[(((bgn d + i : Nat) : Int) + d).toNat]) (atI_of (by omega) ?_) ?_
      · have e : ((((bgn d : Nat) : Int) + (i : Int)) + d).toNat = (((bgn d + i : Nat) : Int) + d).toNat := by omega
        rw [e]
        exact List.getElem?_eq_getElem h3
      walk_at "vc"
      have ek : ∀ c : Nat, lk1 o t d (bgn d + i) = c → ∃ acc, H' D = some (.lst acc) ∧ acc.length < sizeLine ∧ (Same H (upd H' D (.lst (acc ++ [V.str (sg c)]))) ∧ upd H' D (.lst (acc ++ [V.str (sg c)])) D = some (.lst ((List.range (i + 1)).map fun i => V.str (sg (lk1 o t d (bgn d + i)))))) :=
        fun c hc => pv_step hD h.1 h.2 (by unfold lkn at hi; omega) (by rw [hc])
      have el : lk1 o t d (bgn d + i) = if o[bgn d + i] = t[(((bgn d + i : Nat) : Int) + d).toNat] then 61 else 47 := by
        unfold lk1
        rw [List.getElem?_eq_getElem h1, List.getElem?_eq_getElem h3]
        simp only [Option.some.injEq]
      refine ite2 (fun e => ?_) (fun e => ?_)
      · walk_at "vc"
        refine ek 61 ?_
        have e' := of_decide_eq_true e
        rw [el, if_pos]
        simpa using e'
      · walk_at "vc"
        refine ek 47 ?_
        rw [el, if_neg]
        intro e'
        exact e (decide_eq_true (by rw [e']))
    · refine join_end (cs := likL o t d) ?_ (by have := likL_le o t d; omega) ?_
      · rw [h.2, likL_eq, List.map_map]
        rfl
      · exact q H' h.1


theorem okworth_of {f : Addr} {fd : FuncData} {uLIKE uUNLIKE : Value} (F : Fun K "worth_of" "worth_of" sworth_of f fd) (B : Bl mg) (C : Cs mg uLIKE uUNLIKE) : FnOk P w K mg base CX0 1 f fd ["likes", "scale"] (spworth_of K) := by
  refine F.ok scworth_of (fun vs H Q E h => ?_) (fun cdv A outer s H vs Q E hr h => ?_)
  · first
      | (obtain ⟨_, rfl, _⟩ := h; rfl)
      | (obtain ⟨_, _, rfl, _⟩ := h; rfl)
      | (obtain ⟨_, _, _, rfl, _⟩ := h; rfl)
      | (obtain ⟨_, _, _, _, rfl, _⟩ := h; rfl)
      | (obtain ⟨_, _, _, _, _, rfl, _⟩ := h; rfl)
      | (obtain ⟨_, _, _, _, _, _, rfl, _⟩ := h; rfl)
      | (obtain ⟨_, _, _, _, _, _, _, rfl, _⟩ := h; rfl)
      | (obtain ⟨_, _, _, _, _, _, _, _, rfl, _⟩ := h; rfl)
      | (obtain ⟨_, _, _, _, _, _, _, _, _, rfl, _⟩ := h; rfl)
      | (obtain ⟨_, _, _, _, _, _, _, _, _, _, rfl, _⟩ := h; rfl)
      | (obtain ⟨_, _, _, _, _, _, _, _, _, _, _, rfl, _⟩ := h; rfl)
  · obtain ⟨z, p, g, l, rfl, hT, hz, hg1, hg2, hl1, hl2, q⟩ := h
    refine ⟨_, 
  (pss_cons (ps_asg (pv 1) (pg_tup rfl (pgs_cons (pg_name (i := 2) scworth_of.nd rfl (.inl rfl)) (pgs_cons (pg_name (i := 3) scworth_of.nd rfl (.inl rfl)) pgs_nil)))) 
  (pss_one (ps_ret (pe_op op_sub (pe_op op_mul (pv 2) (pe_m1 PySem.F.slot_str_count PySem.F.type_str_count mt_count (pv 0) (pe_glob rfl C.c_LIKE.2 C.c_LIKE.1))) (pe_op op_mul (pv 3) (pe_m1 PySem.F.slot_str_count PySem.F.type_str_count mt_count (pv 0) (pe_glob rfl C.c_UNLIKE.2 C.c_UNLIKE.1))))))), ?_⟩
    walk_at "vc"
    have e1 := count_sign (S z) 61
    have e2 := count_sign (S z) 47
    have e3 := wor_count g l hz
    rw [tl_S] at e1 e2
    show Q (V.int (g * Txt.count (S z) (sg 61) - l * Txt.count (S z) (sg 47))) H
    rw [e1, e2, e3]
    exact q


theorem ok_last_below {f : Addr} {fd : FuncData} (F : Fun K "_last_below" "_last_below" s_last_below f fd) (B : Bl mg) : FnOk P w K mg base CX0 1 f fd ["parts", "low"] (sp_last_below K) := by
  refine F.ok sc_last_below (fun vs H Q E h => ?_) (fun cdv A outer s H vs Q E hr h => ?_)
  · first
      | (obtain ⟨_, rfl, _⟩ := h; rfl)
      | (obtain ⟨_, _, rfl, _⟩ := h; rfl)
      | (obtain ⟨_, _, _, rfl, _⟩ := h; rfl)
      | (obtain ⟨_, _, _, _, rfl, _⟩ := h; rfl)
      | (obtain ⟨_, _, _, _, _, rfl, _⟩ := h; rfl)
      | (obtain ⟨_, _, _, _, _, _, rfl, _⟩ := h; rfl)
      | (obtain ⟨_, _, _, _, _, _, _, rfl, _⟩ := h; rfl)
      | (obtain ⟨_, _, _, _, _, _, _, _, rfl, _⟩ := h; rfl)
      | (obtain ⟨_, _, _, _, _, _, _, _, _, rfl, _⟩ := h; rfl)
      | (obtain ⟨_, _, _, _, _, _, _, _, _, _, rfl, _⟩ := h; rfl)
      | (obtain ⟨_, _, _, _, _, _, _, _, _, _, _, rfl, _⟩ := h; rfl)
  · obtain ⟨pp, low, s, as, L, rfl, hpp, hT, q⟩ := h
    refine ⟨_, 
  (pss_cons (ps_set (i := 2) sc_last_below.nd rfl (.inl rfl) (pe_op op_sub (pe_callB call_len_seq (by rfl) B.m_len PySem.boot_len (pa_cons (pv 0) pa_nil)) pe_int)) 
  (pss_cons (ps_while PassesOwn.never (PW.pt (pw_and (pt_cmpR op_ge (pv 2) pe_int (nomark _)) (pw_and1 (pt_cmpR op_ge (pe_ix ix_tup (pe_ix ix_list (pv 0) (pv 2) (fun _ _ => rfl)) pe_int (fun _ _ => rfl)) (pv 1) (nomark _))))) 
    (pss_one (ps_aug (i := 2) sc_last_below.nd rfl (.inl rfl) pe_int ip_sub))) 
  (pss_one (ps_ret (pv 2))))), ?_⟩
    walk_at "vc"
    rw [hT.len]
    refine ⟨fun m σ H' => σ = [some (.ref pp), some (.int low), some (.int ((m : Int) - 1))] ∧ H' = H ∧ m ≤ L.length ∧ ∀ j p, m ≤ j → L[j]? = some p → low ≤ s p.1, ⟨L.length, rfl, rfl, Nat.le_refl _, fun j p h1 h2 => ?_⟩, ?_⟩
    · have := (List.getElem?_eq_some_iff.mp h2).1
      omega
    · rintro m σ H' ⟨rfl, rfl, hm, hall⟩
      walk_at "vc"
      refine ite2 (fun e => ?_) (fun e => ?_)
      · have e0 := of_decide_eq_true e
        obtain ⟨k, rfl⟩ : ∃ k, m = k + 1 := ⟨m - 1, by omega⟩
        obtain ⟨p, hp⟩ : ∃ p, L[k]? = some p := ⟨L[k], List.getElem?_eq_getElem (by omega)⟩
        obtain ⟨a, ha1, ha2, ha3⟩ := hT.get hp
        have hat : atI (as.map V.ref) (((k + 1 : Nat) : Int) - 1) = some (.ref a) := by
          have e1 : ((k + 1 : Nat) : Int) - 1 = ((k : Nat) : Int) := by omega
          rw [e1]
          exact atI_nat ha2
        walk_at "vc"
        refine ite2 (fun e2 => ?_) (fun e2 => ?_)
        · have e3 : low ≤ s p.1 := of_decide_eq_true e2
          refine ⟨fun σ' H2 => σ' = [some (.ref pp), some (.int low), some (.int ((k : Int) - 1))] ∧ H2 = H', fun σ' H2 h => ⟨k, by omega, h.1, h.2, by omega, fun j q h1 h2 => ?_⟩, ?_⟩
          · by_cases hj : j = k
            · subst hj
              have : q = p := Option.some.inj (h2.symm.trans hp)
              rw [this]
              exact e3
            · exact hall j q (by omega) h2
          · walk_at "vc"
            refine ⟨?_, rfl⟩
            have e1 : ((k + 1 : Nat) : Int) - 1 - 1 = (k : Int) - 1 := by omega
            rw [e1]
            rfl
        · walk_at "vc"
          refine q (k + 1) hm hall fun j p' h1 h2 => ?_
          have : j = k := by omega
          subst this
          have : p' = p := Option.some.inj (h2.symm.trans hp)
          rw [this]
          have e3 : ¬ low ≤ s p.1 := fun h => e2 (decide_eq_true h)
          omega
      · walk_at "vc"
        refine q m hm hall fun j p h1 h2 => ?_
        have e0 : ¬ (0 : Int) ≤ (m : Int) - 1 := fun h => e (decide_eq_true h)
        omega


theorem ok_join {f : Addr} {fd : FuncData} {f_last_below : Addr} {fd_last_below : FuncData} (F : Fun K "_join" "_join" s_join f fd) (B : Bl mg) (D_last_below : Dn P w K mg base "_last_below" 1 ["parts", "low"] (sp_last_below K) f_last_below fd_last_below) : FnOk P w K mg base CX0 2 f fd ["parts", "place", "low", "high"] (sp_join K) := by
  refine F.ok sc_join (fun vs H Q E h => ?_) (fun cdv A outer s H vs Q E hr h => ?_)
  · first
      | (obtain ⟨_, rfl, _⟩ := h; rfl)
      | (obtain ⟨_, _, rfl, _⟩ := h; rfl)
      | (obtain ⟨_, _, _, rfl, _⟩ := h; rfl)
      | (obtain ⟨_, _, _, _, rfl, _⟩ := h; rfl)
      | (obtain ⟨_, _, _, _, _, rfl, _⟩ := h; rfl)
      | (obtain ⟨_, _, _, _, _, _, rfl, _⟩ := h; rfl)
      | (obtain ⟨_, _, _, _, _, _, _, rfl, _⟩ := h; rfl)
      | (obtain ⟨_, _, _, _, _, _, _, _, rfl, _⟩ := h; rfl)
      | (obtain ⟨_, _, _, _, _, _, _, _, _, rfl, _⟩ := h; rfl)
      | (obtain ⟨_, _, _, _, _, _, _, _, _, _, rfl, _⟩ := h; rfl)
      | (obtain ⟨_, _, _, _, _, _, _, _, _, _, _, rfl, _⟩ := h; rfl)
  · obtain ⟨pp, i, s, as, L, rfl, hpp, hT, hRL, hlt, hi, q⟩ := h
    refine ⟨_, 
  (pss_cons (ps_set (i := 4) sc_join.nd rfl (.inl rfl) (pv 1)) 
  (pss_cons (ps_set (i := 5) sc_join.nd rfl (.inl rfl) (pe_call D_last_below.ok hr (by rfl) D_last_below.g D_last_below.kp D_last_below.b .nil pass0 (pa_cons (pv 0) (pa_cons (pv 2) pa_nil)))) 
  (pss_cons (ps_while PassesOwn.never (PW.pt (pw_and (pt_cmpR op_ge (pv 5) pe_int (nomark _)) (pw_and1 (pt_cmpR op_lt (pe_ix ix_tup (pe_ix ix_list (pv 0) (pv 5) (fun _ _ => rfl)) pe_int (fun _ _ => rfl)) (pv 3) (nomark _))))) 
    (pss_cons (ps_par (i := 4) (j := 2) (by rfl) sc_join.nd rfl rfl (by decide) rfl rfl (pa_cons (pe_ix ix_tup (pe_ix ix_list (pv 0) (pv 5) (fun _ _ => rfl)) pe_int (fun _ _ => rfl)) (pa_cons (pe_ix ix_tup (pe_ix ix_list (pv 0) (pv 5) (fun _ _ => rfl)) pe_int (fun _ _ => rfl)) pa_nil)) (by rfl)) 
    (pss_cons (ps_delFrom (pv 0) (pv 5)) 
    (pss_one (ps_set (i := 5) sc_join.nd rfl (.inl rfl) (pe_call D_last_below.ok hr (by rfl) D_last_below.g D_last_below.kp D_last_below.b .nil pass0 (pa_cons (pv 0) (pa_cons (pv 2) pa_nil)))))))) 
  (pss_one (ps_expr (pe_bm PySem.F.plainAttrs_list PySem.F.slot_list_append PySem.F.type_list_append mt_append (pv 0) (pa_cons (pe_tup (pa_cons (pv 4) (pa_cons (pe_op op_add (pv 1) pe_int) (pa_cons (pv 2) (pa_cons (pv 3) pa_nil))))) pa_nil))))))), ?_⟩
    walk_at "vc"
    refine ⟨pp, s i, s, as, L, rfl, hpp, hT, fun k hk hk1 hk2 => ?_⟩
    walk_at "vc"
    refine ⟨fun m σ H' => ∃ (b : Nat) (as : List Addr) (L : List (Nat × Nat)), σ = [some (.ref pp), some (.int (i : Nat)), some (.int (s b)), some (.int (s (i + 1))), some (.int (b : Nat)), some (.int ((m : Int) - 1))] ∧ H' pp = some (.lst (as.map V.ref)) ∧ Tup (part4 s) H' as L ∧ K1 pp H H' ∧ Cand s i b L ∧ m ≤ L.length ∧ L.length ≤ i ∧ (∀ j p, m ≤ j → L[j]? = some p → s b ≤ s p.1) ∧ (∀ j p, m = j + 1 → L[j]? = some p → s p.1 < s b),
      ⟨k, i, as, L, rfl, hpp, hT, K1.refl _, Cand.start hRL hlt, hk, hRL.len, hk1, hk2⟩, ?_⟩
    rintro m σ H1 ⟨b, as, L, rfl, hpp, hT, k1, hC, hm, hL, hall, hlast⟩
    have fin : (∀ p ∈ L, s b ≤ s p.1) ∨ (∃ R1 R2 bk ek, L = R1 ++ (bk, ek) :: R2 ∧ (∀ p ∈ R2, s b ≤ s p.1) ∧ s (i + 1) ≤ s ek) → ∀ (t : Addr), H1 t = none → Q .non (upd (upd H1 t (.tup [.int (b : Nat), .int ((i : Int) + 1), .int (s b), .int (s (i + 1))])) pp (.lst (as.map V.ref ++ [.ref t]))) := by
      intro hc t ht
      have hne : pp ≠ t := ne_of_none hpp ht
      refine q _ (as ++ [t]) (L ++ [(b, i + 1)]) (hC.done (hC.leftmost hc)) ?_ ?_ (k1.trans (K1.trans (K1.of (same_upd ht)) K1.at))
      · rw [upd_same, List.map_append]
        rfl
      · refine Tup.snoc ?_ ?_
        · exact (hT.same (same_upd ht)).k1 K1.at (by rw [upd_ne hne]; exact hpp)
        · rw [upd_ne hne.symm, upd_same]
          rfl
    walk_at "vc"
    refine ite2 (fun e => ?_) (fun e => ?_)
    · have e0 := of_decide_eq_true e
      obtain ⟨k, rfl⟩ : ∃ k, m = k + 1 := ⟨m - 1, by omega⟩
      have hk : k < L.length := by omega
      have hp : L[k]? = some L[k] := List.getElem?_eq_getElem hk
      obtain ⟨a, ha1, ha2, ha3⟩ := hT.get hp
      have hat : atI (as.map V.ref) (((k + 1 : Nat) : Int) - 1) = some (.ref a) := by
        have e1 : ((k + 1 : Nat) : Int) - 1 = ((k : Nat) : Int) := by omega
        rw [e1]
        exact atI_nat ha2
      have hsp : L = L.take k ++ (L[k].1, L[k].2) :: L.drop (k + 1) := by
        show L = L.take k ++ L[k] :: L.drop (k + 1)
        rw [← List.drop_eq_getElem_cons hk, List.take_append_drop]
      have hR2 : ∀ p ∈ L.drop (k + 1), s b ≤ s p.1 := fun p hp => by
        obtain ⟨j, hj⟩ := List.getElem?_of_mem hp
        rw [List.getElem?_drop] at hj
        exact hall (k + 1 + j) p (by omega) hj
      have hlo : s L[k].1 < s b := hlast k L[k] rfl hp
      walk_at "vc"
      refine ite2 (fun e2 => ?_) (fun e2 => ?_)
      · have e3 : s L[k].2 < s (i + 1) := of_decide_eq_true e2
        refine ⟨_, fun _ _ h => h, ?_⟩
        walk_at "vc"
        refine x_del ?_
        walk_at "vc"
        refine x_delFrom (k := k) hpp (by omega) (by rw [hT.len]; omega) ?_
        have hpp' : upd H1 pp (.lst ((as.map V.ref).take k)) pp = some (.lst ((as.take k).map V.ref)) := by rw [upd_same, List.map_take]
        have hT' : Tup (part4 s) (upd H1 pp (.lst ((as.map V.ref).take k))) (as.take k) (L.take k) := (hT.k1 K1.at hpp).take k
        have k1' : K1 pp H (upd H1 pp (.lst ((as.map V.ref).take k))) := k1.trans K1.at
        generalize upd H1 pp (.lst ((as.map V.ref).take k)) = H2 at hpp' hT' k1'
        have hC' : Cand s i L[k].1 (L.take k) := Cand.step (R2 := L.drop (k + 1)) (ek := L[k].2) (by rw [← hsp]; exact hC) hR2 hlo e3
        have hl' : (L.take k).length = k := by rw [List.length_take]; omega
        walk_at "vc"
        refine ⟨pp, s L[k].1, s, as.take k, L.take k, rfl, hpp', hT', fun k2 hk2 hk21 hk22 => ?_⟩
        walk_at "vc"
        exact ⟨k2, by omega, L[k].1, as.take k, L.take k, rfl, hpp', hT', k1', hC', hk2, by omega, hk21, hk22⟩
      · have e3 : ¬ s L[k].2 < s (i + 1) := fun h => e2 (decide_eq_true h)
        walk_at "vc"
        refine ⟨.inl ⟨rfl, _, SqL.of hpp⟩, ?_⟩
        walk_at "vc"
        refine ⟨show 4 ≤ sizeLine by decide, fun t ht => ?_⟩
        walk_at "vc"
        refine x_append (by rw [upd_ne (ne_of_none hpp ht)]; exact hpp) (by rw [hT.len]; exact Nat.lt_of_le_of_lt (by omega : L.length ≤ 1000) (by decide)) ?_
        exact fin (.inr ⟨_, _, _, _, hsp, hR2, by omega⟩) t ht
    · have e0 : ¬ (0 : Int) ≤ (m : Int) - 1 := fun h => e (decide_eq_true h)
      have hm0 : m = 0 := by omega
      walk_at "vc"
      refine ⟨.inl ⟨rfl, _, SqL.of hpp⟩, ?_⟩
      walk_at "vc"
      refine ⟨show 4 ≤ sizeLine by decide, fun t ht => ?_⟩
      walk_at "vc"
      refine x_append (by rw [upd_ne (ne_of_none hpp ht)]; exact hpp) (by rw [hT.len]; exact Nat.lt_of_le_of_lt (by omega : L.length ≤ 1000) (by decide)) ?_
      refine fin (.inl fun p hp => ?_) t ht
      obtain ⟨j, hj⟩ := List.getElem?_of_mem hp
      exact hall j p (by omega) hj


theorem okripe {f : Addr} {fd : FuncData} {uLIKE uUNLIKE : Value} {f_join : Addr} {fd_join : FuncData} (F : Fun K "ripe" "ripe" sripe f fd) (B : Bl mg) (C : Cs mg uLIKE uUNLIKE) (D_join : Dn P w K mg base "_join" 2 ["parts", "place", "low", "high"] (sp_join K) f_join fd_join) : FnOk P w K mg base CX0 3 f fd ["likes", "scale"] (spripe K) := by
  refine F.ok scripe (fun vs H Q E h => ?_) (fun cdv A outer s H vs Q E hr h => ?_)
  · first
      | (obtain ⟨_, rfl, _⟩ := h; rfl)
      | (obtain ⟨_, _, rfl, _⟩ := h; rfl)
      | (obtain ⟨_, _, _, rfl, _⟩ := h; rfl)
      | (obtain ⟨_, _, _, _, rfl, _⟩ := h; rfl)
      | (obtain ⟨_, _, _, _, _, rfl, _⟩ := h; rfl)
      | (obtain ⟨_, _, _, _, _, _, rfl, _⟩ := h; rfl)
      | (obtain ⟨_, _, _, _, _, _, _, rfl, _⟩ := h; rfl)
      | (obtain ⟨_, _, _, _, _, _, _, _, rfl, _⟩ := h; rfl)
      | (obtain ⟨_, _, _, _, _, _, _, _, _, rfl, _⟩ := h; rfl)
      | (obtain ⟨_, _, _, _, _, _, _, _, _, _, rfl, _⟩ := h; rfl)
      | (obtain ⟨_, _, _, _, _, _, _, _, _, _, _, rfl, _⟩ := h; rfl)
  · obtain ⟨z, ps, g, l, rfl, hS, hg1, hg2, hl1, hl2, hz, q⟩ := h
    refine ⟨_, 
  (pss_cons (ps_asg (pv 1) (pg_tup rfl (pgs_cons (pg_name (i := 2) scripe.nd rfl (.inl rfl)) (pgs_cons (pg_name (i := 3) scripe.nd rfl (.inl rfl)) pgs_nil)))) 
  (pss_cons (ps_set (i := 4) scripe.nd rfl (.inl rfl) (pe_lst pa_nil)) 
  (pss_cons (ps_set (i := 5) scripe.nd rfl (.inl rfl) pe_int) 
  (pss_cons (ps_for PassesOwn.never rfl (pi_enumS (by rfl) B.m_enumerate (pa_cons (pv 0) pa_nil)) (pg_tup rfl (pgs_cons (pg_name (i := 6) scripe.nd rfl (.inl rfl)) (pgs_cons (pg_name (i := 7) scripe.nd rfl (.inl rfl)) pgs_nil))) 
    (pss_one (ps_if (pt_cmpR op_eq (pv 7) (pe_glob rfl C.c_LIKE.2 C.c_LIKE.1) (nomark _)) 
      (pss_cons (ps_expr (pe_call D_join.ok hr (by rfl) D_join.g D_join.kp D_join.b .nil pass0 (pa_cons (pv 4) (pa_cons (pv 6) (pa_cons (pv 5) (pa_cons (pe_op op_add (pv 5) (pv 2)) pa_nil)))))) 
      (pss_one (ps_aug (i := 5) scripe.nd rfl (.inl rfl) (pv 2) ip_add))) 
      (pss_one (ps_aug (i := 5) scripe.nd rfl (.inl rfl) (pv 3) ip_sub))))) 
  (pss_one (ps_ret (pe_lc (own := [("part", 8)]) (g := gName 8) (tt := tYes) rfl scripe.nd (pi_list (pv 4)) (blkOk_by (N := nripe) (sc := defScope sripe) (by decide +kernel)) (fun _ _ _ _ _ => (pg_name (i := 8) scripe.nd rfl (.inl rfl))) (fun _ _ _ _ _ => pts_nil) (fun _ _ _ _ _ => (pe_slice (show SlR _ (rSlT K) from sl_tup) (pv 8) po_none (po_some pe_int)))))))))), ?_⟩
    walk_at "vc"
    refine ⟨by decide, fun pp hpp => ?_⟩
    walk_at "vc"
    refine for_it (walk_enumS (x := S z)) (fun i σ H' => ∃ (as : List Addr) (L : List (Nat × Nat)) (y6 y7 y8 : Option V), σ = [some (.str (S z)), some (.ref ps), some (.int g), some (.int l), some (.ref pp), some (.int (lev g l z i)), y6, y7, y8] ∧ Same H H' ∧ H' pp = some (.lst (as.map V.ref)) ∧ Tup (part4 (lev g l z)) H' as L ∧ RL (lev g l z) i L)
      ⟨[], [], none, none, none, by rw [lev_zero]; rfl, same_upd hpp, upd_same, Tup.nil, RL.zero _⟩ (fun _ _ _ _ _ => trivial) ?_ ?_
    · rintro i x σ H1 H2 hi ⟨as, L, y6, y7, y8, rfl, sm, hp, hT, hRL⟩ ⟨T, c, rfl, hTn, hc, rfl⟩
      have hi' : i < z.length := hi
      have ec : z[i] = c := by
        have : z[i]? = some c := by simpa [S] using hc
        rw [List.getElem?_eq_getElem hi'] at this
        exact Option.some.inj this
      have els := lev_succ g l hi'
      rw [ec] at els
      have sm1 : Same H1 (upd H1 T (.tup [.int (i : Nat), .str ⟨#[c]⟩])) := same_upd hTn
      have hTT : upd H1 T (.tup [.int (i : Nat), .str ⟨#[c]⟩]) T = some (.tup [.int (i : Nat), .str ⟨#[c]⟩]) := upd_same
      have hp1 := sm1 _ _ hp
      have hT1 := hT.same sm1
      have sm2 := sm.trans sm1
      generalize upd H1 T (.tup [.int (i : Nat), .str ⟨#[c]⟩]) = H3 at sm1 hTT hp1 hT1 sm2
      refine x_gTup (SqT.of hTT) rfl ?_
      walk_at "vc"
      rw [show (⟨#[c]⟩ : Str) = sg c from rfl, eq_like]
      refine ite2 (fun e => ?_) (fun e => ?_)
      · have hc61 : c = 61 := of_decide_eq_true e
        rw [if_pos hc61] at els
        walk_at "vc"
        refine ⟨pp, i, lev g l z, as, L, by rw [els]; rfl, hp1, hT1, hRL, by omega, by omega, fun H4 as' L' hRL' hp' hT' k1 => ?_⟩
        walk_at "vc"
        exact ⟨as', L', _, _, _, by rw [els]; rfl, k1.same hpp sm2, hp', hT', hRL'⟩
      · have hc61 : ¬ c = 61 := fun h => e (decide_eq_true h)
        rw [if_neg hc61] at els
        walk_at "vc"
        exact ⟨as, L, _, _, _, by rw [els]; rfl, sm2, hp1, hT1, hRL.unlike (by omega)⟩
    · rintro σ H1 ⟨as, L, y6, y7, y8, rfl, sm, hp, hT, hRL⟩
      have hsz : (S z).cps.size = z.length := len_S z
      rw [hsz] at hRL
      walk_at "vc"
      refine x_iListi (SqL.of hp) ?_
      intro D hD
      refine lc_list (K := K) (a := pp) (xs := as.map V.ref) (fun i H2 => ∃ as', Same H1 H2 ∧ H2 D = some (.lst (as'.map V.ref)) ∧ Tup pair2 H2 as' (L.take i)) ⟨[], same_upd hD, upd_same, Tup.nil⟩ (fun i H2 _ ⟨_, h, _⟩ => h.seq (SqL.of hp)) (fun i x H2 hx h => ?_) (fun H2 h => ?_)
      · obtain ⟨as', sm2, hD2, hT2⟩ := h
        have hi : i < L.length := by
          have := (List.getElem?_eq_some_iff.mp hx).1
          rw [hT.len] at this
          exact this
        have hLi : L[i]? = some L[i] := List.getElem?_eq_getElem hi
        obtain ⟨a, ha1, ha2, ha3⟩ := hT.get hLi
        have ex : x = .ref a := Option.some.inj (hx.symm.trans ha2)
        subst ex
        walk_at "vc"
        refine ⟨rfl, ?_⟩
        walk_at "vc"
        refine x_slT (SqT.of (sm2 _ _ ha3)) (show ¬ (HT.sIx 4 0 none = 0 ∧ HT.sIx 4 4 (some 2) = 4) by decide) fun t ht => ?_
        have hL := hRL.len
        refine ⟨_, by rw [upd_ne (ne_of_none hD2 ht)]; exact hD2, by rw [hT2.len, List.length_take]; exact Nat.lt_of_le_of_lt (by omega : _ ≤ 1000) (by decide), ?_⟩
        have hpush := tup_push (p := L[i]) hD sm2 hD2 hT2 ht
        refine ⟨as' ++ [t], hpush.1, hpush.2.1, ?_⟩
        rw [List.take_succ_eq_append_getElem hi]
        exact hpush.2.2
      · obtain ⟨as', sm2, hD2, hT2⟩ := h
        rw [hT.len, List.take_of_length_le (Nat.le_refl _)] at hT2
        have hD0 : H D = none := sm.free hD
        exact q D H2 as' L hRL (sm.trans sm2) hD0 hD2 hT2


theorem oklane_reaches {f : Addr} {fd : FuncData} {flikes_of : Addr} {fdlikes_of : FuncData} {flane_begin : Addr} {fdlane_begin : FuncData} {fripe : Addr} {fdripe : FuncData} {fworth_of : Addr} {fdworth_of : FuncData} (F : Fun K "lane_reaches" "lane_reaches" slane_reaches f fd) (B : Bl mg) (Dlikes_of : Dn P w K mg base "likes_of" 2 ["one", "other", "shift"] (splikes_of K) flikes_of fdlikes_of) (Dlane_begin : Dn P w K mg base "lane_begin" 1 ["shift"] (splane_begin K) flane_begin fdlane_begin) (Dripe : Dn P w K mg base "ripe" 3 ["likes", "scale"] (spripe K) fripe fdripe) (Dworth_of : Dn P w K mg base "worth_of" 1 ["likes", "scale"] (spworth_of K) fworth_of fdworth_of) : FnOk P w K mg base CX0 4 f fd ["one", "other", "shift", "scale", "told"] (splane_reaches K) := by
  refine F.ok sclane_reaches (fun vs H Q E h => ?_) (fun cdv A outer s H vs Q E hr h => ?_)
  · first
      | (obtain ⟨_, rfl, _⟩ := h; rfl)
      | (obtain ⟨_, _, rfl, _⟩ := h; rfl)
      | (obtain ⟨_, _, _, rfl, _⟩ := h; rfl)
      | (obtain ⟨_, _, _, _, rfl, _⟩ := h; rfl)
      | (obtain ⟨_, _, _, _, _, rfl, _⟩ := h; rfl)
      | (obtain ⟨_, _, _, _, _, _, rfl, _⟩ := h; rfl)
      | (obtain ⟨_, _, _, _, _, _, _, rfl, _⟩ := h; rfl)
      | (obtain ⟨_, _, _, _, _, _, _, _, rfl, _⟩ := h; rfl)
      | (obtain ⟨_, _, _, _, _, _, _, _, _, rfl, _⟩ := h; rfl)
      | (obtain ⟨_, _, _, _, _, _, _, _, _, _, rfl, _⟩ := h; rfl)
      | (obtain ⟨_, _, _, _, _, _, _, _, _, _, _, rfl, _⟩ := h; rfl)
  · obtain ⟨o, t, d, ps, g, l, told, rfl, hS, hg1, hg2, hl1, hl2, ho, ht, hd1, hd2, q⟩ := h
    have eo : ((S o).length : Int) = o.length := by rw [len_S]
    have et : ((S t).length : Int) = t.length := by rw [len_S]
    have lo : (S o).length ≤ sizeLine := hp_sz (by rw [len_S]; omega)
    have lt : (S t).length ≤ sizeLine := hp_sz (by rw [len_S]; omega)
    refine ⟨_, 
  (pss_cons (ps_set (i := 5) sclane_reaches.nd rfl (.inl rfl) (pe_call Dlikes_of.ok (hr.mono (by decide)) (by rfl) Dlikes_of.g Dlikes_of.kp Dlikes_of.b .nil pass0 (pa_cons (pv 0) (pa_cons (pv 1) (pa_cons (pv 2) pa_nil))))) 
  (pss_cons (ps_set (i := 6) sclane_reaches.nd rfl (.inl rfl) (pe_call Dlane_begin.ok (hr.mono (by decide)) (by rfl) Dlane_begin.g Dlane_begin.kp Dlane_begin.b .nil pass0 (pa_cons (pv 2) pa_nil))) 
  (pss_cons (ps_set (i := 7) sclane_reaches.nd rfl (.inl rfl) (pe_lst pa_nil)) 
  (pss_cons (ps_for PassesOwn.never rfl (pi_list (pe_call Dripe.ok hr (by rfl) Dripe.g Dripe.kp Dripe.b .nil pass0 (pa_cons (pv 5) (pa_cons (pv 3) pa_nil)))) (pg_tup rfl (pgs_cons (pg_name (i := 8) sclane_reaches.nd rfl (.inl rfl)) (pgs_cons (pg_name (i := 9) sclane_reaches.nd rfl (.inl rfl)) pgs_nil))) 
    (pss_cons (ps_set (i := 10) sclane_reaches.nd rfl (.inl rfl) (pe_call Dworth_of.ok (hr.mono (by decide)) (by rfl) Dworth_of.g Dworth_of.kp Dworth_of.b .nil pass0 (pa_cons (pe_slice sl_str (pv 5) (po_some (pv 8)) (po_some (pv 9))) (pa_cons (pv 3) pa_nil)))) 
    (pss_one (ps_if (pt_cmpR op_ge (pv 10) (pv 4) (nomark _)) 
      (pss_one (ps_expr (pe_bm PySem.F.plainAttrs_list PySem.F.slot_list_append PySem.F.type_list_append mt_append (pv 7) (pa_cons (pe_tup (pa_cons (pe_op op_add (pv 6) (pv 8)) (pa_cons (pe_op op_add (pv 6) (pv 9)) (pa_cons (pv 10) pa_nil)))) pa_nil)))) pss_nil)))) 
  (pss_one (ps_ret (pv 7))))))), ?_⟩
    walk_at "vc"
    refine ⟨o, t, d, rfl, by omega, by omega, hd1, hd2, fun H3 sm3 => ?_⟩
    walk_at "vc"
    refine ⟨d, rfl, ?_⟩
    have hll := likL_le o t d
    walk_at "vc"
    refine ⟨by decide, fun sp hsp => ?_⟩
    have nsp : H sp = none := sm3.free hsp
    have sm1 : Same H (upd H3 sp (.lst [])) := sm3.trans (same_upd hsp)
    have hsp1 : upd H3 sp (.lst []) sp = some (.lst []) := upd_same
    generalize upd H3 sp (.lst []) = H1 at sm1 hsp1
    walk_at "vc"
    refine ⟨_, ps, g, l, rfl, SqT_same sm1 hS, hg1, hg2, hl1, hl2, by omega, fun D H4 as4 L hRL sm4 hD0 hD hT4 => ?_⟩
    have smA : Same H H4 := sm1.trans sm4
    have hsp4 := sm4 _ _ hsp1
    have hLl := hRL.len
    walk_at "vc"
    refine x_iListi (SqL.of hD) ?_
    refine for_list (K := K) (a := D) (xs := as4.map V.ref) (fun j σ H5 => ∃ (as : List Addr) (y8 y9 y10 : Option V), σ = [some (.str (S o)), some (.str (S t)), some (.int d), some (.ref ps), some (.int told), some (.str (S (likL o t d))), some (.int (bgn d : Nat)), some (.ref sp), y8, y9, y10] ∧ Same H H5 ∧ K1 sp H4 H5 ∧ H5 sp = some (.lst (as.map V.ref)) ∧ Tup triV H5 as (lrP g l told o t d (L.take j)))
      ⟨[], _, _, _, rfl, smA, K1.refl _, hsp4, Tup.nil⟩ (fun j σ H5 _ ⟨_, _, _, _, _, _, k, _⟩ => SqL.of (k _ _ (fun e => by rw [e] at hD0; rw [hsp1] at hD0; cases hD0) hD)) ?_ ?_
    · rintro j x σ H5 hx ⟨as, y8, y9, y10, rfl, sm5, k5, hsp5, hT5⟩
      have hj : j < L.length := by
        have := (List.getElem?_eq_some_iff.mp hx).1
        rw [hT4.len] at this
        exact this
      have hLj : L[j]? = some L[j] := List.getElem?_eq_getElem hj
      obtain ⟨aj, ha1, ha2, ha3⟩ := hT4.get hLj
      have ex : x = .ref aj := Option.some.inj (hx.symm.trans ha2)
      subst ex
      have hr := hRL.ripe _ (List.getElem_mem hj)
      have haj : H5 aj = some (.tup (pair2 L[j])) := k5 _ _ (ne_of ha3 hsp4 (by intro q; cases q)) ha3
      have hPl := lrP_len g l told o t d (L.take j)
      rw [List.length_take] at hPl
      rw [List.take_succ_eq_append_getElem hj, lrP_snoc]
      refine x_gTup (xs := [.int (L[j].1 : Nat), .int (L[j].2 : Nat)]) (SqT.of haj) rfl ?_
      generalize L[j] = pe at hr
      obtain ⟨pb, pn⟩ := pe
      have hbn : pb < pn := hr.1.1
      have hnz : pn ≤ (likL o t d).length := hr.2.1
      walk_at "vc"
      refine x_slS (hp_sz (by rw [len_S]; omega)) ?_
      rw [cutS_cut _ pb pn hnz]
      walk_at "vc"
      refine ⟨_, ps, g, l, rfl, SqT_same sm5 hS, fun c hc => likL_Lk o t d c (List.mem_of_mem_drop (List.mem_of_mem_take hc)), by omega, by omega, by omega, by omega, ?_⟩
      rw [wor_cut g l _ (Nat.le_of_lt hbn)]
      walk_at "vc"
      refine ite2 (fun e => ?_) (fun e => ?_)
      · have e1 : told ≤ lev g l (likL o t d) pn - lev g l (likL o t d) pb := of_decide_eq_true e
        walk_at "vc"
        refine ⟨.inl ⟨rfl, _, SqL.of hsp5⟩, ?_⟩
        walk_at "vc"
        refine ⟨show 3 ≤ sizeLine by decide, fun u hu => ?_⟩
        walk_at "vc"
        refine x_append (by rw [upd_ne (ne_of_none hsp5 hu)]; exact hsp5) (by rw [hT5.len]; exact Nat.lt_of_le_of_lt (by omega : _ ≤ 100000) (by decide)) ?_
        have hpush := tup_push (f := triV) (p := (((bgn d + pb : Nat) : Int), ((bgn d + pn : Nat) : Int), lev g l (likL o t d) pn - lev g l (likL o t d) pb)) nsp sm5 hsp5 hT5 hu
        refine ⟨as ++ [u], _, _, _, rfl, hpush.1, k5.trans ((K1.of (same_upd hu)).trans K1.at), hpush.2.1, ?_⟩
        rw [if_pos e1]
        exact hpush.2.2
      · have e1 : ¬ told ≤ lev g l (likL o t d) pn - lev g l (likL o t d) pb := fun h => e (decide_eq_true h)
        walk_at "vc"
        refine ⟨as, _, _, _, rfl, sm5, k5, hsp5, ?_⟩
        rw [if_neg e1, List.append_nil]
        exact hT5
    · rintro σ H5 ⟨as, y8, y9, y10, rfl, sm5, k5, hsp5, hT5⟩
      rw [hT4.len, List.take_of_length_le (Nat.le_refl _), lrP_all hRL] at hT5
      walk_at "vc"
      exact q sp H5 as sm5 nsp hsp5 hT5


theorem okreaches {f : Addr} {fd : FuncData} {flane_reaches : Addr} {fdlane_reaches : FuncData} (F : Fun K "reaches" "reaches" sreaches f fd) (B : Bl mg) (Dlane_reaches : Dn P w K mg base "lane_reaches" 4 ["one", "other", "shift", "scale", "told"] (splane_reaches K) flane_reaches fdlane_reaches) : FnOk P w K mg base CX0 5 f fd ["one", "other", "scale", "told"] (spreaches K) := by
  refine F.ok screaches (fun vs H Q E h => ?_) (fun cdv A outer s H vs Q E hr h => ?_)
  · first
      | (obtain ⟨_, rfl, _⟩ := h; rfl)
      | (obtain ⟨_, _, rfl, _⟩ := h; rfl)
      | (obtain ⟨_, _, _, rfl, _⟩ := h; rfl)
      | (obtain ⟨_, _, _, _, rfl, _⟩ := h; rfl)
      | (obtain ⟨_, _, _, _, _, rfl, _⟩ := h; rfl)
      | (obtain ⟨_, _, _, _, _, _, rfl, _⟩ := h; rfl)
      | (obtain ⟨_, _, _, _, _, _, _, rfl, _⟩ := h; rfl)
      | (obtain ⟨_, _, _, _, _, _, _, _, rfl, _⟩ := h; rfl)
      | (obtain ⟨_, _, _, _, _, _, _, _, _, rfl, _⟩ := h; rfl)
      | (obtain ⟨_, _, _, _, _, _, _, _, _, _, rfl, _⟩ := h; rfl)
      | (obtain ⟨_, _, _, _, _, _, _, _, _, _, _, rfl, _⟩ := h; rfl)
  · obtain ⟨o, t, ps, g, l, told, rfl, hS, hg1, hg2, hl1, hl2, ho, ht, q⟩ := h
    have eo : ((S o).length : Int) = o.length := by rw [len_S]
    have et : ((S t).length : Int) = t.length := by rw [len_S]
    have lo : (S o).length ≤ sizeLine := hp_sz (by rw [len_S]; omega)
    have lt : (S t).length ≤ sizeLine := hp_sz (by rw [len_S]; omega)
    refine ⟨_, 
  (pss_cons (ps_set (i := 4) screaches.nd rfl (.inl rfl) (pe_lst pa_nil)) 
  (pss_cons (ps_for PassesOwn.never rfl (pi_range2 rfl B.m_range (pa_cons (pe_op op_sub pe_int (pe_callB call_len_str (by rfl) B.m_len PySem.boot_len (pa_cons (pv 0) pa_nil))) (pa_cons (pe_callB call_len_str (by rfl) B.m_len PySem.boot_len (pa_cons (pv 1) pa_nil)) pa_nil))) (pg_name (i := 5) screaches.nd rfl (.inl rfl)) 
    (pss_one (ps_for PassesOwn.never rfl (pi_list (pe_call Dlane_reaches.ok hr (by rfl) Dlane_reaches.g Dlane_reaches.kp Dlane_reaches.b .nil pass0 (pa_cons (pv 0) (pa_cons (pv 1) (pa_cons (pv 5) (pa_cons (pv 2) (pa_cons (pv 3) pa_nil))))))) (pg_tup rfl (pgs_cons (pg_name (i := 6) screaches.nd rfl (.inl rfl)) (pgs_cons (pg_name (i := 7) screaches.nd rfl (.inl rfl)) (pgs_cons (pg_name (i := 8) screaches.nd rfl (.inl rfl)) pgs_nil)))) 
      (pss_one (ps_expr (pe_bm PySem.F.plainAttrs_list PySem.F.slot_list_append PySem.F.type_list_append mt_append (pv 4) (pa_cons (pe_tup (pa_cons (pv 5) (pa_cons (pv 6) (pa_cons (pv 7) pa_nil)))) pa_nil))))))) 
  (pss_one (ps_ret (pv 4))))), ?_⟩
    walk_at "vc"
    refine ⟨by decide, fun sp hsp => ?_⟩
    have sm1 : Same H (upd H sp (.lst [])) := same_upd hsp
    have hsp1 : upd H sp (.lst []) sp = some (.lst []) := upd_same
    generalize upd H sp (.lst []) = H1 at sm1 hsp1
    walk_at "vc"
    have en : (((S t).length : Int) - (1 - ((S o).length : Int))).toNat = nsh o t := by rw [eo, et]; rfl
    rw [en]
    have hns : nsh o t ≤ 200 := by unfold nsh; omega
    refine for_range (fun i σ H2 => ∃ (as : List Addr) (y5 y6 y7 y8 : Option V), σ = [some (.str (S o)), some (.str (S t)), some (.ref ps), some (.int told), some (.ref sp), y5, y6, y7, y8] ∧ Same H H2 ∧ H2 sp = some (.lst (as.map V.ref)) ∧ Tup triV H2 as (rchN g l told o t (1 - (o.length : Int)) i))
      ⟨[], _, _, _, _, rfl, sm1, hsp1, Tup.nil⟩ ?_ ?_
    · rintro i σ H2 hi ⟨as, y5, y6, y7, y8, rfl, sm2, hsp2, hT2⟩
      have ed : (1 : Int) - ((S o).length : Int) + (i : Int) = 1 - (o.length : Int) + (i : Int) := by rw [eo]
      walk_at "vc"
      rw [ed]
      have hdb : -1000 ≤ 1 - (o.length : Int) + (i : Int) ∧ 1 - (o.length : Int) + (i : Int) ≤ 1000 := by omega
      rw [rchN_succ]
      generalize 1 - (o.length : Int) + (i : Int) = d at hdb
      refine ⟨o, t, d, ps, g, l, told, rfl, SqT_same sm2 hS, hg1, hg2, hl1, hl2, ho, ht, by omega, by omega, fun D H4 as4 sm4 hD0 hD hT4 => ?_⟩
      have smA : Same H H4 := sm2.trans sm4
      have hsp4 := sm4 _ _ hsp2
      have hTs4 := hT2.same sm4
      have hLl := lrL_len g l told o t d
      have hNl := rchN_len g l told o t (1 - (o.length : Int)) i
      have hNl2 : i * o.length ≤ 200 * 100 := Nat.mul_le_mul (by omega) ho
      rw [rchL_lr]
      generalize lrL g l told o t d = L at hT4 hLl
      walk_at "vc"
      refine x_iListi (SqL.of hD) ?_
      refine for_list (K := K) (a := D) (xs := as4.map V.ref) (fun j σ H5 => ∃ (as : List Addr) (y6 y7 y8 : Option V), σ = [some (.str (S o)), some (.str (S t)), some (.ref ps), some (.int told), some (.ref sp), some (.int d), y6, y7, y8] ∧ Same H H5 ∧ K1 sp H4 H5 ∧ H5 sp = some (.lst (as.map V.ref)) ∧ Tup triV H5 as (rchN g l told o t (1 - (o.length : Int)) i ++ (L.take j).map fun q => (d, q.1, q.2.1)))
        ⟨as, _, _, _, rfl, smA, K1.refl _, hsp4, by rw [List.take_zero]; show Tup triV H4 as (_ ++ []); rw [List.append_nil]; exact hTs4⟩ (fun j σ H5 _ ⟨_, _, _, _, _, _, k, _⟩ => SqL.of (k _ _ (fun e => by rw [e] at hD0; rw [hsp2] at hD0; cases hD0) hD)) ?_ ?_
      · rintro j x σ H5 hx ⟨as, y6, y7, y8, rfl, sm5, k5, hsp5, hT5⟩
        have hj : j < L.length := by
          have := (List.getElem?_eq_some_iff.mp hx).1
          rw [hT4.len] at this
          exact this
        have hLj : L[j]? = some L[j] := List.getElem?_eq_getElem hj
        obtain ⟨aj, ha1, ha2, ha3⟩ := hT4.get hLj
        have ex : x = .ref aj := Option.some.inj (hx.symm.trans ha2)
        subst ex
        have haj : H5 aj = some (.tup (triV L[j])) := k5 _ _ (ne_of ha3 hsp4 (by intro q; cases q)) ha3
        rw [List.take_succ_eq_append_getElem hj, List.map_append]
        generalize L[j] = pe at haj
        refine x_gTup (xs := [.int pe.1, .int pe.2.1, .int pe.2.2]) (SqT.of haj) rfl ?_
        walk_at "vc"
        refine ⟨.inl ⟨rfl, _, SqL.of hsp5⟩, ?_⟩
        walk_at "vc"
        refine ⟨show 3 ≤ sizeLine by decide, fun u hu => ?_⟩
        walk_at "vc"
        refine x_append (by rw [upd_ne (ne_of_none hsp5 hu)]; exact hsp5) (by rw [hT5.len, List.length_append, List.length_map, List.length_take]; exact Nat.lt_of_le_of_lt (by omega : _ ≤ 100000) (by decide)) ?_
        have hpush := tup_push (f := triV) (p := (d, pe.1, pe.2.1)) hsp sm5 hsp5 hT5 hu
        refine ⟨as ++ [u], _, _, _, rfl, hpush.1, k5.trans ((K1.of (same_upd hu)).trans K1.at), hpush.2.1, ?_⟩
        rw [← List.append_assoc]
        exact hpush.2.2
      · rintro σ H5 ⟨as, y6, y7, y8, rfl, sm5, k5, hsp5, hT5⟩
        rw [hT4.len, List.take_of_length_le (Nat.le_refl _)] at hT5
        exact ⟨as, _, _, _, _, rfl, sm5, hsp5, hT5⟩
    · rintro σ H2 ⟨as, y5, y6, y7, y8, rfl, sm2, hsp2, hT2⟩
      walk_at "vc"
      exact q sp H2 as sm2 hsp hsp2 hT2


theorem ok_law_next {f : Addr} {fd : FuncData} (F : Fun K "_law_next" "_law_next" s_law_next f fd) (B : Bl mg) : FnOk P w K mg base CX0 1 f fd ["_law_h", "_law_many"] (sp_law_next K) := by
  refine F.ok sc_law_next (fun vs H Q E h => ?_) (fun cdv A outer s H vs Q E hr h => ?_)
  · first
      | (obtain ⟨_, rfl, _⟩ := h; rfl)
      | (obtain ⟨_, _, rfl, _⟩ := h; rfl)
      | (obtain ⟨_, _, _, rfl, _⟩ := h; rfl)
      | (obtain ⟨_, _, _, _, rfl, _⟩ := h; rfl)
      | (obtain ⟨_, _, _, _, _, rfl, _⟩ := h; rfl)
      | (obtain ⟨_, _, _, _, _, _, rfl, _⟩ := h; rfl)
      | (obtain ⟨_, _, _, _, _, _, _, rfl, _⟩ := h; rfl)
      | (obtain ⟨_, _, _, _, _, _, _, _, rfl, _⟩ := h; rfl)
      | (obtain ⟨_, _, _, _, _, _, _, _, _, rfl, _⟩ := h; rfl)
      | (obtain ⟨_, _, _, _, _, _, _, _, _, _, rfl, _⟩ := h; rfl)
      | (obtain ⟨_, _, _, _, _, _, _, _, _, _, _, rfl, _⟩ := h; rfl)
  · obtain ⟨a, b, m, rfl, ⟨nab, s0, i0, cs, ha, hb, hcs⟩, hm, hm2, q⟩ := h
    refine ⟨_, 
  (pss_cons (ps_set (i := 2) sc_law_next.nd rfl (.inl rfl) (pe_op op_mod (pe_ix ix_list (pv 0) pe_int (fun _ _ => rfl)) (pe_callB (call_max2 rfl) (by rfl) B.m_max (by decide +kernel) (pa_cons pe_int (pa_cons (pe_callB call_len_seq (by rfl) B.m_len PySem.boot_len (pa_cons (pe_ix ix_list (pv 0) pe_int (fun _ _ => rfl)) pa_nil)) pa_nil))))) 
  (pss_cons (ps_set (i := 3) sc_law_next.nd rfl (.inl rfl) (pe_ifExp (pt_cmpR (op_neD hr.units) (pe_ix ix_list (pv 0) pe_int (fun _ _ => rfl)) (pe_lst pa_nil) (nomark _)) (pe_ix ix_list (pe_ix ix_list (pv 0) pe_int (fun _ _ => rfl)) (pv 2) (fun _ _ => rfl)) pe_int)) 
  (pss_cons (ps_if (pt_cmpR op_ge (pv 3) (pe_op op_pow pe_int pe_int) (nomark _)) 
    (pss_cons (ps_asg (pe_op op_fdiv (pv 3) (pv 1)) (pg_sub (pe_ix ix_list (pv 0) pe_int (fun _ _ => rfl)) (pv 2) set_list)) 
    (pss_one (ps_ret (pe_op op_mod (pv 3) (pv 1))))) pss_nil) 
  (pss_cons (ps_asg (pe_op op_mod (pe_op op_add (pe_op op_add (pe_op op_mul (pe_ix ix_list (pv 0) pe_int (fun _ _ => rfl)) pe_int) (pe_op op_mul (pv 3) pe_int)) pe_int) pe_int) (pg_sub (pv 0) pe_int set_list)) 
  (pss_cons (ps_asg (pe_op op_add (pe_ix ix_list (pv 0) pe_int (fun _ _ => rfl)) pe_int) (pg_sub (pv 0) pe_int set_list)) 
  (pss_one (ps_ret (pe_op op_mod (pe_op op_fdiv (pe_ix ix_list (pv 0) pe_int (fun _ _ => rfl)) pe_int) (pv 1))))))))), ?_⟩
    walk_at "vc"
    refine ⟨by decide, fun p hp => ?_⟩
    have kp : Kp a b H (upd H p (.lst [])) := Kp.new hp
    have ha1 : upd H p (.lst []) a = some (HO.lst [V.int s0, V.ref b, V.int i0]) := by rw [upd_ne (ne_of_none ha hp)]; exact ha
    have hb1 : upd H p (.lst []) b = some (HO.lst (List.map V.int cs)) := by rw [upd_ne (ne_of_none hb hp)]; exact hb
    have hp1 : upd H p (.lst []) p = some (HO.lst []) := upd_same
    generalize upd H p (.lst []) = H1 at kp ha1 hb1 hp1
    refine ⟨.list (cs.map PyData.int), .list [], .lst (SqL.of hb1) (dp_ints cs), .lst (SqL.of hp1) .nil, shaped_ints cs, by decide +kernel, ?_⟩
    have hat : ∃ at_ : Int, (i0 % if ((cs.map V.int).length : Int) > 1 then ((cs.map V.int).length : Int) else 1) = at_ ∧ 0 ≤ at_ ∧ (cs ≠ [] → at_ < (cs.length : Int)) := by
      refine ⟨_, rfl, Int.emod_nonneg _ (by split <;> omega), fun hne => ?_⟩
      have hl : 0 < cs.length := List.length_pos_iff.mpr hne
      rw [List.length_map]
      by_cases h1 : (cs.length : Int) > 1
      · rw [if_pos h1]
        exact Int.emod_lt_of_pos _ (by omega)
      · rw [if_neg h1]
        have := Int.emod_lt_of_pos i0 (show (0 : Int) < 1 by omega)
        omega
    obtain ⟨at_, eat, hat0, hat1⟩ := hat
    rw [eat]
    rw [eqv_ints_nil]
    walk_at "vc"
    by_cases hne : cs = []
    · subst hne
      refine iteF ?_
      walk_at "vc"
      refine ite2 (fun e => absurd (of_decide_eq_true e) (by decide)) (fun e => ?_)
      walk_at "vc"
      refine q _ _ (Int.emod_nonneg _ (by omega)) (Int.emod_lt_of_pos _ hm) ⟨nab, _, _, [], upd_same, ?_, by decide⟩ (kp.trans (Kp.at_a.trans Kp.at_a))
      walk_at "hp"
    · have hb0 : (!cs.isEmpty) = true := by
        cases cs with
        | nil => exact absurd rfl hne
        | cons _ _ => rfl
      rw [hb0]
      refine iteT ?_
      have hl : at_.toNat < cs.length := by have := hat1 hne; omega
      have hix : atI (cs.map V.int) at_ = some (.int cs[at_.toNat]) := atI_of hat0 (ints_at hl)
      have hix2 : ixN (cs.map V.int).length at_ = some at_.toNat := ixN_of hat0 (by rw [List.length_map]; exact hat1 hne)
      walk_at "vc"
      refine ite2 (fun e => ?_) (fun e => ?_)
      · walk_at "vc"
        refine q _ _ (Int.emod_nonneg _ (by omega)) (Int.emod_lt_of_pos _ hm) ⟨nab, s0, i0, cs.set at_.toNat (cs[at_.toNat] / m), ?_, ?_, by rw [List.length_set]; exact hcs⟩ (kp.trans Kp.at_b)
        · walk_at "hp"
        · rw [← map_set_int]
          exact upd_same
      · walk_at "vc"
        refine q _ _ (Int.emod_nonneg _ (by omega)) (Int.emod_lt_of_pos _ hm) ⟨nab, _, _, cs, upd_same, ?_, hcs⟩ (kp.trans (Kp.at_a.trans Kp.at_a))
        walk_at "hp"


theorem ok_law_letters {f : Addr} {fd : FuncData} {f_law_next : Addr} {fd_law_next : FuncData} (F : Fun K "_law_letters" "_law_letters" s_law_letters f fd) (B : Bl mg) (D_law_next : Dn P w K mg base "_law_next" 1 ["_law_h", "_law_many"] (sp_law_next K) f_law_next fd_law_next) : FnOk P w K mg base CX0 2 f fd ["_law_h"] (sp_law_letters K) := by
  refine F.ok sc_law_letters (fun vs H Q E h => ?_) (fun cdv A outer s H vs Q E hr h => ?_)
  · first
      | (obtain ⟨_, rfl, _⟩ := h; rfl)
      | (obtain ⟨_, _, rfl, _⟩ := h; rfl)
      | (obtain ⟨_, _, _, rfl, _⟩ := h; rfl)
      | (obtain ⟨_, _, _, _, rfl, _⟩ := h; rfl)
      | (obtain ⟨_, _, _, _, _, rfl, _⟩ := h; rfl)
      | (obtain ⟨_, _, _, _, _, _, rfl, _⟩ := h; rfl)
      | (obtain ⟨_, _, _, _, _, _, _, rfl, _⟩ := h; rfl)
      | (obtain ⟨_, _, _, _, _, _, _, _, rfl, _⟩ := h; rfl)
      | (obtain ⟨_, _, _, _, _, _, _, _, _, rfl, _⟩ := h; rfl)
      | (obtain ⟨_, _, _, _, _, _, _, _, _, _, rfl, _⟩ := h; rfl)
      | (obtain ⟨_, _, _, _, _, _, _, _, _, _, _, rfl, _⟩ := h; rfl)
  · obtain ⟨a, b, rfl, hs, q⟩ := h
    refine ⟨_, 
  (pss_cons (ps_set (i := 1) sc_law_letters.nd rfl (.inr rfl) (pe_call D_law_next.ok hr (by rfl) D_law_next.g D_law_next.kp D_law_next.b .nil pass0 (pa_cons (pv 0) (pa_cons pe_int pa_nil)))) 
  (pss_one (ps_ret (pe_join pe_str (pe_lc (own := [("_law_k", 2)]) (g := gName 2) (tt := tYes) rfl sc_law_letters.nd (pi_range1 rfl B.m_range (pa_cons (pe_op op_add pe_int (pe_call D_law_next.ok hr (by rfl) D_law_next.g D_law_next.kp D_law_next.b .nil pass0 (pa_cons (pv 0) (pa_cons pe_int pa_nil)))) pa_nil)) (blkOk_by (N := n_law_letters) (sc := defScope s_law_letters) (by decide +kernel)) (fun _ _ _ _ _ => (pg_name (i := 2) sc_law_letters.nd rfl (.inl rfl))) (fun _ _ _ _ _ => pts_nil) (fun _ _ _ _ _ => (pe_ix ix_str pe_str (pe_op op_mod (pe_op op_add (pv 1) (pe_op op_mul pe_int (pv 2))) pe_int) (fun _ _ => rfl)))))))), ?_⟩
    walk_at "vc"
    refine ⟨a, b, 26, rfl, hs, by omega, by omega, fun r H1 r0 r1 hs1 k1 => ?_⟩
    walk_at "vc"
    refine ⟨a, b, 5, rfl, hs1, by omega, by omega, fun r' H2 r2 r3 hs2 k2 => ?_⟩
    walk_at "vc"
    intro D hD
    have hf : ∀ i, i < (2 + r').toNat → atI (("abcdefghijklmnopqrstuvwxyz" : Str).cps.toList) ((r + 7 * (0 + (i : Int))) % 26) = some (97 + (r.toNat + 7 * i) % 26) := fun i hi => by
      have e : (r + 7 * (0 + (i : Int))) % 26 = (((r.toNat + 7 * i) % 26 : Nat) : Int) := by omega
      rw [e]
      refine atI_nat ?_
      have h : (r.toNat + 7 * i) % 26 < 26 := Nat.mod_lt _ (by decide)
      generalize (r.toNat + 7 * i) % 26 = j at h
      have e2 : ("abcdefghijklmnopqrstuvwxyz" : Str).cps.toList = (List.range 26).map (97 + ·) := by decide +kernel
      rw [e2, List.getElem?_map, List.getElem?_range h]
      rfl
    refine lc_range (fun i H' => Same H2 H' ∧ H' D = some (.lst ((List.range i).map fun k => V.str (sg (97 + (r.toNat + 7 * k) % 26))))) ⟨same_upd hD, upd_same⟩ (fun i H' hi h => ?_) (fun H' h => ?_)
    · walk_at "vc"
      refine ⟨rfl, ?_⟩
      walk_at "vc"
      refine x_ixS (by decide +kernel) (hf i hi) ?_
      exact pv_step hD h.1 h.2 (by omega) rfl
    · refine join_end (cs := letL r.toNat (2 + r').toNat) ?_ (by rw [letL_len]; omega) ?_
      · rw [h.2]
        unfold letL
        rw [List.map_map]
        rfl
      · refine q r.toNat (2 + r').toNat H' (by omega) (by omega) (by omega) ?_ (k1.trans (k2.trans (Kp.of h.1)))
        obtain ⟨n, s, i, cs, h1, h2, h3⟩ := hs2
        exact ⟨n, s, i, cs, h.1 _ _ h1, h.1 _ _ h2, h3⟩


theorem ok_law_row {f : Addr} {fd : FuncData} {f_law_next : Addr} {fd_law_next : FuncData} (F : Fun K "_law_row" "_law_row" s_law_row f fd) (B : Bl mg) (D_law_next : Dn P w K mg base "_law_next" 1 ["_law_h", "_law_many"] (sp_law_next K) f_law_next fd_law_next) : FnOk P w K mg base CX0 2 f fd ["_law_h", "_law_letters_here", "_law_most"] (sp_law_row K) := by
  refine F.ok sc_law_row (fun vs H Q E h => ?_) (fun cdv A outer s H vs Q E hr h => ?_)
  · first
      | (obtain ⟨_, rfl, _⟩ := h; rfl)
      | (obtain ⟨_, _, rfl, _⟩ := h; rfl)
      | (obtain ⟨_, _, _, rfl, _⟩ := h; rfl)
      | (obtain ⟨_, _, _, _, rfl, _⟩ := h; rfl)
      | (obtain ⟨_, _, _, _, _, rfl, _⟩ := h; rfl)
      | (obtain ⟨_, _, _, _, _, _, rfl, _⟩ := h; rfl)
      | (obtain ⟨_, _, _, _, _, _, _, rfl, _⟩ := h; rfl)
      | (obtain ⟨_, _, _, _, _, _, _, _, rfl, _⟩ := h; rfl)
      | (obtain ⟨_, _, _, _, _, _, _, _, _, rfl, _⟩ := h; rfl)
      | (obtain ⟨_, _, _, _, _, _, _, _, _, _, rfl, _⟩ := h; rfl)
      | (obtain ⟨_, _, _, _, _, _, _, _, _, _, _, rfl, _⟩ := h; rfl)
  · obtain ⟨a, b, l, m, rfl, hs, hl0, hl1, hm0, hm1, q⟩ := h
    have el : (S l).length = l.length := len_S l
    have hl : (S l).length ≤ sizeLine := hp_sz (by omega)
    refine ⟨_, 
  (pss_one (ps_ret (pe_join pe_str (pe_lc (own := [("_law_k", 3)]) (g := gName 3) (tt := tYes) rfl sc_law_row.nd (pi_range1 rfl B.m_range (pa_cons (pe_call D_law_next.ok hr (by rfl) D_law_next.g D_law_next.kp D_law_next.b .nil pass0 (pa_cons (pv 0) (pa_cons (pe_op op_add (pv 2) pe_int) pa_nil))) pa_nil)) (blkOk_by (N := n_law_row) (sc := defScope s_law_row) (by decide +kernel)) (fun _ _ _ _ _ => (pg_name (i := 3) sc_law_row.nd rfl (.inl rfl))) (fun _ _ _ _ _ => pts_nil) (fun _ _ _ _ _ => (pe_ix ix_str (pv 1) (pe_call D_law_next.ok hr (by rfl) D_law_next.g D_law_next.kp D_law_next.b .nil pass0 (pa_cons (pv 0) (pa_cons (pe_callB call_len_str (by rfl) B.m_len PySem.boot_len (pa_cons (pv 1) pa_nil)) pa_nil))) (fun _ _ => rfl))))))), ?_⟩
    walk_at "vc"
    refine ⟨a, b, m + 1, rfl, hs, by omega, by omega, fun r H1 r0 r1 hs1 k1 => ?_⟩
    walk_at "vc"
    intro D hD
    refine lc_range (fun i H' => Dr a b H1 D (fun c => c ∈ l) i H') (Dr.start hs1 hD) (fun i H' hi h => ?_) (fun H' h => ?_)
    · walk_at "vc"
      refine ⟨rfl, ?_⟩
      walk_at "vc"
      have hsd : Src H' a b := by obtain ⟨_, _, _, x, _⟩ := h; exact x
      refine ⟨a, b, ((S l).length : Nat), rfl, hsd, by omega, by omega, fun r' H2 r2 r3 hs2 k2 => ?_⟩
      have hr' : r'.toNat < l.length := by omega
      refine x_ixS hl (atI_of r2 (List.getElem?_eq_getElem hr')) ?_
      exact h.step hD hs1 (by omega) hs2 k2 (List.getElem_mem hr')
    · obtain ⟨cs, hcl, hok, hsd, kd, hDd⟩ := h
      refine join_end (cs := cs) hDd (by omega) ?_
      exact q cs H' (by omega) hok hsd (k1.trans kd)


theorem ok_law_near {f : Addr} {fd : FuncData} {f_law_row : Addr} {fd_law_row : FuncData} {f_law_next : Addr} {fd_law_next : FuncData} (F : Fun K "_law_near" "_law_near" s_law_near f fd) (B : Bl mg) (D_law_row : Dn P w K mg base "_law_row" 2 ["_law_h", "_law_letters_here", "_law_most"] (sp_law_row K) f_law_row fd_law_row) (D_law_next : Dn P w K mg base "_law_next" 1 ["_law_h", "_law_many"] (sp_law_next K) f_law_next fd_law_next) : FnOk P w K mg base CX0 3 f fd ["_law_h", "_law_row_here", "_law_letters_here"] (sp_law_near K) := by
  refine F.ok sc_law_near (fun vs H Q E h => ?_) (fun cdv A outer s H vs Q E hr h => ?_)
  · first
      | (obtain ⟨_, rfl, _⟩ := h; rfl)
      | (obtain ⟨_, _, rfl, _⟩ := h; rfl)
      | (obtain ⟨_, _, _, rfl, _⟩ := h; rfl)
      | (obtain ⟨_, _, _, _, rfl, _⟩ := h; rfl)
      | (obtain ⟨_, _, _, _, _, rfl, _⟩ := h; rfl)
      | (obtain ⟨_, _, _, _, _, _, rfl, _⟩ := h; rfl)
      | (obtain ⟨_, _, _, _, _, _, _, rfl, _⟩ := h; rfl)
      | (obtain ⟨_, _, _, _, _, _, _, _, rfl, _⟩ := h; rfl)
      | (obtain ⟨_, _, _, _, _, _, _, _, _, rfl, _⟩ := h; rfl)
      | (obtain ⟨_, _, _, _, _, _, _, _, _, _, rfl, _⟩ := h; rfl)
      | (obtain ⟨_, _, _, _, _, _, _, _, _, _, _, rfl, _⟩ := h; rfl)
  · obtain ⟨a, b, r, l, rfl, hs, hl0, hl1, hr1, hrl, q⟩ := h
    have el : (S l).length = l.length := len_S l
    have er : (S r).length = r.length := len_S r
    have hl : (S l).length ≤ sizeLine := hp_sz (by omega)
    refine ⟨_, 
  (pss_cons (ps_set (i := 3) sc_law_near.nd rfl (.inl rfl) (pe_call D_law_row.ok hr (by rfl) D_law_row.g D_law_row.kp D_law_row.b .nil pass0 (pa_cons (pv 0) (pa_cons (pv 2) (pa_cons pe_int pa_nil))))) 
  (pss_cons (ps_set (i := 4) sc_law_near.nd rfl (.inl rfl) (pe_op op_add pe_int (pe_call D_law_next.ok (hr.mono (by decide)) (by rfl) D_law_next.g D_law_next.kp D_law_next.b .nil pass0 (pa_cons (pv 0) (pa_cons pe_int pa_nil))))) 
  (pss_cons (ps_for PassesOwn.never rfl (pi_str (pv 1)) (pg_name (i := 5) sc_law_near.nd rfl (.inl rfl)) 
    (pss_cons (ps_set (i := 6) sc_law_near.nd rfl (.inl rfl) (pe_call D_law_next.ok (hr.mono (by decide)) (by rfl) D_law_next.g D_law_next.kp D_law_next.b .nil pass0 (pa_cons (pv 0) (pa_cons (pv 4) pa_nil)))) 
    (pss_one (ps_if (pt_cmpR op_gt (pv 6) pe_int (nomark _)) 
      (pss_one (ps_set (i := 3) sc_law_near.nd rfl (.inl rfl) (pe_op op_add_str (pv 3) (pv 5)))) 
      (pss_one (ps_if (pt_cmpR op_gt (pe_call D_law_next.ok (hr.mono (by decide)) (by rfl) D_law_next.g D_law_next.kp D_law_next.b .nil pass0 (pa_cons (pv 0) (pa_cons pe_int pa_nil))) pe_int (nomark _)) 
        (pss_one (ps_set (i := 3) sc_law_near.nd rfl (.inl rfl) (pe_op op_add_str (pv 3) (pe_ix ix_str (pv 2) (pe_call D_law_next.ok (hr.mono (by decide)) (by rfl) D_law_next.g D_law_next.kp D_law_next.b .nil pass0 (pa_cons (pv 0) (pa_cons (pe_callB call_len_str (by rfl) B.m_len PySem.boot_len (pa_cons (pv 2) pa_nil)) pa_nil))) (fun _ _ => rfl))))) pss_nil)))))) 
  (pss_one (ps_ret (pe_slice sl_str (pe_op op_add_str (pv 3) (pe_call D_law_row.ok hr (by rfl) D_law_row.g D_law_row.kp D_law_row.b .nil pass0 (pa_cons (pv 0) (pa_cons (pv 2) (pa_cons pe_int pa_nil))))) po_none (po_some pe_int))))))), ?_⟩
    walk_at "vc"
    refine ⟨a, b, l, 6, rfl, hs, hl0, hl1, by omega, by omega, fun f H1 hf1 hf2 hs1 k1 => ?_⟩
    walk_at "vc"
    refine ⟨a, b, 12, rfl, hs1, by omega, by omega, fun kk H2 kk0 kk1 hs2 k2 => ?_⟩
    walk_at "vc"
    refine for_it (walk_str (z := S r)) (fun i σ H' => ∃ (z : List Nat) (y5 y6 : Option V), σ = [some (.ref a), some (.str (S r)), some (.str (S l)), some (.str (S z)), some (.int (2 + kk)), y5, y6] ∧ z.length ≤ 6 + i ∧ (∀ c ∈ z, c ∈ l) ∧ Src H' a b ∧ Kp a b H H')
      ⟨f, none, none, rfl, by omega, hf2, hs2, k1.trans k2⟩ (fun _ _ _ _ _ => trivial) ?_ ?_
    · rintro i x σ H3 H4 hi ⟨z, y5, y6, rfl, hz1, hz2, hs3, k3⟩ ⟨rfl, c, hc, rfl⟩
      have hi' : i < r.length := hi
      have hcl : c ∈ l := by
        refine hrl c ?_
        have : r[i]? = some c := by simpa [S] using hc
        exact List.mem_of_getElem? this
      have ez : (S z).length = z.length := len_S z
      have fin : ∀ (z' : List Nat) (y5 y6 : Option V) (H5 : Hp), z'.length ≤ 6 + (i + 1) → (∀ c ∈ z', c ∈ l) → Src H5 a b → Kp a b H4 H5 → ∃ (z : List Nat) (y5' y6' : Option V), [some (V.ref a), some (.str (S r)), some (.str (S l)), some (.str (S z')), some (.int (2 + kk)), y5, y6] = [some (.ref a), some (.str (S r)), some (.str (S l)), some (.str (S z)), some (.int (2 + kk)), y5', y6'] ∧ z.length ≤ 6 + (i + 1) ∧ (∀ c ∈ z, c ∈ l) ∧ Src H5 a b ∧ Kp a b H H5 :=
        fun z' y5 y6 H5 h1 h2 h3 h4 => ⟨z', y5, y6, rfl, h1, h2, h3, k3.trans h4⟩
      have hadd : ∀ d : Nat, d ∈ l → (z ++ [d]).length ≤ 6 + (i + 1) ∧ ∀ c ∈ z ++ [d], c ∈ l := fun d hd => by
        refine ⟨by rw [List.length_append]; show z.length + 1 ≤ _; omega, fun c hc => ?_⟩
        rcases List.mem_append.mp hc with h | h
        · exact hz2 c h
        · rw [List.mem_singleton.mp h]
          exact hd
      walk_at "vc"
      refine ⟨a, b, 2 + kk, rfl, hs3, by omega, by omega, fun w1 H5 w10 w11 hs5 k5 => ?_⟩
      walk_at "vc"
      refine ite2 (fun e => ?_) (fun e => ?_)
      · walk_at "vc"
        refine ⟨S z, sg c, rfl, rfl, hp_sz (by show (S z).length + 1 ≤ _; omega), ?_⟩
        rw [sg_S, S_app]
        exact fin (z ++ [c]) _ _ H5 (hadd c hcl).1 (hadd c hcl).2 hs5 k5
      · walk_at "vc"
        refine ⟨a, b, 3, rfl, hs5, by omega, by omega, fun w2 H6 w20 w21 hs6 k6 => ?_⟩
        walk_at "vc"
        refine ite2 (fun e => ?_) (fun e => ?_)
        · walk_at "vc"
          refine ⟨a, b, ((S l).length : Nat), rfl, hs6, by omega, by omega, fun w3 H7 w30 w31 hs7 k7 => ?_⟩
          have hw : w3.toNat < l.length := by omega
          refine x_ixS hl (atI_of w30 (List.getElem?_eq_getElem hw)) ?_
          refine ⟨S z, sg l[w3.toNat], rfl, rfl, hp_sz (by show (S z).length + 1 ≤ _; omega), ?_⟩
          walk_at "vc"
          rw [sg_S, S_app]
          exact fin (z ++ [l[w3.toNat]]) _ _ H7 (hadd _ (List.getElem_mem hw)).1 (hadd _ (List.getElem_mem hw)).2 hs7 (k5.trans (k6.trans k7))
        · walk_at "vc"
          exact fin z _ _ H6 (by omega) hz2 hs6 (k5.trans k6)
    · rintro σ H3 ⟨z, y5, y6, rfl, hz1, hz2, hs3, k3⟩
      have hz1' : z.length ≤ 6 + r.length := hz1
      walk_at "vc"
      refine ⟨a, b, l, 6, rfl, hs3, hl0, hl1, by omega, by omega, fun f2 H4 hg1 hg2 hs4 k4 => ?_⟩
      refine ⟨S z, S f2, rfl, rfl, hp_sz (by rw [len_S, len_S]; omega), ?_⟩
      rw [S_app]
      walk_at "vc"
      refine x_slS (hp_sz (by rw [len_S, List.length_append]; omega)) ?_
      have hall : ∀ c ∈ z ++ f2, c ∈ l := fun c hc => by
        rcases List.mem_append.mp hc with h | h
        · exact hz2 c h
        · exact hg2 c h
      have ecut : cutS (S (z ++ f2)) none (some 60) = S ((z ++ f2).take 60) := cutS_take (z ++ f2) 60
      rw [ecut]
      exact q _ H4 (by rw [List.length_take]; omega) (fun c hc => hall c (List.mem_of_mem_take hc)) hs4 (k3.trans k4)


theorem ok_law_scale {f : Addr} {fd : FuncData} {f_law_next : Addr} {fd_law_next : FuncData} (F : Fun K "_law_scale" "_law_scale" s_law_scale f fd) (B : Bl mg) (D_law_next : Dn P w K mg base "_law_next" 1 ["_law_h", "_law_many"] (sp_law_next K) f_law_next fd_law_next) : FnOk P w K mg base CX0 2 f fd ["_law_h"] (sp_law_scale K) := by
  refine F.ok sc_law_scale (fun vs H Q E h => ?_) (fun cdv A outer s H vs Q E hr h => ?_)
  · first
      | (obtain ⟨_, rfl, _⟩ := h; rfl)
      | (obtain ⟨_, _, rfl, _⟩ := h; rfl)
      | (obtain ⟨_, _, _, rfl, _⟩ := h; rfl)
      | (obtain ⟨_, _, _, _, rfl, _⟩ := h; rfl)
      | (obtain ⟨_, _, _, _, _, rfl, _⟩ := h; rfl)
      | (obtain ⟨_, _, _, _, _, _, rfl, _⟩ := h; rfl)
      | (obtain ⟨_, _, _, _, _, _, _, rfl, _⟩ := h; rfl)
      | (obtain ⟨_, _, _, _, _, _, _, _, rfl, _⟩ := h; rfl)
      | (obtain ⟨_, _, _, _, _, _, _, _, _, rfl, _⟩ := h; rfl)
      | (obtain ⟨_, _, _, _, _, _, _, _, _, _, rfl, _⟩ := h; rfl)
      | (obtain ⟨_, _, _, _, _, _, _, _, _, _, _, rfl, _⟩ := h; rfl)
  · obtain ⟨a, b, rfl, hs, q⟩ := h
    refine ⟨_, 
  (pss_one (ps_ret (pe_tup (pa_cons (pe_op op_add pe_int (pe_call D_law_next.ok hr (by rfl) D_law_next.g D_law_next.kp D_law_next.b .nil pass0 (pa_cons (pv 0) (pa_cons (pe_ix ix_list (pe_lst (pa_cons pe_int (pa_cons pe_int pa_nil))) (pe_call D_law_next.ok hr (by rfl) D_law_next.g D_law_next.kp D_law_next.b .nil pass0 (pa_cons (pv 0) (pa_cons pe_int pa_nil))) (fun _ _ => rfl)) pa_nil)))) (pa_cons (pe_op op_add pe_int (pe_call D_law_next.ok hr (by rfl) D_law_next.g D_law_next.kp D_law_next.b .nil pass0 (pa_cons (pv 0) (pa_cons pe_int pa_nil)))) pa_nil))))), ?_⟩
    walk_at "vc"
    refine ⟨by decide, fun p hp => ?_⟩
    walk_at "vc"
    refine ⟨a, b, 2, rfl, hs.new hp, by omega, by omega, fun r H1 r0 r1 hs1 k1 => ?_⟩
    have hp1 : H1 p = some (.lst [.int 9, .int 3]) := k1 p _ (hs.ne_a hp) (hs.ne_b hp) upd_same
    have key : ∃ m : Int, atI [V.int 9, V.int 3] r = some (.int m) ∧ 0 < m ∧ m ≤ 9 := by
      have : r = 0 ∨ r = 1 := by omega
      rcases this with rfl | rfl
      · exact ⟨9, rfl, by omega, by omega⟩
      · exact ⟨3, rfl, by omega, by omega⟩
    obtain ⟨m, em, m0, m1⟩ := key
    walk_at "vc"
    refine ⟨a, b, m, rfl, hs1, by omega, by omega, fun r' H2 r2 r3 hs2 k2 => ?_⟩
    walk_at "vc"
    refine ⟨a, b, 9, rfl, hs2, by omega, by omega, fun r'' H3 r4 r5 hs3 k3 => ?_⟩
    walk_at "vc"
    refine ⟨show 2 ≤ sizeLine by decide, fun t ht => ?_⟩
    exact q _ _ t _ (by omega) (by omega) (by omega) (by omega) upd_same (hs3.ne_a ht) (hs3.ne_b ht) (hs3.new ht) ((Kp.new hp).trans (k1.trans (k2.trans (k3.trans (Kp.new ht)))))


theorem ok_law_worth {f : Addr} {fd : FuncData} (F : Fun K "_law_worth" "_law_worth" s_law_worth f fd) (B : Bl mg) : FnOk P w K mg base CX0 1 f fd ["_law_likes", "_law_scale_here"] (sp_law_worth K) := by
  refine F.ok sc_law_worth (fun vs H Q E h => ?_) (fun cdv A outer s H vs Q E hr h => ?_)
  · first
      | (obtain ⟨_, rfl, _⟩ := h; rfl)
      | (obtain ⟨_, _, rfl, _⟩ := h; rfl)
      | (obtain ⟨_, _, _, rfl, _⟩ := h; rfl)
      | (obtain ⟨_, _, _, _, rfl, _⟩ := h; rfl)
      | (obtain ⟨_, _, _, _, _, rfl, _⟩ := h; rfl)
      | (obtain ⟨_, _, _, _, _, _, rfl, _⟩ := h; rfl)
      | (obtain ⟨_, _, _, _, _, _, _, rfl, _⟩ := h; rfl)
      | (obtain ⟨_, _, _, _, _, _, _, _, rfl, _⟩ := h; rfl)
      | (obtain ⟨_, _, _, _, _, _, _, _, _, rfl, _⟩ := h; rfl)
      | (obtain ⟨_, _, _, _, _, _, _, _, _, _, rfl, _⟩ := h; rfl)
      | (obtain ⟨_, _, _, _, _, _, _, _, _, _, _, rfl, _⟩ := h; rfl)
  · obtain ⟨z, p, g, l, rfl, hT, q⟩ := h
    refine ⟨_, 
  (pss_cons (ps_set (i := 2) sc_law_worth.nd rfl (.inl rfl) pe_int) 
  (pss_cons (ps_for PassesOwn.never rfl (pi_str (pv 0)) (pg_name (i := 3) sc_law_worth.nd rfl (.inl rfl)) 
    (pss_one (ps_set (i := 2) sc_law_worth.nd rfl (.inl rfl) (pe_ifExp (pt_cmpR op_eq (pv 3) pe_str (nomark _)) (pe_op op_add (pv 2) (pe_ix ix_tup (pv 1) pe_int (fun _ _ => rfl))) (pe_op op_sub (pv 2) (pe_ix ix_tup (pv 1) pe_int (fun _ _ => rfl))))))) 
  (pss_one (ps_ret (pv 2))))), ?_⟩
    walk_at "vc"
    refine for_it (walk_str (z := S z)) (fun i σ H' => (∃ y3, σ = [some (.str (S z)), some (.ref p), some (.int (wor g l (z.take i))), y3]) ∧ H' = H) ⟨⟨_, rfl⟩, rfl⟩ (fun _ _ _ _ _ => trivial) ?_ ?_
    · rintro i x σ H1 H2 hi ⟨⟨y3, rfl⟩, rfl⟩ ⟨rfl, c, hc, rfl⟩
      have hi' : i < z.length := hi
      have ec : z[i] = c := by
        have : z[i]? = some c := by simpa [S] using hc
        rw [List.getElem?_eq_getElem hi'] at this
        exact Option.some.inj this
      walk_at "vc"
      have es : decide (V.str (sg c) = V.str (Str.ofString "=")) = decide (c = 61) := by
        by_cases h : c = 61
        · subst h
          rfl
        · rw [decide_eq_false h]
          refine decide_eq_false fun q => h ?_
          have : S [c] = S [61] := V.str.inj q
          have := S_inj this
          exact (List.cons.inj this).1
      refine ite2 (fun e => ?_) (fun e => ?_)
      · walk_at "vc"
        refine ⟨⟨some (.str (sg c)), ?_⟩, rfl⟩
        rw [wor_take g l hi', ec, if_pos (of_decide_eq_true (es ▸ e))]
        rfl
      · walk_at "vc"
        refine ⟨⟨some (.str (sg c)), ?_⟩, rfl⟩
        rw [wor_take g l hi', ec, if_neg (fun h => e (es.trans (decide_eq_true h)))]
        rfl
    · rintro σ H1 ⟨⟨y3, rfl⟩, rfl⟩
      walk_at "vc"
      have e : z.take (S z).cps.size = z := List.take_of_length_le (by show z.length ≤ (S z).length; rw [len_S]; exact Nat.le_refl _)
      rw [e]
      exact q


theorem ok_law_stands {f : Addr} {fd : FuncData} (F : Fun K "_law_stands" "_law_stands" s_law_stands f fd) (B : Bl mg) : FnOk P w K mg base CX0 1 f fd ["_law_likes", "_law_scale_here"] (sp_law_stands K) := by
  refine F.ok sc_law_stands (fun vs H Q E h => ?_) (fun cdv A outer s H vs Q E hr h => ?_)
  · first
      | (obtain ⟨_, rfl, _⟩ := h; rfl)
      | (obtain ⟨_, _, rfl, _⟩ := h; rfl)
      | (obtain ⟨_, _, _, rfl, _⟩ := h; rfl)
      | (obtain ⟨_, _, _, _, rfl, _⟩ := h; rfl)
      | (obtain ⟨_, _, _, _, _, rfl, _⟩ := h; rfl)
      | (obtain ⟨_, _, _, _, _, _, rfl, _⟩ := h; rfl)
      | (obtain ⟨_, _, _, _, _, _, _, rfl, _⟩ := h; rfl)
      | (obtain ⟨_, _, _, _, _, _, _, _, rfl, _⟩ := h; rfl)
      | (obtain ⟨_, _, _, _, _, _, _, _, _, rfl, _⟩ := h; rfl)
      | (obtain ⟨_, _, _, _, _, _, _, _, _, _, rfl, _⟩ := h; rfl)
      | (obtain ⟨_, _, _, _, _, _, _, _, _, _, _, rfl, _⟩ := h; rfl)
  · obtain ⟨z, ps, g, l, rfl, hS, hg1, hl1, hz, q⟩ := h
    have hzl : (S z).length ≤ sizeLine := hp_sz (by rw [len_S]; omega)
    have ezl : ((S z).length : Int) = (z.length : Int) := by rw [len_S]
    refine ⟨_, 
  (pss_cons (ps_set (i := 2) sc_law_stands.nd rfl (.inl rfl) (pe_lst pa_nil)) 
  (pss_cons (ps_for PassesOwn.never rfl (pi_range1 rfl B.m_range (pa_cons (pe_callB call_len_str (by rfl) B.m_len PySem.boot_len (pa_cons (pv 0) pa_nil)) pa_nil)) (pg_name (i := 3) sc_law_stands.nd rfl (.inl rfl)) 
    (pss_cons (ps_set (i := 4) sc_law_stands.nd rfl (.inl rfl) pe_int) 
    (pss_cons (ps_set (i := 5) sc_law_stands.nd rfl (.inl rfl) pe_int) 
    (pss_one (ps_for PassesOwn.never rfl (pi_range2 rfl B.m_range (pa_cons (pe_op op_add (pv 3) pe_int) (pa_cons (pe_op op_add (pe_callB call_len_str (by rfl) B.m_len PySem.boot_len (pa_cons (pv 0) pa_nil)) pe_int) pa_nil))) (pg_name (i := 6) sc_law_stands.nd rfl (.inl rfl)) 
      (pss_cons (ps_set (i := 5) sc_law_stands.nd rfl (.inl rfl) (pe_ifExp (pt_cmpR op_eq (pe_ix ix_str (pv 0) (pe_op op_sub (pv 6) pe_int) (fun _ _ => rfl)) pe_str (nomark _)) (pe_op op_add (pv 5) (pe_ix ix_tup (pv 1) pe_int (fun _ _ => rfl))) (pe_op op_sub (pv 5) (pe_ix ix_tup (pv 1) pe_int (fun _ _ => rfl))))) 
      (pss_cons (ps_if (pt_cmpR op_le (pv 5) pe_int (nomark _)) 
        (pss_one (ps_break)) pss_nil) 
      (pss_one (ps_if (pt_cmpR op_gt (pv 5) (pv 4) (nomark _)) 
        (pss_cons (ps_expr (pe_bm PySem.F.plainAttrs_list PySem.F.slot_list_append PySem.F.type_list_append mt_append (pv 2) (pa_cons (pe_tup (pa_cons (pv 3) (pa_cons (pv 6) pa_nil))) pa_nil))) 
        (pss_one (ps_set (i := 4) sc_law_stands.nd rfl (.inl rfl) (pv 5)))) pss_nil))))))))) 
  (pss_one (ps_ret (pv 2))))), ?_⟩
    walk_at "vc"
    refine ⟨by decide, fun sp hsp => ?_⟩
    have sm5 : Same H (upd H sp (.lst [])) := same_upd hsp
    have hsp5 : upd H sp (.lst []) sp = some (.lst []) := upd_same
    generalize upd H sp (.lst []) = H5 at sm5 hsp5
    walk_at "vc"
    have en1 : (((S z).length : Nat) : Int).toNat = z.length := by rw [len_S]; rfl
    rw [en1]
    refine for_range (fun b σ H' => ∃ (as : List Addr) (M : List (Nat × Nat)) (y3 y4 y5 y6 : Option V), σ = [some (.str (S z)), some (.ref ps), some (.ref sp), y3, y4, y5, y6] ∧ Same H H' ∧ H' sp = some (.lst (as.map V.ref)) ∧ Tup pair2 H' as M ∧ SLI (lev g l z) z.length b (b + 1) M)
      ⟨[], [], _, _, _, _, rfl, sm5, hsp5, Tup.nil, SLI.zero _ _⟩ ?_ ?_
    · rintro b σ H6 hb ⟨as, M, y3, y4, y5, y6, rfl, sm6, hsp6, hT6, hM⟩
      walk_at "vc"
      have en2 : (((S z).length : Int) + 1 - (0 + (b : Int) + 1)).toNat = z.length - b := by omega
      rw [en2]
      have hb0 : ∀ x, b ≤ x → x ≤ b + 0 → lev g l z x - lev g l z b ≤ 0 := fun x h1 h2 => by
        have h3 : x = b := by omega
        subst h3
        omega
      refine for_range (fun j σ H' => ∃ (as : List Addr) (M : List (Nat × Nat)) (y6 : Option V) (lw : Int), σ = [some (.str (S z)), some (.ref ps), some (.ref sp), some (.int (0 + (b : Int))), some (.int lw), some (.int (lev g l z (b + j) - lev g l z b)), y6] ∧ Same H H' ∧ H' sp = some (.lst (as.map V.ref)) ∧ Tup pair2 H' as M ∧ SLI (lev g l z) z.length b (b + 1 + j) M ∧
          (∀ x, b < x → x ≤ b + j → lev g l z b < lev g l z x) ∧ (∀ x, b ≤ x → x ≤ b + j → lev g l z x - lev g l z b ≤ lw) ∧ ∃ x, b ≤ x ∧ x ≤ b + j ∧ lw = lev g l z x - lev g l z b)
        ⟨as, M, _, 0, by rw [Nat.add_zero, Int.sub_self]; rfl, sm6, hsp6, hT6, hM, fun x h1 h2 => by omega, hb0, b, Nat.le_refl _, Nat.le_refl _, by omega⟩ ?_ ?_
      · rintro j σ H7 hj ⟨as, M, y6, lw, rfl, sm7, hsp7, hT7, hM7, hlo, hhi, hex⟩
        have hbj : b + j < z.length := by omega
        have els := lev_succ g l hbj
        have e0 : (0 : Int) + (b : Int) + 1 + (j : Int) - 1 = ((b + j : Nat) : Int) := by omega
        have hS7 := SqT_same sm7 hS
        walk_at "vc0"
        refine x_cutE (fun v H' => v = .int (lev g l z (b + j + 1) - lev g l z b) ∧ H' = H7) (fun Q' hQ' => ?_) ?_
        · walk_at "vc"
          rw [e0]
          refine x_ixS hzl (c := z[b + j]) (atI_nat (List.getElem?_eq_getElem hbj)) ?_
          walk_at "vc"
          rw [show (⟨#[z[b + j]]⟩ : Str) = sg z[b + j] from rfl, eq_like]
          refine ite2 (fun e => ?_) (fun e => ?_)
          · walk_at "vc"
            refine hQ' _ _ ⟨?_, rfl⟩
            rw [els, if_pos (of_decide_eq_true e)]
            congr 1
            omega
          · walk_at "vc"
            refine hQ' _ _ ⟨?_, rfl⟩
            rw [els, if_neg (fun h => e (decide_eq_true h))]
            congr 1
            omega
        rintro _ _ ⟨rfl, rfl⟩
        walk_at "vc"
        refine ite2 (fun e => ?_) (fun e => ?_)
        · have e1 : lev g l z (b + j + 1) - lev g l z b ≤ 0 := of_decide_eq_true e
          walk_at "vc"
          have hno : ∀ x, b + 1 + j ≤ x → ¬ St (lev g l z) b x := fun x hx hs => by
            have := hs.2.1 (b + j + 1) (by omega) (by omega)
            omega
          exact ⟨as, M, _, _, _, _, rfl, sm7, hsp7, hT7, (hM7.skip hno (by omega : b + 1 + j ≤ z.length + 1)).row⟩
        · have e1 : lev g l z b < lev g l z (b + j + 1) := by
            have : ¬ (lev g l z (b + j + 1) - lev g l z b ≤ 0) := fun h => e (decide_eq_true h)
            omega
          have hlo' : ∀ x, b < x → x ≤ b + (j + 1) → lev g l z b < lev g l z x := fun x h1 h2 => by
            by_cases hz : x = b + j + 1
            · subst hz
              exact e1
            · exact hlo x h1 (by omega)
          walk_at "vc"
          refine ite2 (fun e2 => ?_) (fun e2 => ?_)
          · have e3 : lw < lev g l z (b + j + 1) - lev g l z b := of_decide_eq_true e2
            have hst : St (lev g l z) b (b + 1 + j) := by
              refine ⟨by omega, fun x h1 h2 => hlo' x h1 (by omega), fun x h1 h2 => ?_⟩
              have := hhi x h1 (by omega)
              rw [show b + 1 + j = b + j + 1 by omega]
              omega
            walk_at "vc"
            refine ⟨.inl ⟨rfl, _, SqL.of hsp7⟩, ?_⟩
            walk_at "vc"
            refine ⟨show 2 ≤ sizeLine by decide, fun t ht => ?_⟩
            walk_at "vc"
            have hlt : M.length < sizeLine := by
              have h0 := hM7.len
              have h1 : b * (z.length + 1) ≤ 1000 * 1001 := Nat.mul_le_mul (by omega) (by omega)
              exact Nat.lt_of_le_of_lt (by omega : M.length ≤ 2000000) (by decide)
            refine x_append (by rw [upd_ne (ne_of_none hsp7 ht)]; exact hsp7) (by rw [hT7.len]; exact hlt) ?_
            have e4 : (0 : Int) + (b : Int) = ((b : Nat) : Int) := by omega
            have e5 : (0 : Int) + (b : Int) + 1 + (j : Int) = ((b + 1 + j : Nat) : Int) := by omega
            rw [e5, e4]
            have hpush := tup_push (f := pair2) (p := (b, b + 1 + j)) hsp sm7 hsp7 hT7 ht
            walk_at "vc"
            refine ⟨as ++ [t], M ++ [(b, b + 1 + j)], _, lev g l z (b + j + 1) - lev g l z b, rfl, hpush.1, hpush.2.1, hpush.2.2, hM7.yes hst (by omega), hlo', fun x h1 h2 => ?_, b + j + 1, by omega, by omega, rfl⟩
            by_cases hz : x = b + j + 1
            · subst hz
              exact Int.le_refl _
            · have := hhi x h1 (by omega)
              omega
          · have e3 : ¬ lw < lev g l z (b + j + 1) - lev g l z b := fun h => e2 (decide_eq_true h)
            have hst : ¬ St (lev g l z) b (b + 1 + j) := fun hs => by
              obtain ⟨x, x1, x2, x3⟩ := hex
              have := hs.2.2 x x1 (by omega)
              rw [show b + 1 + j = b + j + 1 by omega] at this
              omega
            walk_at "vc"
            refine ⟨as, M, _, lw, rfl, sm7, hsp7, hT7, hM7.no hst, hlo', fun x h1 h2 => ?_, ?_⟩
            · by_cases hz : x = b + j + 1
              · subst hz
                omega
              · exact hhi x h1 (by omega)
            · obtain ⟨x, x1, x2, x3⟩ := hex
              exact ⟨x, x1, by omega, x3⟩
      · rintro σ H7 ⟨as, M, y6, lw, rfl, sm7, hsp7, hT7, hM7, _⟩
        have e3 : b + 1 + (z.length - b) = z.length + 1 := by omega
        rw [e3] at hM7
        exact ⟨as, M, _, _, _, _, rfl, sm7, hsp7, hT7, hM7.row⟩
    · rintro σ H6 ⟨as, M, y3, y4, y5, y6, rfl, sm6, hsp6, hT6, hM⟩
      walk_at "vc"
      exact q sp H6 as M hM sm6 hsp hsp6 hT6


theorem ok_law_ripe {f : Addr} {fd : FuncData} {f_law_stands : Addr} {fd_law_stands : FuncData} (F : Fun K "_law_ripe" "_law_ripe" s_law_ripe f fd) (B : Bl mg) (D_law_stands : Dn P w K mg base "_law_stands" 1 ["_law_likes", "_law_scale_here"] (sp_law_stands K) f_law_stands fd_law_stands) : FnOk P w K mg base CX0 2 f fd ["_law_likes", "_law_scale_here"] (sp_law_ripe K) := by
  refine F.ok sc_law_ripe (fun vs H Q E h => ?_) (fun cdv A outer s H vs Q E hr h => ?_)
  · first
      | (obtain ⟨_, rfl, _⟩ := h; rfl)
      | (obtain ⟨_, _, rfl, _⟩ := h; rfl)
      | (obtain ⟨_, _, _, rfl, _⟩ := h; rfl)
      | (obtain ⟨_, _, _, _, rfl, _⟩ := h; rfl)
      | (obtain ⟨_, _, _, _, _, rfl, _⟩ := h; rfl)
      | (obtain ⟨_, _, _, _, _, _, rfl, _⟩ := h; rfl)
      | (obtain ⟨_, _, _, _, _, _, _, rfl, _⟩ := h; rfl)
      | (obtain ⟨_, _, _, _, _, _, _, _, rfl, _⟩ := h; rfl)
      | (obtain ⟨_, _, _, _, _, _, _, _, _, rfl, _⟩ := h; rfl)
      | (obtain ⟨_, _, _, _, _, _, _, _, _, _, rfl, _⟩ := h; rfl)
      | (obtain ⟨_, _, _, _, _, _, _, _, _, _, _, rfl, _⟩ := h; rfl)
  · obtain ⟨z, ps, g, l, rfl, hS, hg1, hl1, hz, q⟩ := h
    refine ⟨_, 
  (pss_cons (ps_set (i := 2) sc_law_ripe.nd rfl (.inl rfl) (pe_lst pa_nil)) 
  (pss_cons (ps_set (i := 3) sc_law_ripe.nd rfl (.inl rfl) pe_int) 
  (pss_cons (ps_for PassesOwn.never rfl (pi_list (pe_callB (cr_sortD hr.units) (by rfl) B.m_sorted (by decide +kernel) (pa_cons (pe_lc (own := [("_law_begin", 4), ("_law_end", 6)]) (g := gTup K 2 (gCons (gName 4) (gCons (gName 6) gNil))) (tt := tYes) rfl sc_law_ripe.nd (pi_list (pe_call D_law_stands.ok hr (by rfl) D_law_stands.g D_law_stands.kp D_law_stands.b .nil pass0 (pa_cons (pv 0) (pa_cons (pv 1) pa_nil)))) (blkOk_by (N := n_law_ripe) (sc := defScope s_law_ripe) (by decide +kernel)) (fun _ _ _ _ _ => (pg_tup rfl (pgs_cons (pg_name (i := 4) sc_law_ripe.nd rfl (.inl rfl)) (pgs_cons (pg_name (i := 6) sc_law_ripe.nd rfl (.inl rfl)) pgs_nil)))) (fun _ _ _ _ _ => pts_nil) (fun _ _ _ _ _ => (pe_tup (pa_cons (pv 4) (pa_cons (pe_op op_sub pe_int (pv 6)) pa_nil))))) pa_nil))) (pg_tup rfl (pgs_cons (pg_name (i := 4) sc_law_ripe.nd rfl (.inl rfl)) (pgs_cons (pg_name (i := 5) sc_law_ripe.nd rfl (.inl rfl)) pgs_nil))) 
    (pss_one (ps_if (pt_cmpR op_gt (pe_op op_sub pe_int (pv 5)) (pv 3) (nomark _)) 
      (pss_cons (ps_expr (pe_bm PySem.F.plainAttrs_list PySem.F.slot_list_append PySem.F.type_list_append mt_append (pv 2) (pa_cons (pe_tup (pa_cons (pv 4) (pa_cons (pe_op op_sub pe_int (pv 5)) pa_nil))) pa_nil))) 
      (pss_one (ps_set (i := 3) sc_law_ripe.nd rfl (.inl rfl) (pe_op op_sub pe_int (pv 5))))) pss_nil))) 
  (pss_one (ps_ret (pv 2)))))), ?_⟩
    walk_at "vc"
    refine ⟨by decide, fun sp hsp => ?_⟩
    have sm1 : Same H (upd H sp (.lst [])) := same_upd hsp
    have hsp1 : upd H sp (.lst []) sp = some (.lst []) := upd_same
    generalize upd H sp (.lst []) = H1 at sm1 hsp1
    walk_at "vc"
    refine ⟨z, ps, g, l, rfl, SqT_same sm1 hS, hg1, hl1, hz, fun D0 H2 as0 M hM sm2 hD00 hD0 hT0 => ?_⟩
    have hML : M.length ≤ 2000000 := by
      have h0 := hM.len
      have h1 : z.length * (z.length + 1) ≤ 1000 * 1001 := Nat.mul_le_mul (by omega) (by omega)
      omega
    walk_at "vc"
    refine x_iListi (SqL.of hD0) ?_
    intro D hD
    refine lc_list (K := K) (a := D0) (xs := as0.map V.ref) (fun j H' => ∃ as, Same H2 H' ∧ H' D = some (.lst (as.map V.ref)) ∧ Tup beV H' as (M.take j)) ⟨[], same_upd hD, upd_same, Tup.nil⟩ (fun j H' _ ⟨_, s, _⟩ => s.seq (SqL.of hD0)) (fun j x H' hx h => ?_) (fun H' h => ?_)
    · obtain ⟨as, sm, hDj, hTj⟩ := h
      have hj : j < M.length := by
        have := (List.getElem?_eq_some_iff.mp hx).1
        rw [hT0.len] at this
        exact this
      have hMj : M[j]? = some M[j] := List.getElem?_eq_getElem hj
      obtain ⟨aj, hb1, hb2, hb3⟩ := hT0.get hMj
      have ex : x = .ref aj := Option.some.inj (hx.symm.trans hb2)
      subst ex
      refine x_gTup (xs := [.int (M[j].1 : Nat), .int (M[j].2 : Nat)]) (SqT.of (sm _ _ hb3)) rfl ?_
      walk_at "vc"
      refine ⟨rfl, ?_⟩
      walk_at "vc"
      refine ⟨show 2 ≤ sizeLine by decide, fun t ht => ?_⟩
      have hpush := tup_push (f := beV) (p := M[j]) hD sm hDj hTj ht
      refine ⟨_, by rw [upd_ne (ne_of_none hDj ht)]; exact hDj, by rw [hTj.len, List.length_take]; exact Nat.lt_of_le_of_lt (by omega : _ ≤ 2000000) (by decide), as ++ [t], hpush.1, hpush.2.1, ?_⟩
      rw [List.take_succ_eq_append_getElem hj]
      exact hpush.2.2
    · obtain ⟨as, sm, hDj, hTj⟩ := h
      rw [hT0.len, List.take_of_length_le (Nat.le_refl _)] at hTj
      have sm3 : Same H1 H' := sm2.trans sm
      have hsp3 := sm3 _ _ hsp1
      walk_at "vc"
      refine ⟨Nat × Nat, D, as, M, beV, fun p => (beI p).map .int, rfl, SqL.of hDj, hTj, fun p => .cons (.int _) (.cons (.int _) .nil), allAlike_ints beI M, fun p _ h => (nomatch h), fun p _ => Nat.le_trans (depth_tup_ints (beI p)) (by decide), fun D2 as2 hD2 hT2 => ?_⟩
      rw [dataLe_ints beI] at hT2
      have hnd := Lex_nodup hM.lt
      have hS2 := sorted_ahd hnd
      have hmem : ∀ p, p ∈ (M.mergeSort fun p q => !decide (beI q < beI p)) ↔ p ∈ M := fun p => (List.mergeSort_perm M _).mem_iff
      have hSl : (M.mergeSort fun p q => !decide (beI q < beI p)).length ≤ 2000000 := by rw [List.length_mergeSort]; exact hML
      generalize (M.mergeSort fun p q => !decide (beI q < beI p)) = S2 at hT2 hS2 hmem hSl
      have hall : ∀ b e, St (lev g l z) b e → e ≤ z.length → (b, e) ∈ S2 := fun b e hs he => (hmem _).mpr (hM.all b e hs he (by have := hs.1; omega))
      have hst : ∀ p ∈ S2, St (lev g l z) p.1 p.2 ∧ p.2 ≤ z.length := fun p hp => hM.st p ((hmem p).mp hp)
      have sm4 : Same H' (upd H' D2 (.lst (as2.map V.ref))) := same_upd hD2
      have hD4 : upd H' D2 (.lst (as2.map V.ref)) D2 = some (.lst (as2.map V.ref)) := upd_same
      have hT4 := hT2.same sm4
      generalize upd H' D2 (.lst (as2.map V.ref)) = H4 at sm4 hD4 hT4
      refine x_iListi (SqL.of hD4) ?_
      refine for_list (K := K) (a := D2) (xs := as2.map V.ref) (fun i σ H5 => ∃ (as : List Addr) (F : List (Nat × Nat)) (last : Nat) (y4 y5 y6 : Option V), σ = [some (.str (S z)), some (.ref ps), some (.ref sp), some (.int (last : Nat)), y4, y5, y6] ∧ Same H H5 ∧ K1 sp H4 H5 ∧ H5 sp = some (.lst (as.map V.ref)) ∧ Tup pair2 H5 as F ∧ GI (lev g l z) z.length (S2.take i) F last)
        ⟨[], [], 0, _, _, _, rfl, sm1.trans (sm3.trans sm4), K1.refl _, sm4 _ _ hsp3, Tup.nil, GI.zero _ _⟩ (fun i σ H5 _ ⟨_, _, _, _, _, _, _, _, k, _⟩ => SqL.of (k _ _ (fun e => by rw [e] at hD2; rw [hsp3] at hD2; cases hD2) hD4)) ?_ ?_
      · rintro i x σ H5 hx ⟨as, F, last, y4, y5, y6, rfl, sm5, k5, hsp5, hT5, hG⟩
        have hi : i < S2.length := by
          have := (List.getElem?_eq_some_iff.mp hx).1
          rw [hT4.len] at this
          exact this
        have hSi : S2[i]? = some S2[i] := List.getElem?_eq_getElem hi
        obtain ⟨ai, ha1, ha2, ha3⟩ := hT4.get hSi
        have ex : x = .ref ai := Option.some.inj (hx.symm.trans ha2)
        subst ex
        have hsplit : S2 = S2.take i ++ S2[i] :: S2.drop (i + 1) := by
          rw [← List.drop_eq_getElem_cons hi, List.take_append_drop]
        have hFl : F.length ≤ 2000000 := by
          have := len_sorted (L := F) (k := 0) (n := z.length) ?_ ?_
          · omega
          · refine List.Pairwise.imp_of_mem ?_ hG.lt
            intro p q hp hq hpq
            rcases ripe_apart (hG.ripe p hp) (hG.ripe q hq) hpq.1 with ⟨z1, z2⟩ | z1
            · exact absurd (Prod.ext z1 z2) hpq.2
            · have := (hG.ripe p hp).1.1
              omega
          · intro p hp
            have r := hG.ripe p hp
            have := r.1.1
            have := r.2.1
            omega
        have hai : H5 ai = some (.tup (beV S2[i])) := k5 _ _ (ne_of ha3 (sm4 _ _ hsp3) (by intro q; cases q)) ha3
        rw [List.take_succ_eq_append_getElem hi]
        have hsti := hst _ (List.getElem_mem hi)
        refine x_gTup (xs := [.int (S2[i].1 : Nat), .int (0 - ((S2[i].2 : Nat) : Int))]) (SqT.of hai) rfl ?_
        rw [hsplit] at hS2 hall
        generalize S2[i] = pe at hS2 hall hsti
        obtain ⟨pb, pn⟩ := pe
        have e0 : (0 : Int) - (0 - ((pn : Nat) : Int)) = ((pn : Nat) : Int) := by omega
        walk_at "vc"
        rw [e0]
        refine ite2 (fun e => ?_) (fun e => ?_)
        · have e1 : (last : Int) < (pn : Int) := of_decide_eq_true e
          walk_at "vc"
          refine ⟨.inl ⟨rfl, _, SqL.of hsp5⟩, ?_⟩
          walk_at "vc"
          refine ⟨show 2 ≤ sizeLine by decide, fun t ht => ?_⟩
          walk_at "vc"
          rw [e0]
          refine x_append (by rw [upd_ne (ne_of_none hsp5 ht)]; exact hsp5) (by rw [hT5.len]; exact Nat.lt_of_le_of_lt hFl (by decide)) ?_
          have hpush := tup_push (f := pair2) (p := (pb, pn)) hsp sm5 hsp5 hT5 ht
          walk_at "vc"
          rw [e0]
          exact ⟨as ++ [t], F ++ [(pb, pn)], pn, _, _, _, rfl, hpush.1, k5.trans ((K1.of (same_upd ht)).trans K1.at), hpush.2.1, hpush.2.2, hG.yes hS2 hall hsti (by show last < pn; omega)⟩
        · have e1 : ¬ (last : Int) < (pn : Int) := fun h => e (decide_eq_true h)
          walk_at "vc"
          exact ⟨as, F, last, _, _, _, rfl, sm5, k5, hsp5, hT5, hG.no hS2 hsti.1 (by show ¬ last < pn; omega)⟩
      · rintro σ H5 ⟨as, F, last, y4, y5, y6, rfl, sm5, k5, hsp5, hT5, hG⟩
        rw [hT4.len, List.take_of_length_le (Nat.le_refl _)] at hG
        walk_at "vc"
        exact q sp H5 as F (hG.done hall) sm5 hsp hsp5 hT5


theorem ok_law_lane {f : Addr} {fd : FuncData} (F : Fun K "_law_lane" "_law_lane" s_law_lane f fd) (B : Bl mg) : FnOk P w K mg base CX0 1 f fd ["_law_one", "_law_other", "_law_shift"] (sp_law_lane K) := by
  refine F.ok sc_law_lane (fun vs H Q E h => ?_) (fun cdv A outer s H vs Q E hr h => ?_)
  · first
      | (obtain ⟨_, rfl, _⟩ := h; rfl)
      | (obtain ⟨_, _, rfl, _⟩ := h; rfl)
      | (obtain ⟨_, _, _, rfl, _⟩ := h; rfl)
      | (obtain ⟨_, _, _, _, rfl, _⟩ := h; rfl)
      | (obtain ⟨_, _, _, _, _, rfl, _⟩ := h; rfl)
      | (obtain ⟨_, _, _, _, _, _, rfl, _⟩ := h; rfl)
      | (obtain ⟨_, _, _, _, _, _, _, rfl, _⟩ := h; rfl)
      | (obtain ⟨_, _, _, _, _, _, _, _, rfl, _⟩ := h; rfl)
      | (obtain ⟨_, _, _, _, _, _, _, _, _, rfl, _⟩ := h; rfl)
      | (obtain ⟨_, _, _, _, _, _, _, _, _, _, rfl, _⟩ := h; rfl)
      | (obtain ⟨_, _, _, _, _, _, _, _, _, _, _, rfl, _⟩ := h; rfl)
  · obtain ⟨o, t, d, rfl, ho, ht, q⟩ := h
    have eo : ((S o).length : Int) = o.length := by rw [len_S]
    have et : ((S t).length : Int) = t.length := by rw [len_S]
    have lo : (S o).length ≤ sizeLine := hp_sz (by rw [len_S]; omega)
    have lt : (S t).length ≤ sizeLine := hp_sz (by rw [len_S]; omega)
    refine ⟨_, 
  (pss_cons (ps_setLc (i := 3) (own := [("_law_p", 5)]) (g := gName 5) rfl sc_law_lane.nd rfl rfl (sw_true rfl rfl rfl (by decide +kernel)) (pi_range1 rfl B.m_range (pa_cons (pe_callB call_len_str (by rfl) B.m_len PySem.boot_len (pa_cons (pv 0) pa_nil)) pa_nil)) (blkOk_by (N := n_law_lane) (sc := defScope s_law_lane) (by decide +kernel)) (fun _ _ _ _ _ => (pg_name (i := 5) sc_law_lane.nd rfl (.inl rfl))) (fun _ _ _ _ _ => pts_one (pt_chain op_le op_lt pe_int (pe_op op_add (pv 5) (pv 2)) (pe_callB call_len_str (by rfl) B.m_len PySem.boot_len (pa_cons (pv 1) pa_nil)))) (fun _ _ _ _ _ => (pv 5))) 
  (pss_cons (ps_set (i := 4) sc_law_lane.nd rfl (.inl rfl) (pe_join pe_str (pe_lc (own := [("_law_p", 5)]) (g := gName 5) (tt := tYes) rfl sc_law_lane.nd (pi_list (pv 3)) (blkOk_by (N := n_law_lane) (sc := defScope s_law_lane) (by decide +kernel)) (fun _ _ _ _ _ => (pg_name (i := 5) sc_law_lane.nd rfl (.inl rfl))) (fun _ _ _ _ _ => pts_nil) (fun _ _ _ _ _ => (pe_ix ix_str pe_str (pe_callTy call_int1 (by rfl) B.m_int (by decide +kernel) (pa_cons (pe_cmpR op_eq (pe_ix ix_str (pv 0) (pv 5) (fun _ _ => rfl)) (pe_ix ix_str (pv 1) (pe_op op_add (pv 5) (pv 2)) (fun _ _ => rfl)) (nomark _)) pa_nil)) (fun _ _ => rfl)))))) 
  (pss_one (ps_ret (pe_tup (pa_cons (pv 4) (pa_cons (pe_ifExp (pt_cmpR (op_neD hr.units) (pv 3) (pe_lst pa_nil) (nomark _)) (pe_ix ix_list (pv 3) pe_int (fun _ _ => rfl)) pe_int) pa_nil))))))), ?_⟩
    walk_at "vc"
    intro D hD
    have en : (((S o).length : Nat) : Int).toNat = o.length := by rw [len_S]; rfl
    refine lc_range (fun i H' => Same H H' ∧ H' D = some (.lst (((List.range i).filter (onl t.length d)).map fun p => V.int (p : Nat)))) ⟨same_upd hD, upd_same⟩ (fun i H' hi h => ?_) (fun H' h => ?_)
    · have hi' : i < o.length := by omega
      have hlen : ((List.range i).filter (onl t.length d)).length ≤ i := by
        have := List.length_filter_le (onl t.length d) (List.range i)
        rw [List.length_range] at this
        exact this
      have yes : onl t.length d i = true → ∃ acc, H' D = some (.lst acc) ∧ acc.length < sizeLine ∧ (Same H (upd H' D (.lst (acc ++ [V.int (i : Nat)]))) ∧ upd H' D (.lst (acc ++ [V.int (i : Nat)])) D = some (.lst (((List.range (i + 1)).filter (onl t.length d)).map fun p => V.int (p : Nat)))) := fun hy => by
        refine ⟨_, h.2, ?_, fun b x e => ?_, ?_⟩
        · rw [List.length_map]
          exact Nat.lt_of_le_of_lt (Nat.le_trans hlen (by omega : i ≤ 1000)) (by decide)
        · rw [upd_ne (ne_of_none e hD)]
          exact h.1 b x e
        · rw [upd_same, List.range_succ, List.filter_append, List.map_append, List.filter_cons, if_pos hy]
          rfl
      have no : onl t.length d i = false → (Same H H' ∧ H' D = some (.lst (((List.range (i + 1)).filter (onl t.length d)).map fun p => V.int (p : Nat)))) := fun hn => by
        refine ⟨h.1, ?_⟩
        rw [List.range_succ, List.filter_append, List.filter_cons, if_neg (by rw [hn]; decide)]
        rw [List.filter_nil, List.append_nil]
        exact h.2
      walk_at "vc"
      refine ⟨rfl, ?_⟩
      walk_at "vc"
      refine ite2 (fun e => ?_) (fun e => ?_)
      · walk_at "vc"
        have e1 := of_decide_eq_true e
        by_cases h2 : 0 + (i : Int) + d < ((S t).length : Int)
        · rw [decide_eq_true h2]
          walk_at "vc"
          have e0 : V.int (0 + (i : Int)) = V.int (i : Nat) := by rw [Int.zero_add]
          rw [e0]
          refine yes ?_
          unfold onl
          rw [decide_eq_true (by omega), decide_eq_true (by omega)]
          rfl
        · rw [decide_eq_false h2]
          walk_at "vc"
          refine no ?_
          unfold onl
          rw [decide_eq_false (p := (i : Int) + d < _) (by omega), Bool.and_false]
      · walk_at "vc"
        refine no ?_
        unfold onl
        have e1 : ¬ (0 ≤ 0 + (i : Int) + d) := fun z => e (decide_eq_true z)
        rw [decide_eq_false (p := 0 ≤ (i : Int) + d) (by omega), Bool.false_and]
    · rw [en] at h
      have hD1 : H' D = some (.lst ((plc o.length t.length d).map fun p => V.int (p : Nat))) := h.2
      have pl : (plc o.length t.length d).length ≤ o.length := by rw [plc_len]; exact lkn_le _ _ _
      walk_at "vc"
      refine ⟨_, rfl, ⟨_, SqL.of hD1⟩, fun E2 hE => ?_⟩
      refine lc_list (K := K) (a := D) (xs := (plc o.length t.length d).map fun p => V.int (p : Nat)) (fun i H2 => Same H' H2 ∧ H2 E2 = some (.lst (((plc o.length t.length d).take i).map fun p => V.str (sg (lk1 o t d p))))) ⟨same_upd hE, upd_same⟩ (fun i H2 _ z => z.1.seq (SqL.of hD1)) (fun i x H2 hx z => ?_) (fun H2 z => ?_)
      · rw [List.getElem?_map] at hx
        have hi : i < (plc o.length t.length d).length := by
          cases e : (plc o.length t.length d)[i]? with
          | none => rw [e] at hx; cases hx
          | some u => exact (List.getElem?_eq_some_iff.mp e).1
        rw [List.getElem?_eq_getElem hi] at hx
        have ex : x = V.int ((plc o.length t.length d)[i] : Nat) := (Option.some.inj hx).symm
        subst ex
        have hmem : (plc o.length t.length d)[i] ∈ plc o.length t.length d := List.getElem_mem hi
        generalize hp : (plc o.length t.length d)[i] = p at hmem
        have hpm := List.mem_filter.mp hmem
        have hp1 : p < o.length := List.mem_range.mp hpm.1
        have hp2 : 0 ≤ (p : Int) + d ∧ (p : Int) + d < t.length := by
          have := hpm.2
          unfold onl at this
          simpa using this
        have hp3 : ((p : Int) + d).toNat < t.length := by omega
        walk_at "vc"
        refine ⟨rfl, ?_⟩
        walk_at "vc"
        refine x_ixS lo (c := o[p]) (atI_nat (List.getElem?_eq_getElem hp1)) ?_
        walk_at "vc"
        refine x_ixS lt (c := t[((p : Int) + d).toNat]) (atI_of hp2.1 (List.getElem?_eq_getElem hp3)) ?_
        walk_at "vc"
        have el : lk1 o t d p = if o[p] = t[((p : Int) + d).toNat] then 61 else 47 := by
          unfold lk1
          rw [List.getElem?_eq_getElem hp1, List.getElem?_eq_getElem hp3]
          simp only [Option.some.injEq]
        have ea : atI ("/=" : Str).cps.toList (if decide (V.str ⟨#[o[p]]⟩ = V.str ⟨#[t[((p : Int) + d).toNat]]⟩) = true then (1 : Int) else 0) = some (lk1 o t d p) := by
          rw [el]
          by_cases hh : o[p] = t[((p : Int) + d).toNat]
          · rw [if_pos hh, hh, decide_eq_true rfl]
            decide +kernel
          · have : ¬ (V.str ⟨#[o[p]]⟩ = V.str ⟨#[t[((p : Int) + d).toNat]]⟩) := fun q => hh (by simpa using q)
            rw [if_neg hh, decide_eq_false this]
            decide +kernel
        refine x_ixS (by decide +kernel) ea ?_
        refine ⟨_, z.2, ?_, fun b u e => ?_, ?_⟩
        · rw [List.length_map, List.length_take]
          exact Nat.lt_of_le_of_lt (by omega : _ ≤ 1000) (by decide)
        · rw [upd_ne (ne_of_none e hE)]
          exact z.1 b u e
        · rw [upd_same, List.take_succ_eq_append_getElem hi, List.map_append, hp]
          rfl
      · rw [List.length_map, List.take_of_length_le (Nat.le_refl _)] at z
        have z2 : H2 E2 = some (.lst ((likL o t d).map fun c => V.str (sg c))) := by
          rw [z.2]
          unfold likL
          rw [List.map_map]
          rfl
        refine x_join (ys := (likL o t d).map sg) (SqL.of (by rw [lst_map_signs]; exact z2)) (by have e := signs_len (likL o t d); have := likL_le o t d; show ((List.map sg (likL o t d)).map (·.length)).sum + ((likL o t d).map sg).length * ("" : Str).length ≤ _; omega) ?_
        rw [show Txt.join (Str.ofString "") ((likL o t d).map sg) = S (likL o t d) from join_signs _]
        walk_at "vc"
        refine ⟨by decide, fun p3 hp3 => ?_⟩
        have hD3 : H2 D = some (.lst ((plc o.length t.length d).map fun p => V.int (p : Nat))) := z.1 _ _ hD1
        have sm3 : Same H2 (upd H2 p3 (.lst [])) := same_upd hp3
        have hD4 := sm3 _ _ hD3
        have hp4 : upd H2 p3 (.lst []) p3 = some (.lst []) := upd_same
        have emap : ((plc o.length t.length d).map fun p => V.int (p : Nat)) = ((plc o.length t.length d).map fun p => ((p : Nat) : Int)).map V.int := by rw [List.map_map]; rfl
        refine ⟨.list (((plc o.length t.length d).map fun p => ((p : Nat) : Int)).map PyData.int), .list [], .lst (SqL.of (emap ▸ hD4)) (dp_ints _), .lst (SqL.of hp4) .nil, shaped_ints _, by decide +kernel, ?_⟩
        rw [eqv_ints_nil]
        generalize upd H2 p3 (.lst []) = H5 at sm3 hD4 hp4
        walk_at "vc"
        have fin : ∀ f : Nat, f = (plc o.length t.length d)[0]?.getD 0 → ∀ p6, H5 p6 = none → Q (.ref p6) (upd H5 p6 (.tup [.str (S (likL o t d)), .int (f : Nat)])) := fun f hf p6 hp6 => by
          refine q p6 _ (h.1.trans (z.1.trans (sm3.trans (same_upd hp6)))) ?_
          rw [upd_same, hf]
        cases hpl : plc o.length t.length d with
        | nil =>
          refine iteF ?_
          walk_at "vc"
          refine ⟨show 2 ≤ sizeLine by decide, fun p6 hp6 => ?_⟩
          rw [hpl] at fin
          exact fin 0 rfl p6 hp6
        | cons u us =>
          refine iteT ?_
          rw [hpl] at hD4 fin
          walk_at "vc"
          refine x_ixL (v := V.int (u : Nat)) (SqL.of hD4) (atI_nat (j := 0) rfl) ?_
          walk_at "vc"
          refine ⟨show 2 ≤ sizeLine by decide, fun p6 hp6 => ?_⟩
          exact fin u rfl p6 hp6


theorem ok_law_reaches {f : Addr} {fd : FuncData} {f_law_lane : Addr} {fd_law_lane : FuncData} {f_law_ripe : Addr} {fd_law_ripe : FuncData} {f_law_worth : Addr} {fd_law_worth : FuncData} (F : Fun K "_law_reaches" "_law_reaches" s_law_reaches f fd) (B : Bl mg) (D_law_lane : Dn P w K mg base "_law_lane" 1 ["_law_one", "_law_other", "_law_shift"] (sp_law_lane K) f_law_lane fd_law_lane) (D_law_ripe : Dn P w K mg base "_law_ripe" 2 ["_law_likes", "_law_scale_here"] (sp_law_ripe K) f_law_ripe fd_law_ripe) (D_law_worth : Dn P w K mg base "_law_worth" 1 ["_law_likes", "_law_scale_here"] (sp_law_worth K) f_law_worth fd_law_worth) : FnOk P w K mg base CX0 3 f fd ["_law_one", "_law_other", "_law_scale_here", "_law_told"] (sp_law_reaches K) := by
  refine F.ok sc_law_reaches (fun vs H Q E h => ?_) (fun cdv A outer s H vs Q E hr h => ?_)
  · first
      | (obtain ⟨_, rfl, _⟩ := h; rfl)
      | (obtain ⟨_, _, rfl, _⟩ := h; rfl)
      | (obtain ⟨_, _, _, rfl, _⟩ := h; rfl)
      | (obtain ⟨_, _, _, _, rfl, _⟩ := h; rfl)
      | (obtain ⟨_, _, _, _, _, rfl, _⟩ := h; rfl)
      | (obtain ⟨_, _, _, _, _, _, rfl, _⟩ := h; rfl)
      | (obtain ⟨_, _, _, _, _, _, _, rfl, _⟩ := h; rfl)
      | (obtain ⟨_, _, _, _, _, _, _, _, rfl, _⟩ := h; rfl)
      | (obtain ⟨_, _, _, _, _, _, _, _, _, rfl, _⟩ := h; rfl)
      | (obtain ⟨_, _, _, _, _, _, _, _, _, _, rfl, _⟩ := h; rfl)
      | (obtain ⟨_, _, _, _, _, _, _, _, _, _, _, rfl, _⟩ := h; rfl)
  · obtain ⟨o, t, ps, g, l, told, rfl, hS, hg1, hg2, hl1, hl2, ho, ht, q⟩ := h
    have eo : ((S o).length : Int) = o.length := by rw [len_S]
    have et : ((S t).length : Int) = t.length := by rw [len_S]
    have lo : (S o).length ≤ sizeLine := hp_sz (by rw [len_S]; omega)
    have lt : (S t).length ≤ sizeLine := hp_sz (by rw [len_S]; omega)
    refine ⟨_, 
  (pss_cons (ps_set (i := 4) sc_law_reaches.nd rfl (.inl rfl) (pe_lst pa_nil)) 
  (pss_cons (ps_for PassesOwn.never rfl (pi_range2 rfl B.m_range (pa_cons (pe_op op_sub pe_int (pe_callB call_len_str (by rfl) B.m_len PySem.boot_len (pa_cons (pv 0) pa_nil))) (pa_cons (pe_op op_add (pe_callB call_len_str (by rfl) B.m_len PySem.boot_len (pa_cons (pv 1) pa_nil)) pe_int) pa_nil))) (pg_name (i := 5) sc_law_reaches.nd rfl (.inl rfl)) 
    (pss_cons (ps_asg (pe_call D_law_lane.ok (hr.mono (by decide)) (by rfl) D_law_lane.g D_law_lane.kp D_law_lane.b .nil pass0 (pa_cons (pv 0) (pa_cons (pv 1) (pa_cons (pv 5) pa_nil)))) (pg_tup rfl (pgs_cons (pg_name (i := 6) sc_law_reaches.nd rfl (.inl rfl)) (pgs_cons (pg_name (i := 7) sc_law_reaches.nd rfl (.inl rfl)) pgs_nil)))) 
    (pss_one (ps_for PassesOwn.never rfl (pi_list (pe_call D_law_ripe.ok hr (by rfl) D_law_ripe.g D_law_ripe.kp D_law_ripe.b .nil pass0 (pa_cons (pv 6) (pa_cons (pv 2) pa_nil)))) (pg_tup rfl (pgs_cons (pg_name (i := 8) sc_law_reaches.nd rfl (.inl rfl)) (pgs_cons (pg_name (i := 9) sc_law_reaches.nd rfl (.inl rfl)) pgs_nil))) 
      (pss_one (ps_if (pt_cmpR op_ge (pe_call D_law_worth.ok (hr.mono (by decide)) (by rfl) D_law_worth.g D_law_worth.kp D_law_worth.b .nil pass0 (pa_cons (pe_slice sl_str (pv 6) (po_some (pv 8)) (po_some (pv 9))) (pa_cons (pv 2) pa_nil))) (pv 3) (nomark _)) 
        (pss_one (ps_expr (pe_bm PySem.F.plainAttrs_list PySem.F.slot_list_append PySem.F.type_list_append mt_append (pv 4) (pa_cons (pe_tup (pa_cons (pv 5) (pa_cons (pe_op op_add (pv 7) (pv 8)) (pa_cons (pe_op op_add (pv 7) (pv 9)) pa_nil)))) pa_nil)))) pss_nil)))))) 
  (pss_one (ps_ret (pv 4))))), ?_⟩
    walk_at "vc"
    refine ⟨by decide, fun sp hsp => ?_⟩
    have sm1 : Same H (upd H sp (.lst [])) := same_upd hsp
    have hsp1 : upd H sp (.lst []) sp = some (.lst []) := upd_same
    generalize upd H sp (.lst []) = H1 at sm1 hsp1
    walk_at "vc"
    have en : (((S t).length : Int) + 1 - (0 - ((S o).length : Int))).toNat = ((t.length : Int) + 1 - (0 - (o.length : Int))).toNat := by rw [eo, et]
    rw [en, ← rchA_wide] at *
    have hns : ((t.length : Int) + 1 - (0 - (o.length : Int))).toNat ≤ 201 := by omega
    refine for_range (fun i σ H2 => ∃ (as : List Addr) (y5 y6 y7 y8 y9 : Option V), σ = [some (.str (S o)), some (.str (S t)), some (.ref ps), some (.int told), some (.ref sp), y5, y6, y7, y8, y9] ∧ Same H H2 ∧ H2 sp = some (.lst (as.map V.ref)) ∧ Tup triV H2 as (rchN g l told o t (0 - (o.length : Int)) i))
      ⟨[], _, _, _, _, _, rfl, sm1, hsp1, Tup.nil⟩ ?_ ?_
    · rintro i σ H2 hi ⟨as, y5, y6, y7, y8, y9, rfl, sm2, hsp2, hT2⟩
      have ed : (0 : Int) - ((S o).length : Int) + (i : Int) = 0 - (o.length : Int) + (i : Int) := by rw [eo]
      walk_at "vc"
      rw [ed]
      have hdb : -1000 ≤ 0 - (o.length : Int) + (i : Int) ∧ 0 - (o.length : Int) + (i : Int) ≤ 1000 := by omega
      rw [rchN_succ]
      generalize 0 - (o.length : Int) + (i : Int) = d at hdb
      refine ⟨o, t, d, rfl, by omega, by omega, fun pl H3 sm3 hpl => ?_⟩
      have hll := likL_le o t d
      walk_at "vc"
      refine ⟨_, ps, g, l, rfl, SqT_same (sm2.trans sm3) hS, hg1, hl1, by omega, fun D H4 as4 L hRL sm4 hD0 hD hT4 => ?_⟩
      have smA : Same H H4 := sm2.trans (sm3.trans sm4)
      have hsp4 := sm4 _ _ (sm3 _ _ hsp2)
      have hTs4 := hT2.same (sm3.trans sm4)
      have hLl := hRL.len
      have hNl := rchN_len g l told o t (0 - (o.length : Int)) i
      have hNl2 : i * o.length ≤ 201 * 100 := Nat.mul_le_mul (by omega) ho
      walk_at "vc"
      refine x_iListi (SqL.of hD) ?_
      refine for_list (K := K) (a := D) (xs := as4.map V.ref) (fun j σ H5 => ∃ (as : List Addr) (y8 y9 : Option V), σ = [some (.str (S o)), some (.str (S t)), some (.ref ps), some (.int told), some (.ref sp), some (.int d), some (.str (S (likL o t d))), some (.int (((plc o.length t.length d)[0]?.getD 0 : Nat) : Int)), y8, y9] ∧ Same H H5 ∧ K1 sp H4 H5 ∧ H5 sp = some (.lst (as.map V.ref)) ∧ Tup triV H5 as (rchN g l told o t (0 - (o.length : Int)) i ++ rchP g l told o t d (L.take j)))
        ⟨as, _, _, rfl, smA, K1.refl _, hsp4, by rw [List.take_zero]; show Tup triV H4 as (_ ++ []); rw [List.append_nil]; exact hTs4⟩ (fun j σ H5 _ ⟨_, _, _, _, _, k, _⟩ => SqL.of (k _ _ (fun e => by rw [e] at hD0; rw [sm3 _ _ hsp2] at hD0; cases hD0) hD)) ?_ ?_
      · rintro j x σ H5 hx ⟨as, y8, y9, rfl, sm5, k5, hsp5, hT5⟩
        have hj : j < L.length := by
          have := (List.getElem?_eq_some_iff.mp hx).1
          rw [hT4.len] at this
          exact this
        have hLj : L[j]? = some L[j] := List.getElem?_eq_getElem hj
        obtain ⟨aj, ha1, ha2, ha3⟩ := hT4.get hLj
        have ex : x = .ref aj := Option.some.inj (hx.symm.trans ha2)
        subst ex
        have hr := hRL.ripe _ (List.getElem_mem hj)
        have haj : H5 aj = some (.tup (pair2 L[j])) := k5 _ _ (ne_of ha3 hsp4 (by intro q; cases q)) ha3
        have hPl := rchP_len g l told o t d (L.take j)
        rw [List.length_take] at hPl
        have hfirst : (plc o.length t.length d)[0]?.getD 0 = bgn d := plc_first (by rw [← likL_len]; omega)
        rw [hfirst, List.take_succ_eq_append_getElem hj, rchP_snoc]
        refine x_gTup (xs := [.int (L[j].1 : Nat), .int (L[j].2 : Nat)]) (SqT.of haj) rfl ?_
        generalize L[j] = pe at hr
        obtain ⟨pb, pn⟩ := pe
        have hbn : pb < pn := hr.1.1
        have hnz : pn ≤ (likL o t d).length := hr.2.1
        walk_at "vc"
        refine x_slS (hp_sz (by rw [len_S]; omega)) ?_
        rw [cutS_cut _ pb pn hnz]
        walk_at "vc"
        refine ⟨_, ps, g, l, rfl, SqT_same sm5 hS, ?_⟩
        rw [wor_cut g l _ (Nat.le_of_lt hbn)]
        walk_at "vc"
        refine ite2 (fun e => ?_) (fun e => ?_)
        · have e1 : told ≤ lev g l (likL o t d) pn - lev g l (likL o t d) pb := of_decide_eq_true e
          walk_at "vc"
          refine ⟨.inl ⟨rfl, _, SqL.of hsp5⟩, ?_⟩
          walk_at "vc"
          refine ⟨show 3 ≤ sizeLine by decide, fun u hu => ?_⟩
          walk_at "vc"
          refine x_append (by rw [upd_ne (ne_of_none hsp5 hu)]; exact hsp5) (by rw [hT5.len, List.length_append]; exact Nat.lt_of_le_of_lt (by omega : _ ≤ 100000) (by decide)) ?_
          have hpush := tup_push (f := triV) (p := (d, ((bgn d + pb : Nat) : Int), ((bgn d + pn : Nat) : Int))) hsp sm5 hsp5 hT5 hu
          refine ⟨as ++ [u], _, _, rfl, hpush.1, k5.trans ((K1.of (same_upd hu)).trans K1.at), hpush.2.1, ?_⟩
          rw [if_pos e1, ← List.append_assoc]
          exact hpush.2.2
        · have e1 : ¬ told ≤ lev g l (likL o t d) pn - lev g l (likL o t d) pb := fun h => e (decide_eq_true h)
          walk_at "vc"
          refine ⟨as, _, _, rfl, sm5, k5, hsp5, ?_⟩
          rw [if_neg e1, List.append_nil]
          exact hT5
      · rintro σ H5 ⟨as, y8, y9, rfl, sm5, k5, hsp5, hT5⟩
        rw [hT4.len, List.take_of_length_le (Nat.le_refl _), rchP_all hRL] at hT5
        exact ⟨as, _, _, _, _, _, rfl, sm5, hsp5, hT5⟩
    · rintro σ H2 ⟨as, y5, y6, y7, y8, y9, rfl, sm2, hsp2, hT2⟩
      walk_at "vc"
      exact q sp H2 as sm2 hsp hsp2 hT2


theorem same_step {f : Addr} {fd : FuncData} (F : Fun K "_law_same" "_law_same" s_law_same f fd) (B : Bl mg) (n : Nat) (DD : Dn P w K mg base "_law_same" n ["_law_found", "_law_due"] (sp_sameN n K) f fd) : FnOk P w K mg base CX0 (n + 1) f fd ["_law_found", "_law_due"] (sp_sameN (n + 1) K) := by
  refine F.ok sc_law_same (fun vs H Q E h => ?_) (fun cdv A outer s H vs Q E hr h => ?_)
  · obtain ⟨_, _, _, rfl, _⟩ := h
    rfl
  · obtain ⟨x, y, d, rfl, hx, hy, gd, hdep, q⟩ := h
    refine ⟨_, 
  (pss_cons (ps_if (pt_val (pe_callB call_isiT (by rfl) B.m_isinstance (by decide +kernel) (pa_cons (pv 1) (pa_cons (pe_tup (pa_cons (pe_bltn (v := .ty "list") (by rfl) B.m_list (by decide +kernel) rfl) (pa_cons (pe_bltn (v := .ty "tuple") (by rfl) B.m_tuple (by decide +kernel) rfl) pa_nil))) pa_nil)))) 
    (pss_cons (ps_if (PW.pt (pw_or (pt_cmpR op_ne (pe_callB call_isi (by rfl) B.m_isinstance (by decide +kernel) (pa_cons (pv 0) (pa_cons (pe_bltn (v := .ty "list") (by rfl) B.m_list (by decide +kernel) rfl) pa_nil))) (pe_callB call_isi (by rfl) B.m_isinstance (by decide +kernel) (pa_cons (pv 1) (pa_cons (pe_bltn (v := .ty "list") (by rfl) B.m_list (by decide +kernel) rfl) pa_nil))) (nomark _)) (pw_or1 (pt_cmpR op_ne (pe_callB call_isi (by rfl) B.m_isinstance (by decide +kernel) (pa_cons (pv 0) (pa_cons (pe_bltn (v := .ty "tuple") (by rfl) B.m_tuple (by decide +kernel) rfl) pa_nil))) (pe_callB call_isi (by rfl) B.m_isinstance (by decide +kernel) (pa_cons (pv 1) (pa_cons (pe_bltn (v := .ty "tuple") (by rfl) B.m_tuple (by decide +kernel) rfl) pa_nil))) (nomark _))))) 
      (pss_one (ps_ret pe_bl)) pss_nil) 
    (pss_cons (ps_if (pt_cmpR op_ne (pe_callB call_len_seq (by rfl) B.m_len PySem.boot_len (pa_cons (pv 0) pa_nil)) (pe_callB call_len_seq (by rfl) B.m_len PySem.boot_len (pa_cons (pv 1) pa_nil)) (nomark _)) 
      (pss_one (ps_ret pe_bl)) pss_nil) 
    (pss_cons (ps_for PassesOwn.never rfl (pi_range1 rfl B.m_range (pa_cons (pe_callB call_len_seq (by rfl) B.m_len PySem.boot_len (pa_cons (pv 1) pa_nil)) pa_nil)) (pg_name (i := 2) sc_law_same.nd rfl (.inl rfl)) 
      (pss_one (ps_if (pt_not (pt_val (pe_call DD.ok hr (by rfl) DD.g DD.kp DD.b .nil pass0 (pa_cons (pe_ix ix_seq (pv 0) (pv 2) (fun _ _ => rfl)) (pa_cons (pe_ix ix_seq (pv 1) (pv 2) (fun _ _ => rfl)) pa_nil))))) 
        (pss_one (ps_ret pe_bl)) pss_nil))) 
    (pss_one (ps_ret pe_bl))))) pss_nil) 
  (pss_cons (ps_if (pt_val (pe_callB call_isi (by rfl) B.m_isinstance (by decide +kernel) (pa_cons (pv 1) (pa_cons (pe_bltn (v := .ty "str") (by rfl) B.m_str (by decide +kernel) rfl) pa_nil)))) 
    (pss_one (ps_ret (pe_and (pe_callB call_isi (by rfl) B.m_isinstance (by decide +kernel) (pa_cons (pv 0) (pa_cons (pe_bltn (v := .ty "str") (by rfl) B.m_str (by decide +kernel) rfl) pa_nil))) (pe_one (pe_cmpR op_eq (pv 0) (pv 1) (nomark _)))))) pss_nil) 
  (pss_one (ps_ret (pe_and (pe_callB call_isi (by rfl) B.m_isinstance (by decide +kernel) (pa_cons (pv 0) (pa_cons (pe_bltn (v := .ty "int") (by rfl) B.m_int (by decide +kernel) rfl) pa_nil))) (pe_and (pe_cmpR op_eq (pe_callB call_isi (by rfl) B.m_isinstance (by decide +kernel) (pa_cons (pv 0) (pa_cons (pe_bltn (v := .ty "bool") (by rfl) B.m_bool (by decide +kernel) rfl) pa_nil))) (pe_callB call_isi (by rfl) B.m_isinstance (by decide +kernel) (pa_cons (pv 1) (pa_cons (pe_bltn (v := .ty "bool") (by rfl) B.m_bool (by decide +kernel) rfl) pa_nil))) (nomark _)) (pe_one (pe_cmpR op_eq (pv 0) (pv 1) (nomark _))))))))), ?_⟩
    walk_at "vc"
    refine ⟨show 2 ≤ sizeLine by decide, fun p hp => ?_⟩
    have sm0 := same_upd (o := HO.tup [V.ty "list", V.ty "tuple"]) hp
    have hp1 : upd H p (HO.tup [V.ty "list", V.ty "tuple"]) p = some (HO.tup [V.ty "list", V.ty "tuple"]) := upd_same
    generalize upd H p (HO.tup [V.ty "list", V.ty "tuple"]) = H1 at sm0 hp1
    have hx1 := Dp_same sm0 d x hx
    have hy1 := Dp_same sm0 d y hy
    have tx := dp_ty hx1
    have ty := dp_ty hy1
    rcases seq_view hx1 hy1 gd with ⟨i, rfl, rfl, et⟩ | ⟨z, rfl, rfl, et⟩ | ⟨b, rfl, rfl, et⟩ | ⟨ds, px, py, xs, ys, b1, b2, rfl, rfl, sx, sy, ax, ay, hlen, hgd, hd, k1, k2, kb⟩
    · rw [et] at tx ty
      walk_at "vc"
      refine x_isiLT (b := false) hp1 ty (kit_lt (kit_ty (r := false) (by decide +kernel)) (kit_ty (r := false) (by decide +kernel))) ?_
      walk_at "vc"
      walk_at "vc"
      refine x_isi (n := "str") ty (kit_ty (r := false) (by decide +kernel)) ?_
      walk_at "vc"
      walk_at "vc"
      refine x_isi (n := "int") tx (kit_ty (r := true) (by decide +kernel)) ?_
      walk_at "vc"
      walk_at "vc"
      refine x_isi (n := "bool") tx (kit_ty (r := false) (by decide +kernel)) ?_
      walk_at "vc"
      refine x_isi (n := "bool") ty (kit_ty (r := false) (by decide +kernel)) ?_
      walk_at "vc"
      rw [decide_eq_true rfl]
      walk_at "vc"
      rw [decide_eq_true rfl]
      exact q _ sm0
    · rw [et] at tx ty
      walk_at "vc"
      refine x_isiLT (b := false) hp1 ty (kit_lt (kit_ty (r := false) (by decide +kernel)) (kit_ty (r := false) (by decide +kernel))) ?_
      walk_at "vc"
      walk_at "vc"
      refine x_isi (n := "str") ty (kit_ty (r := true) (by decide +kernel)) ?_
      walk_at "vc"
      walk_at "vc"
      refine x_isi (n := "str") tx (kit_ty (r := true) (by decide +kernel)) ?_
      walk_at "vc"
      rw [decide_eq_true rfl]
      exact q _ sm0
    · rw [et] at tx ty
      walk_at "vc"
      refine x_isiLT (b := false) hp1 ty (kit_lt (kit_ty (r := false) (by decide +kernel)) (kit_ty (r := false) (by decide +kernel))) ?_
      walk_at "vc"
      walk_at "vc"
      refine x_isi (n := "str") ty (kit_ty (r := false) (by decide +kernel)) ?_
      walk_at "vc"
      walk_at "vc"
      refine x_isi (n := "int") tx (kit_ty (r := true) (by decide +kernel)) ?_
      walk_at "vc"
      walk_at "vc"
      refine x_isi (n := "bool") tx (kit_ty (r := true) (by decide +kernel)) ?_
      walk_at "vc"
      refine x_isi (n := "bool") ty (kit_ty (r := true) (by decide +kernel)) ?_
      walk_at "vc"
      rw [decide_eq_true rfl]
      walk_at "vc"
      rw [decide_eq_true rfl]
      exact q _ sm0
    · walk_at "vc"
      refine x_isiLT hp1 ty (kit_lt k1 k2) ?_
      rw [kb]
      walk_at "vc"
      walk_at "vc"
      refine x_isi tx k1 ?_
      walk_at "vc"
      refine x_isi ty k1 ?_
      walk_at "vc"
      rw [decide_eq_true rfl]
      walk_at "vc"
      walk_at "vc"
      refine x_isi tx k2 ?_
      walk_at "vc"
      refine x_isi ty k2 ?_
      walk_at "vc"
      rw [decide_eq_true rfl]
      walk_at "vc"
      have lx := DpAll_len ax
      have ly := DpAll_len ay
      rw [lx, ly, decide_eq_true rfl]
      walk_at "vc"
      have en : ((ds.length : Nat) : Int).toNat = ds.length := rfl
      rw [ly, en]
      refine for_range (fun i σ H' => (∃ y3, σ = [some (.ref px), some (.ref py), y3]) ∧ Same H1 H') ⟨⟨_, rfl⟩, Same.refl _⟩ ?_ ?_
      · rintro i σ H2 hi ⟨⟨y3, rfl⟩, sm⟩
        obtain ⟨vx, d1, ex, ed1, dx⟩ := DpAll_get i ax hi
        obtain ⟨vy, d2, ey, ed2, dy⟩ := DpAll_get i ay hi
        have e12 : d1 = d2 := Option.some.inj (ed1.symm.trans ed2)
        subst e12
        have hm : d1 ∈ ds := List.mem_of_getElem? ed1
        walk_at "vc"
        have e0 : 0 + (i : Int) = ((i : Nat) : Int) := Int.zero_add _
        rw [e0]
        refine x_ixQ (Sq_same sm sx) (atI_nat ex) ?_
        walk_at "vc"
        refine x_ixQ (Sq_same sm sy) (atI_nat ey) ?_
        walk_at "vc"
        refine ⟨vx, vy, d1, rfl, Dp_same sm _ _ dx, Dp_same sm _ _ dy, hgd d1 hm, by have := depth_mem hm; omega, fun H3 sm3 => ?_⟩
        walk_at "vc"
        exact ⟨⟨_, rfl⟩, sm.trans sm3⟩
      · rintro σ H2 ⟨⟨y3, rfl⟩, sm⟩
        walk_at "vc"
        exact q _ (sm0.trans sm)
theorem ok_law_same {f : Addr} {fd : FuncData} (F : Fun K "_law_same" "_law_same" s_law_same f fd) (B : Bl mg) (g : mg "_law_same" = some (.ref f)) (b : Binds K fd ["_law_found", "_law_due"] []) : FnOk P w K mg base CX0 12 f fd ["_law_found", "_law_due"] (sp_law_same K) := by
  have h : ∀ n, FnOk P w K mg base CX0 n f fd ["_law_found", "_law_due"] (sp_sameN n K) := by
    intro n
    induction n with
    | zero => exact fn_never fun vs H Q E ⟨_, _, _, _, _, _, _, h, _⟩ => by omega
    | succ n ih => exact same_step F B n ⟨ih, g, F.kp, b⟩
  exact h 12


theorem oklaw {f : Addr} {fd : FuncData} {f_law_letters : Addr} {fd_law_letters : FuncData} {f_law_scale : Addr} {fd_law_scale : FuncData} {f_law_row : Addr} {fd_law_row : FuncData} {f_law_reaches : Addr} {fd_law_reaches : FuncData} {f_law_next : Addr} {fd_law_next : FuncData} {freaches : Addr} {fdreaches : FuncData} {f_law_same : Addr} {fd_law_same : FuncData} {f_law_near : Addr} {fd_law_near : FuncData} (F : Fun K "law" "law" slaw f fd) (B : Bl mg) (D_law_letters : Dn P w K mg base "_law_letters" 2 ["_law_h"] (sp_law_letters K) f_law_letters fd_law_letters) (D_law_scale : Dn P w K mg base "_law_scale" 2 ["_law_h"] (sp_law_scale K) f_law_scale fd_law_scale) (D_law_row : Dn P w K mg base "_law_row" 2 ["_law_h", "_law_letters_here", "_law_most"] (sp_law_row K) f_law_row fd_law_row) (D_law_reaches : Dn P w K mg base "_law_reaches" 3 ["_law_one", "_law_other", "_law_scale_here", "_law_told"] (sp_law_reaches K) f_law_reaches fd_law_reaches) (D_law_next : Dn P w K mg base "_law_next" 1 ["_law_h", "_law_many"] (sp_law_next K) f_law_next fd_law_next) (Dreaches : Dn P w K mg base "reaches" 5 ["one", "other", "scale", "told"] (spreaches K) freaches fdreaches) (D_law_same : Dn P w K mg base "_law_same" 12 ["_law_found", "_law_due"] (sp_law_same K) f_law_same fd_law_same) (D_law_near : Dn P w K mg base "_law_near" 3 ["_law_h", "_law_row_here", "_law_letters_here"] (sp_law_near K) f_law_near fd_law_near) : FnOk P w K mg base CX0 13 f fd ["_law_script"] (splaw K) := by
  refine F.ok sclaw (fun vs H Q E h => ?_) (fun cdv A outer s H vs Q E hr h => ?_)
  · first
      | (obtain ⟨_, rfl, _⟩ := h; rfl)
      | (obtain ⟨_, _, rfl, _⟩ := h; rfl)
      | (obtain ⟨_, _, _, rfl, _⟩ := h; rfl)
      | (obtain ⟨_, _, _, _, rfl, _⟩ := h; rfl)
      | (obtain ⟨_, _, _, _, _, rfl, _⟩ := h; rfl)
      | (obtain ⟨_, _, _, _, _, _, rfl, _⟩ := h; rfl)
      | (obtain ⟨_, _, _, _, _, _, _, rfl, _⟩ := h; rfl)
      | (obtain ⟨_, _, _, _, _, _, _, _, rfl, _⟩ := h; rfl)
      | (obtain ⟨_, _, _, _, _, _, _, _, _, rfl, _⟩ := h; rfl)
      | (obtain ⟨_, _, _, _, _, _, _, _, _, _, rfl, _⟩ := h; rfl)
      | (obtain ⟨_, _, _, _, _, _, _, _, _, _, _, rfl, _⟩ := h; rfl)
  · obtain ⟨a0, ns, rfl, hS, hlen, q⟩ := h
    refine ⟨_, 
  (pss_cons (ps_set (i := 1) sclaw.nd rfl (.inl rfl) (pe_lst (pa_cons pe_int (pa_cons (pe_callTy call_list_of (by rfl) B.m_list (by decide +kernel) (pa_cons (pv 0) pa_nil)) (pa_cons pe_int pa_nil))))) 
  (pss_cons (ps_set (i := 2) sclaw.nd rfl (.inl rfl) (pe_call D_law_letters.ok (hr.mono (by decide)) (by rfl) D_law_letters.g D_law_letters.kp D_law_letters.b .nil pass0 (pa_cons (pv 1) pa_nil))) 
  (pss_cons (ps_set (i := 3) sclaw.nd rfl (.inl rfl) (pe_call D_law_scale.ok (hr.mono (by decide)) (by rfl) D_law_scale.g D_law_scale.kp D_law_scale.b .nil pass0 (pa_cons (pv 1) pa_nil))) 
  (pss_cons (ps_set (i := 4) sclaw.nd rfl (.inl rfl) (pe_call D_law_row.ok (hr.mono (by decide)) (by rfl) D_law_row.g D_law_row.kp D_law_row.b .nil pass0 (pa_cons (pv 1) (pa_cons (pv 2) (pa_cons pe_int pa_nil))))) 
  (pss_cons (ps_set (i := 5) sclaw.nd rfl (.inl rfl) (pe_ix ix_list (pe_lst (pa_cons (pe_call D_law_row.ok (hr.mono (by decide)) (by rfl) D_law_row.g D_law_row.kp D_law_row.b .nil pass0 (pa_cons (pv 1) (pa_cons (pv 2) (pa_cons pe_int pa_nil)))) (pa_cons (pe_slice sl_str (pe_call D_law_near.ok (hr.mono (by decide)) (by rfl) D_law_near.g D_law_near.kp D_law_near.b .nil pass0 (pa_cons (pv 1) (pa_cons (pv 4) (pa_cons (pv 2) pa_nil)))) po_none (po_some pe_int)) pa_nil))) (pe_call D_law_next.ok (hr.mono (by decide)) (by rfl) D_law_next.g D_law_next.kp D_law_next.b .nil pass0 (pa_cons (pv 1) (pa_cons pe_int pa_nil))) (fun _ _ => rfl))) 
  (pss_cons (ps_for PassesOwn.never rfl (pi_list (pe_lst (pa_cons pe_int (pa_cons (pe_op op_add pe_int (pe_call D_law_next.ok (hr.mono (by decide)) (by rfl) D_law_next.g D_law_next.kp D_law_next.b .nil pass0 (pa_cons (pv 1) (pa_cons pe_int pa_nil)))) (pa_cons (pe_op op_add pe_int (pe_call D_law_next.ok (hr.mono (by decide)) (by rfl) D_law_next.g D_law_next.kp D_law_next.b .nil pass0 (pa_cons (pv 1) (pa_cons pe_int pa_nil)))) pa_nil))))) (pg_name (i := 6) sclaw.nd rfl (.inl rfl)) 
    (pss_cons (ps_set (i := 7) sclaw.nd rfl (.inl rfl) (pe_call D_law_reaches.ok (hr.mono (by decide)) (by rfl) D_law_reaches.g D_law_reaches.kp D_law_reaches.b .nil pass0 (pa_cons (pv 4) (pa_cons (pv 5) (pa_cons (pv 3) (pa_cons (pv 6) pa_nil)))))) 
    (pss_cons (ps_set (i := 8) sclaw.nd rfl (.inl rfl) (pe_call Dreaches.ok (hr.mono (by decide)) (by rfl) Dreaches.g Dreaches.kp Dreaches.b .nil pass0 (pa_cons (pv 4) (pa_cons (pv 5) (pa_cons (pv 3) (pa_cons (pv 6) pa_nil)))))) 
    (pss_cons (ps_if (pt_not (pt_val (pe_call D_law_same.ok hr (by rfl) D_law_same.g D_law_same.kp D_law_same.b .nil pass0 (pa_cons (pv 8) (pa_cons (pv 7) pa_nil))))) 
      (pss_one (ps_ret pe_bl)) pss_nil) 
    (pss_cons (ps_expr (pe_bm PySem.F.plainAttrs_list PySem.F.slot_list_append PySem.F.type_list_append mt_append (pv 8) (pa_cons (pe_tup pa_nil) pa_nil))) 
    (pss_one (ps_if (pt_cmpR (op_neD hr.units) (pe_call Dreaches.ok (hr.mono (by decide)) (by rfl) Dreaches.g Dreaches.kp Dreaches.b .nil pass0 (pa_cons (pv 4) (pa_cons (pv 5) (pa_cons (pv 3) (pa_cons (pv 6) pa_nil))))) (pv 7) (nomark _)) 
      (pss_one (ps_ret pe_bl)) pss_nil))))))) 
  (pss_cons (ps_set (i := 9) sclaw.nd rfl (.inl rfl) (pe_lst pa_nil)) 
  (pss_cons (ps_for PassesOwn.never rfl (pi_list (pe_call D_law_reaches.ok (hr.mono (by decide)) (by rfl) D_law_reaches.g D_law_reaches.kp D_law_reaches.b .nil pass0 (pa_cons (pv 4) (pa_cons (pv 5) (pa_cons (pv 3) (pa_cons pe_int pa_nil)))))) (pg_tup rfl (pgs_cons (pg_name (i := 10) sclaw.nd rfl (.inl rfl)) (pgs_cons (pg_name (i := 11) sclaw.nd rfl (.inl rfl)) (pgs_cons (pg_name (i := 12) sclaw.nd rfl (.inl rfl)) pgs_nil)))) 
    (pss_one (ps_expr (pe_bm PySem.F.plainAttrs_list PySem.F.slot_list_append PySem.F.type_list_append mt_append (pv 9) (pa_cons (pe_tup (pa_cons (pe_op op_sub pe_int (pv 10)) (pa_cons (pe_op op_add (pv 11) (pv 10)) (pa_cons (pe_op op_add (pv 12) (pv 10)) pa_nil)))) pa_nil))))) 
  (pss_one (ps_ret (pe_cmpR (op_eqD hr.units) (pe_call Dreaches.ok (hr.mono (by decide)) (by rfl) Dreaches.g Dreaches.kp Dreaches.b .nil pass0 (pa_cons (pv 5) (pa_cons (pv 4) (pa_cons (pv 3) (pa_cons pe_int pa_nil))))) (pe_callB (cr_sortD hr.units) (by rfl) B.m_sorted (by decide +kernel) (pa_cons (pv 9) pa_nil)) (nomark _)))))))))))), ?_⟩
    walk_at "vc"
    intro b hb
    walk_at "vc"
    refine ⟨show 3 ≤ sizeLine by decide, fun a ha => ?_⟩
    have nab : a ≠ b := fun e => by
      rw [e, upd_same] at ha
      cases ha
    have hs0 : Src (upd (upd H b (.lst (ns.map V.int))) a (.lst [.int 17, .ref b, .int 0])) a b := ⟨nab, 17, 0, ns, upd_same, by rw [upd_ne nab.symm, upd_same], hlen⟩
    generalize upd (upd H b (.lst (ns.map V.int))) a (.lst [.int 17, .ref b, .int 0]) = H0 at hs0
    walk_at "vc"
    refine ⟨a, b, rfl, hs0, fun t n H1 ht hn1 hn2 hs1 k1 => ?_⟩
    walk_at "vc"
    refine ⟨a, b, rfl, hs1, fun g l ps H2 hg1 hg2 hl1 hl2 hps npa npb hs2 k2 => ?_⟩
    walk_at "vc"
    have hn : (letL t n).length = n := letL_len t n
    refine ⟨a, b, letL t n, 24, rfl, hs2, by omega, by omega, by omega, by omega, fun o H3 ho hol hs3 k3 => ?_⟩
    walk_at "vc"
    refine ⟨a, b, letL t n, 24, rfl, hs3, by omega, by omega, by omega, by omega, fun o2 H4 ho2 hol2 hs4 k4 => ?_⟩
    walk_at "vc"
    refine ⟨a, b, o, letL t n, rfl, hs4, by omega, by omega, by omega, hol, fun o3 H5 ho3 hol3 hs5 k5 => ?_⟩
    walk_at "vc"
    refine x_slS (hp_sz (by rw [len_S]; omega)) ?_
    rw [show cutS (S o3) none (some 30) = S (o3.take 30) from cutS_take o3 30]
    have ho4 : (o3.take 30).length ≤ 30 := by rw [List.length_take]; omega
    generalize o3.take 30 = o4 at ho4
    walk_at "vc"
    refine ⟨show 2 ≤ sizeLine by decide, fun p5 hp5 => ?_⟩
    walk_at "vc"
    refine ⟨a, b, 2, rfl, hs5.new hp5, by omega, by omega, fun r H6 r0 r1 hs6 k6 => ?_⟩
    have hp6 : H6 p5 = some (.lst [.str (S o2), .str (S o4)]) := k6 p5 _ (hs5.ne_a hp5) (hs5.ne_b hp5) upd_same
    have key : ∃ ot : List Nat, atI [V.str (S o2), V.str (S o4)] r = some (.str (S ot)) ∧ ot.length ≤ 60 := by
      have : r = 0 ∨ r = 1 := by omega
      rcases this with rfl | rfl
      · exact ⟨o2, rfl, by omega⟩
      · exact ⟨o4, rfl, by omega⟩
    obtain ⟨ot, eot, hot⟩ := key
    have hps6 : H6 ps = some (.tup [.int g, .int l]) := k6 ps _ npa npb (by
      have h5 := k5 ps _ npa npb (k4 ps _ npa npb (k3 ps _ npa npb hps))
      rw [upd_ne (ne_of_none h5 hp5)]
      exact h5)
    walk_at "vc"
    refine ⟨a, b, 12, rfl, hs6, by omega, by omega, fun u1 H7 u10 u11 hs7 k7 => ?_⟩
    walk_at "vc"
    refine ⟨a, b, 60, rfl, hs7, by omega, by omega, fun u2 H8 u20 u21 hs8 k8 => ?_⟩
    have hps8 := k8 _ _ npa npb (k7 _ _ npa npb hps6)
    walk_at "vc"
    refine ⟨show 3 ≤ sizeLine by decide, fun p8 hp8 => ?_⟩
    have sm8 : Same H8 (upd H8 p8 (.lst [.int 1, .int (1 + u1), .int (1 + u2)])) := same_upd hp8
    have hp9 : upd H8 p8 (.lst [.int 1, .int (1 + u1), .int (1 + u2)]) p8 = some (.lst [.int 1, .int (1 + u1), .int (1 + u2)]) := upd_same
    generalize upd H8 p8 (.lst [.int 1, .int (1 + u1), .int (1 + u2)]) = H9 at sm8 hp9
    refine x_iListi (SqL.of hp9) ?_
    have hlenA : ∀ (told : Int) (o t : List Nat), o.length ≤ 100 → t.length ≤ 100 → (rchA g l told o t).length ≤ 100000 := fun told o t h1 h2 => by
      have h3 := rchN_len g l told o t (1 - (o.length : Int)) (nsh o t)
      have h4 : nsh o t * o.length ≤ 200 * 100 := Nat.mul_le_mul (by unfold nsh; omega) h1
      unfold rchA
      omega
    have dpA : ∀ {H : Hp} {D : Addr} {as : List Addr} {L : List Tri}, H D = some (.lst (as.map V.ref)) → Tup triV H as L → Dp K H (.ref D) (.list (L.map fun p => PyData.tuple (triD p))) := fun h1 h2 => .lst (SqL.of h1) (h2.dp tri_dp)
    refine for_list (K := K) (a := p8) (xs := [.int 1, .int (1 + u1), .int (1 + u2)]) (fun i σ H' => (∃ y6 y7 y8 y9 y10 y11 y12, σ = [some (.ref a0), some (.ref a), some (.str (S (letL t n))), some (.ref ps), some (.str (S o)), some (.str (S ot)), y6, y7, y8, y9, y10, y11, y12]) ∧ Same H9 H') ⟨⟨_, _, _, _, _, _, _, rfl⟩, Same.refl _⟩ (fun i σ H' _ h => h.2.seq (SqL.of hp9)) ?_ ?_
    · rintro i x σ H10 hx ⟨⟨y6, y7, y8, y9, y10, y11, y12, rfl⟩, sm10⟩
      obtain ⟨told, rfl⟩ : ∃ told, x = .int told := by
        have hi := (List.getElem?_eq_some_iff.mp hx).1
        have : i = 0 ∨ i = 1 ∨ i = 2 := by
          have : i < 3 := hi
          omega
        rcases this with rfl | rfl | rfl
        · exact ⟨_, (Option.some.inj hx).symm⟩
        · exact ⟨_, (Option.some.inj hx).symm⟩
        · exact ⟨_, (Option.some.inj hx).symm⟩
      have hpsA := sm10 _ _ (sm8 _ _ hps8)
      walk_at "vc"
      refine ⟨o, ot, ps, g, l, told, rfl, SqT.of hpsA, by omega, by omega, by omega, by omega, by omega, by omega, fun D1 H11 as1 sm11 hD10 hD1 hT1 => ?_⟩
      walk_at "vc"
      refine ⟨o, ot, ps, g, l, told, rfl, SqT.of (sm11 _ _ hpsA), by omega, by omega, by omega, by omega, by omega, by omega, fun D2 H12 as2 sm12 hD20 hD2 hT2 => ?_⟩
      have hD1' := sm12 _ _ hD1
      have hT1' := hT1.same sm12
      walk_at "vc"
      refine ⟨_, _, _, rfl, dpA hD2 hT2, dpA hD1' hT1', Gd_tris _ (hlenA _ _ _ (by omega) (by omega)), by simp only [PyData.depth]; have := depth_tris (rchA g l told o ot); omega, fun H13 sm13 => ?_⟩
      have hD2' := sm13 _ _ hD2
      walk_at "vc"
      refine ⟨.inl ⟨rfl, _, SqL.of hD2'⟩, ?_⟩
      walk_at "vc"
      refine ⟨by decide, fun e13 he13 => ?_⟩
      walk_at "vc"
      refine x_append (by rw [upd_ne (ne_of_none hD2' he13)]; exact hD2') (by rw [hT2.len]; exact Nat.lt_of_le_of_lt (hlenA _ _ _ (by omega) (by omega)) (by decide)) ?_
      have smn : Same H11 (upd (upd H13 e13 (.tup [])) D2 (.lst (as2.map V.ref ++ [.ref e13]))) := (K1.at (a := D2)).same hD20 (sm12.trans (sm13.trans (same_upd he13)))
      generalize upd (upd H13 e13 (.tup [])) D2 (.lst (as2.map V.ref ++ [.ref e13])) = H14 at smn
      walk_at "vc"
      refine ⟨o, ot, ps, g, l, told, rfl, SqT.of (smn _ _ (sm11 _ _ hpsA)), by omega, by omega, by omega, by omega, by omega, by omega, fun D3 H15 as3 sm15 hD30 hD3 hT3 => ?_⟩
      walk_at "vc"
      refine ⟨_, _, dpA hD3 hT3, dpA (sm15 _ _ (smn _ _ hD1)) ((hT1.same smn).same sm15), shaped_tris _, shaped_tris _, ?_⟩
      rw [eqv_tris]
      walk_at "vc"
      exact ⟨⟨_, _, _, _, _, _, _, rfl⟩, sm10.trans (sm11.trans (smn.trans sm15))⟩
    · rintro σ H10 ⟨⟨y6, y7, y8, y9, y10, y11, y12, rfl⟩, sm10⟩
      have hpsA := sm10 _ _ (sm8 _ _ hps8)
      walk_at "vc"
      refine ⟨by decide, fun sp hsp => ?_⟩
      have sm11 : Same H10 (upd H10 sp (.lst [])) := same_upd hsp
      have hsp11 : upd H10 sp (.lst []) sp = some (.lst []) := upd_same
      generalize upd H10 sp (.lst []) = H11 at sm11 hsp11
      walk_at "vc"
      refine ⟨o, ot, ps, g, l, 1, rfl, SqT.of (sm11 _ _ hpsA), by omega, by omega, by omega, by omega, by omega, by omega, fun D1 H12 as1 sm12 hD10 hD1 hT1 => ?_⟩
      have hLA := hlenA 1 o ot (by omega) (by omega)
      have hsp12 := sm12 _ _ hsp11
      refine x_iListi (SqL.of hD1) ?_
      refine for_list (K := K) (a := D1) (xs := as1.map V.ref) (fun i σ H' => ∃ (as : List Addr) (y6 y7 y8 y10 y11 y12 : Option V), σ = [some (.ref a0), some (.ref a), some (.str (S (letL t n))), some (.ref ps), some (.str (S o)), some (.str (S ot)), y6, y7, y8, some (.ref sp), y10, y11, y12] ∧ Same H10 H' ∧ K1 sp H12 H' ∧ H' sp = some (.lst (as.map V.ref)) ∧ Tup triV H' as (((rchA g l 1 o ot).take i).map turn))
        ⟨[], _, _, _, _, _, _, rfl, sm11.trans sm12, K1.refl _, hsp12, Tup.nil⟩ (fun i σ H' _ ⟨_, _, _, _, _, _, _, _, _, k, _⟩ => SqL.of (k _ _ (fun e => by rw [e] at hD10; rw [hsp11] at hD10; cases hD10) hD1)) ?_ ?_
      · rintro i x σ H13 hx ⟨as, y6, y7, y8, y10, y11, y12, rfl, sm13, k13, hsp13, hT13⟩
        have hi : i < (rchA g l 1 o ot).length := by
          have := (List.getElem?_eq_some_iff.mp hx).1
          rw [hT1.len] at this
          exact this
        have hLi : (rchA g l 1 o ot)[i]? = some (rchA g l 1 o ot)[i] := List.getElem?_eq_getElem hi
        obtain ⟨ai, ha1, ha2, ha3⟩ := hT1.get hLi
        have ex : x = .ref ai := Option.some.inj (hx.symm.trans ha2)
        subst ex
        have hai : H13 ai = some (.tup (triV (rchA g l 1 o ot)[i])) := k13 _ _ (ne_of ha3 hsp12 (by intro q; cases q)) ha3
        rw [List.take_succ_eq_append_getElem hi, List.map_append]
        generalize (rchA g l 1 o ot)[i] = p at hai
        obtain ⟨p1, p2, p3⟩ := p
        refine x_gTup (xs := [.int p1, .int p2, .int p3]) (SqT.of hai) rfl ?_
        walk_at "vc"
        refine ⟨.inl ⟨rfl, _, SqL.of hsp13⟩, ?_⟩
        walk_at "vc"
        refine ⟨show 3 ≤ sizeLine by decide, fun u hu => ?_⟩
        walk_at "vc"
        refine x_append (by rw [upd_ne (ne_of_none hsp13 hu)]; exact hsp13) (by rw [hT13.len, List.length_map, List.length_take]; exact Nat.lt_of_le_of_lt (by omega : _ ≤ 100000) (by decide)) ?_
        have hpush := tup_push (f := triV) (p := turn (p1, p2, p3)) hsp sm13 hsp13 hT13 hu
        exact ⟨as ++ [u], _, _, _, _, _, _, rfl, hpush.1, k13.trans ((K1.of (same_upd hu)).trans K1.at), hpush.2.1, hpush.2.2⟩
      · rintro σ H13 ⟨as, y6, y7, y8, y10, y11, y12, rfl, sm13, k13, hsp13, hT13⟩
        rw [hT1.len, List.take_of_length_le (Nat.le_refl _)] at hT13
        walk_at "vc"
        refine ⟨ot, o, ps, g, l, 1, rfl, SqT.of (sm13 _ _ hpsA), by omega, by omega, by omega, by omega, by omega, by omega, fun D2 H14 as2 sm14 hD20 hD2 hT2 => ?_⟩
        walk_at "vc"
        have hT14 := hT13.same sm14
        refine ⟨Tri, sp, as, (rchA g l 1 o ot).map turn, triV, fun p => (triI p).map .int, rfl, SqL.of (sm14 _ _ hsp13), hT14, tri_dp, allAlike_ints triI _, fun p _ h => (nomatch h), fun p _ => Nat.le_trans (depth_tup_ints (triI p)) (by decide), fun D3 as3 hD3 hT3 => ?_⟩
        rw [dataLe_ints triI] at hT3
        have hup : ∀ {p q : Tri}, ¬ (triI q < triI p) → p ≠ q → (triI p < triI q) := fun {p q} h1 h2 => by
          obtain ⟨a1, b1, c1⟩ := p
          obtain ⟨a2, b2, c2⟩ := q
          unfold triI at h1 ⊢
          rw [lex3] at h1 ⊢
          have h3 : ¬ (a1 = a2 ∧ b1 = b2 ∧ c1 = c2) := fun e => h2 (by rw [e.1, e.2.1, e.2.2])
          simp only at h1 ⊢
          omega
        have hasym : ∀ x y : Tri, triI x < triI y → ¬ triI y < triI x := fun x y h1 h2 => by
          obtain ⟨a1, b1, c1⟩ := x
          obtain ⟨a2, b2, c2⟩ := y
          unfold triI at h1 h2
          rw [lex3] at h1 h2
          simp only at h1 h2
          omega
        have htl : ∀ {p q : Tri}, TLt p q → triI p < triI q := fun {p q} h => by
          obtain ⟨a1, b1, c1⟩ := p
          obtain ⟨a2, b2, c2⟩ := q
          unfold triI
          rw [lex3]
          unfold TLt at h
          simp only at h ⊢
          omega
        have hAlt := (rchN_lt g l 1 o ot (1 - (o.length : Int)) (nsh o ot)).1
        have hBlt := (rchN_lt g l 1 ot o (1 - (ot.length : Int)) (nsh ot o)).1
        have hnd : ((rchA g l 1 o ot).map turn).Nodup := by
          refine List.pairwise_map.mpr (hAlt.imp fun {p q} h e => ?_)
          have := turn_inj e
          subst this
          unfold TLt at h
          omega
        have heq : ((rchA g l 1 o ot).map turn).mergeSort (fun p q => !decide (triI q < triI p)) = rchA g l 1 ot o := by
          have s1 := PySem.W.sort_pairwise (le_total triI) ((rchA g l 1 o ot).map turn)
          have s2 : (((rchA g l 1 o ot).map turn).mergeSort fun p q => !decide (triI q < triI p)).Nodup := (List.mergeSort_perm _ _).nodup_iff.mpr hnd
          refine same_up hasym ((s1.and s2).imp fun {p q} h => hup (by simpa using h.1) h.2) (hBlt.imp htl) fun p => ?_
          rw [(List.mergeSort_perm _ _).mem_iff]
          exact (rchA_turn g l 1 o ot p).symm
        rw [heq] at hT3
        have smf : Same H14 (upd H14 D3 (.lst (as3.map V.ref))) := same_upd hD3
        refine ⟨_, _, dpA (smf _ _ hD2) (hT2.same smf), dpA upd_same (hT3.same smf), shaped_tris _, shaped_tris _, ?_⟩
        rw [eqv_tris]
        exact q _

end
theorem all_mk {l : PySem.W.OpenLaw} {w : World} {K : PySem.W.Frag} {h : Heap} {mg : Str → Option Value} {fa : Addr} (X : K.In h) (G : h.Ns mainGlobals mg) (hfa : mg "law" = some (.ref fa))
    {od0 an0 : Option Addr} {sl0 : Array (Option Value)} {oc0 kV0 dc0 pm0 cd0 ct0 : Value} {g0 : Addr} {od1 an1 : Option Addr} {sl1 : Array (Option Value)} {oc1 kV1 dc1 pm1 cd1 ct1 : Value} {g1 : Addr} {od2 an2 : Option Addr} {sl2 : Array (Option Value)} {oc2 kV2 dc2 pm2 cd2 ct2 : Value} {g2 : Addr} {od3 an3 : Option Addr} {sl3 : Array (Option Value)} {oc3 kV3 dc3 pm3 cd3 ct3 : Value} {g3 : Addr} {od4 an4 : Option Addr} {sl4 : Array (Option Value)} {oc4 kV4 dc4 pm4 cd4 ct4 : Value} {g4 : Addr} {od5 an5 : Option Addr} {sl5 : Array (Option Value)} {oc5 kV5 dc5 pm5 cd5 ct5 : Value} {g5 : Addr} {od6 an6 : Option Addr} {sl6 : Array (Option Value)} {oc6 kV6 dc6 pm6 cd6 ct6 : Value} {g6 : Addr} {od7 an7 : Option Addr} {sl7 : Array (Option Value)} {oc7 kV7 dc7 pm7 cd7 ct7 : Value} {g7 : Addr} {od8 an8 : Option Addr} {sl8 : Array (Option Value)} {oc8 kV8 dc8 pm8 cd8 ct8 : Value} {g8 : Addr} {od9 an9 : Option Addr} {sl9 : Array (Option Value)} {oc9 kV9 dc9 pm9 cd9 ct9 : Value} {g9 : Addr} {od10 an10 : Option Addr} {sl10 : Array (Option Value)} {oc10 kV10 dc10 pm10 cd10 ct10 : Value} {g10 : Addr} {od11 an11 : Option Addr} {sl11 : Array (Option Value)} {oc11 kV11 dc11 pm11 cd11 ct11 : Value} {g11 : Addr} {od12 an12 : Option Addr} {sl12 : Array (Option Value)} {oc12 kV12 dc12 pm12 cd12 ct12 : Value} {g12 : Addr} {od13 an13 : Option Addr} {sl13 : Array (Option Value)} {oc13 kV13 dc13 pm13 cd13 ct13 : Value} {g13 : Addr} {od14 an14 : Option Addr} {sl14 : Array (Option Value)} {oc14 kV14 dc14 pm14 cd14 ct14 : Value} {g14 : Addr} {od15 an15 : Option Addr} {sl15 : Array (Option Value)} {oc15 kV15 dc15 pm15 cd15 ct15 : Value} {g15 : Addr} {od16 an16 : Option Addr} {sl16 : Array (Option Value)} {oc16 kV16 dc16 pm16 cd16 ct16 : Value} {g16 : Addr} {od17 an17 : Option Addr} {sl17 : Array (Option Value)} {oc17 kV17 dc17 pm17 cd17 ct17 : Value} {g17 : Addr} {od18 an18 : Option Addr} {sl18 : Array (Option Value)} {oc18 kV18 dc18 pm18 cd18 ct18 : Value} {g18 : Addr} {od19 an19 : Option Addr} {sl19 : Array (Option Value)} {oc19 kV19 dc19 pm19 cd19 ct19 : Value} {g19 : Addr} {t_LIKE : Tok} {t_UNLIKE : Tok}
    (a0 : PySem.W.nsIn K mainGlobals "lane_begin" = some (some (.ref g0))) (l0 : K.lookup g0 = some ⟨oc0, od0, .func (PySem.W.fnOf "lane_begin" "lane_begin" (defArgs slane_begin) (defBody slane_begin) (defScope slane_begin) .none kV0 dc0 pm0 an0 cd0 ct0), sl0⟩) (c0 : PySem.W.codeIn K cd0 "lane_begin" = true) (k0 : PySem.W.keepIn K (.ref g0) = true) (a1 : PySem.W.nsIn K mainGlobals "likes_of" = some (some (.ref g1))) (l1 : K.lookup g1 = some ⟨oc1, od1, .func (PySem.W.fnOf "likes_of" "likes_of" (defArgs slikes_of) (defBody slikes_of) (defScope slikes_of) .none kV1 dc1 pm1 an1 cd1 ct1), sl1⟩) (c1 : PySem.W.codeIn K cd1 "likes_of" = true) (k1 : PySem.W.keepIn K (.ref g1) = true) (a2 : PySem.W.nsIn K mainGlobals "worth_of" = some (some (.ref g2))) (l2 : K.lookup g2 = some ⟨oc2, od2, .func (PySem.W.fnOf "worth_of" "worth_of" (defArgs sworth_of) (defBody sworth_of) (defScope sworth_of) .none kV2 dc2 pm2 an2 cd2 ct2), sl2⟩) (c2 : PySem.W.codeIn K cd2 "worth_of" = true) (k2 : PySem.W.keepIn K (.ref g2) = true) (a3 : PySem.W.nsIn K mainGlobals "_last_below" = some (some (.ref g3))) (l3 : K.lookup g3 = some ⟨oc3, od3, .func (PySem.W.fnOf "_last_below" "_last_below" (defArgs s_last_below) (defBody s_last_below) (defScope s_last_below) .none kV3 dc3 pm3 an3 cd3 ct3), sl3⟩) (c3 : PySem.W.codeIn K cd3 "_last_below" = true) (k3 : PySem.W.keepIn K (.ref g3) = true) (a4 : PySem.W.nsIn K mainGlobals "_join" = some (some (.ref g4))) (l4 : K.lookup g4 = some ⟨oc4, od4, .func (PySem.W.fnOf "_join" "_join" (defArgs s_join) (defBody s_join) (defScope s_join) .none kV4 dc4 pm4 an4 cd4 ct4), sl4⟩) (c4 : PySem.W.codeIn K cd4 "_join" = true) (k4 : PySem.W.keepIn K (.ref g4) = true) (a5 : PySem.W.nsIn K mainGlobals "ripe" = some (some (.ref g5))) (l5 : K.lookup g5 = some ⟨oc5, od5, .func (PySem.W.fnOf "ripe" "ripe" (defArgs sripe) (defBody sripe) (defScope sripe) .none kV5 dc5 pm5 an5 cd5 ct5), sl5⟩) (c5 : PySem.W.codeIn K cd5 "ripe" = true) (k5 : PySem.W.keepIn K (.ref g5) = true) (a6 : PySem.W.nsIn K mainGlobals "lane_reaches" = some (some (.ref g6))) (l6 : K.lookup g6 = some ⟨oc6, od6, .func (PySem.W.fnOf "lane_reaches" "lane_reaches" (defArgs slane_reaches) (defBody slane_reaches) (defScope slane_reaches) .none kV6 dc6 pm6 an6 cd6 ct6), sl6⟩) (c6 : PySem.W.codeIn K cd6 "lane_reaches" = true) (k6 : PySem.W.keepIn K (.ref g6) = true) (a7 : PySem.W.nsIn K mainGlobals "reaches" = some (some (.ref g7))) (l7 : K.lookup g7 = some ⟨oc7, od7, .func (PySem.W.fnOf "reaches" "reaches" (defArgs sreaches) (defBody sreaches) (defScope sreaches) .none kV7 dc7 pm7 an7 cd7 ct7), sl7⟩) (c7 : PySem.W.codeIn K cd7 "reaches" = true) (k7 : PySem.W.keepIn K (.ref g7) = true) (a8 : PySem.W.nsIn K mainGlobals "_law_next" = some (some (.ref g8))) (l8 : K.lookup g8 = some ⟨oc8, od8, .func (PySem.W.fnOf "_law_next" "_law_next" (defArgs s_law_next) (defBody s_law_next) (defScope s_law_next) .none kV8 dc8 pm8 an8 cd8 ct8), sl8⟩) (c8 : PySem.W.codeIn K cd8 "_law_next" = true) (k8 : PySem.W.keepIn K (.ref g8) = true) (a9 : PySem.W.nsIn K mainGlobals "_law_letters" = some (some (.ref g9))) (l9 : K.lookup g9 = some ⟨oc9, od9, .func (PySem.W.fnOf "_law_letters" "_law_letters" (defArgs s_law_letters) (defBody s_law_letters) (defScope s_law_letters) .none kV9 dc9 pm9 an9 cd9 ct9), sl9⟩) (c9 : PySem.W.codeIn K cd9 "_law_letters" = true) (k9 : PySem.W.keepIn K (.ref g9) = true) (a10 : PySem.W.nsIn K mainGlobals "_law_row" = some (some (.ref g10))) (l10 : K.lookup g10 = some ⟨oc10, od10, .func (PySem.W.fnOf "_law_row" "_law_row" (defArgs s_law_row) (defBody s_law_row) (defScope s_law_row) .none kV10 dc10 pm10 an10 cd10 ct10), sl10⟩) (c10 : PySem.W.codeIn K cd10 "_law_row" = true) (k10 : PySem.W.keepIn K (.ref g10) = true) (a11 : PySem.W.nsIn K mainGlobals "_law_near" = some (some (.ref g11))) (l11 : K.lookup g11 = some ⟨oc11, od11, .func (PySem.W.fnOf "_law_near" "_law_near" (defArgs s_law_near) (defBody s_law_near) (defScope s_law_near) .none kV11 dc11 pm11 an11 cd11 ct11), sl11⟩) (c11 : PySem.W.codeIn K cd11 "_law_near" = true) (k11 : PySem.W.keepIn K (.ref g11) = true) (a12 : PySem.W.nsIn K mainGlobals "_law_scale" = some (some (.ref g12))) (l12 : K.lookup g12 = some ⟨oc12, od12, .func (PySem.W.fnOf "_law_scale" "_law_scale" (defArgs s_law_scale) (defBody s_law_scale) (defScope s_law_scale) .none kV12 dc12 pm12 an12 cd12 ct12), sl12⟩) (c12 : PySem.W.codeIn K cd12 "_law_scale" = true) (k12 : PySem.W.keepIn K (.ref g12) = true) (a13 : PySem.W.nsIn K mainGlobals "_law_worth" = some (some (.ref g13))) (l13 : K.lookup g13 = some ⟨oc13, od13, .func (PySem.W.fnOf "_law_worth" "_law_worth" (defArgs s_law_worth) (defBody s_law_worth) (defScope s_law_worth) .none kV13 dc13 pm13 an13 cd13 ct13), sl13⟩) (c13 : PySem.W.codeIn K cd13 "_law_worth" = true) (k13 : PySem.W.keepIn K (.ref g13) = true) (a14 : PySem.W.nsIn K mainGlobals "_law_stands" = some (some (.ref g14))) (l14 : K.lookup g14 = some ⟨oc14, od14, .func (PySem.W.fnOf "_law_stands" "_law_stands" (defArgs s_law_stands) (defBody s_law_stands) (defScope s_law_stands) .none kV14 dc14 pm14 an14 cd14 ct14), sl14⟩) (c14 : PySem.W.codeIn K cd14 "_law_stands" = true) (k14 : PySem.W.keepIn K (.ref g14) = true) (a15 : PySem.W.nsIn K mainGlobals "_law_ripe" = some (some (.ref g15))) (l15 : K.lookup g15 = some ⟨oc15, od15, .func (PySem.W.fnOf "_law_ripe" "_law_ripe" (defArgs s_law_ripe) (defBody s_law_ripe) (defScope s_law_ripe) .none kV15 dc15 pm15 an15 cd15 ct15), sl15⟩) (c15 : PySem.W.codeIn K cd15 "_law_ripe" = true) (k15 : PySem.W.keepIn K (.ref g15) = true) (a16 : PySem.W.nsIn K mainGlobals "_law_lane" = some (some (.ref g16))) (l16 : K.lookup g16 = some ⟨oc16, od16, .func (PySem.W.fnOf "_law_lane" "_law_lane" (defArgs s_law_lane) (defBody s_law_lane) (defScope s_law_lane) .none kV16 dc16 pm16 an16 cd16 ct16), sl16⟩) (c16 : PySem.W.codeIn K cd16 "_law_lane" = true) (k16 : PySem.W.keepIn K (.ref g16) = true) (a17 : PySem.W.nsIn K mainGlobals "_law_reaches" = some (some (.ref g17))) (l17 : K.lookup g17 = some ⟨oc17, od17, .func (PySem.W.fnOf "_law_reaches" "_law_reaches" (defArgs s_law_reaches) (defBody s_law_reaches) (defScope s_law_reaches) .none kV17 dc17 pm17 an17 cd17 ct17), sl17⟩) (c17 : PySem.W.codeIn K cd17 "_law_reaches" = true) (k17 : PySem.W.keepIn K (.ref g17) = true) (a18 : PySem.W.nsIn K mainGlobals "_law_same" = some (some (.ref g18))) (l18 : K.lookup g18 = some ⟨oc18, od18, .func (PySem.W.fnOf "_law_same" "_law_same" (defArgs s_law_same) (defBody s_law_same) (defScope s_law_same) .none kV18 dc18 pm18 an18 cd18 ct18), sl18⟩) (c18 : PySem.W.codeIn K cd18 "_law_same" = true) (k18 : PySem.W.keepIn K (.ref g18) = true) (a19 : PySem.W.nsIn K mainGlobals "law" = some (some (.ref g19))) (l19 : K.lookup g19 = some ⟨oc19, od19, .func (PySem.W.fnOf "law" "law" (defArgs slaw) (defBody slaw) (defScope slaw) .none kV19 dc19 pm19 an19 cd19 ct19), sl19⟩) (c19 : PySem.W.codeIn K cd19 "law" = true) (k19 : PySem.W.keepIn K (.ref g19) = true) (z_max : PySem.W.nsIn K mainGlobals "max" = some none) (z_min : PySem.W.nsIn K mainGlobals "min" = some none) (z_len : PySem.W.nsIn K mainGlobals "len" = some none) (z_range : PySem.W.nsIn K mainGlobals "range" = some none) (z_enumerate : PySem.W.nsIn K mainGlobals "enumerate" = some none) (z_sorted : PySem.W.nsIn K mainGlobals "sorted" = some none) (z_int : PySem.W.nsIn K mainGlobals "int" = some none) (z_isinstance : PySem.W.nsIn K mainGlobals "isinstance" = some none) (z_str : PySem.W.nsIn K mainGlobals "str" = some none) (z_list : PySem.W.nsIn K mainGlobals "list" = some none) (z_tuple : PySem.W.nsIn K mainGlobals "tuple" = some none) (z_bool : PySem.W.nsIn K mainGlobals "bool" = some none) (y_LIKE : PySem.W.nsIn K mainGlobals "LIKE" = some (some (Value.str "=" t_LIKE))) (y_UNLIKE : PySem.W.nsIn K mainGlobals "UNLIKE" = some (some (Value.str "/" t_UNLIKE))) :
    ∃ fd : FuncData, (∀ (s : Shared) (v : Value), BindsTo s fd ⟨[v], []⟩ [("_law_script", v)]) ∧ ∀ base : Heap, K.In base → base.Ns mainGlobals mg → FnOk l.prog w K mg base CX0 13 fa fd ["_law_script"] (splaw K) := by
  have e := hfa.symm.trans (PySem.W.mg_of X G a19)
  cases e
  have F0 := fun_mk (st := slane_begin) l0 c0 k0
  have F1 := fun_mk (st := slikes_of) l1 c1 k1
  have F2 := fun_mk (st := sworth_of) l2 c2 k2
  have F3 := fun_mk (st := s_last_below) l3 c3 k3
  have F4 := fun_mk (st := s_join) l4 c4 k4
  have F5 := fun_mk (st := sripe) l5 c5 k5
  have F6 := fun_mk (st := slane_reaches) l6 c6 k6
  have F7 := fun_mk (st := sreaches) l7 c7 k7
  have F8 := fun_mk (st := s_law_next) l8 c8 k8
  have F9 := fun_mk (st := s_law_letters) l9 c9 k9
  have F10 := fun_mk (st := s_law_row) l10 c10 k10
  have F11 := fun_mk (st := s_law_near) l11 c11 k11
  have F12 := fun_mk (st := s_law_scale) l12 c12 k12
  have F13 := fun_mk (st := s_law_worth) l13 c13 k13
  have F14 := fun_mk (st := s_law_stands) l14 c14 k14
  have F15 := fun_mk (st := s_law_ripe) l15 c15 k15
  have F16 := fun_mk (st := s_law_lane) l16 c16 k16
  have F17 := fun_mk (st := s_law_reaches) l17 c17 k17
  have F18 := fun_mk (st := s_law_same) l18 c18 k18
  have F19 := fun_mk (st := slaw) l19 c19 k19
  have b0 := F0.binds (ps := ["shift"]) fun _ _ _ _ _ _ us hl => match us, hl with | [_], _ => rfl
  have b1 := F1.binds (ps := ["one", "other", "shift"]) fun _ _ _ _ _ _ us hl => match us, hl with | [_, _, _], _ => rfl
  have b2 := F2.binds (ps := ["likes", "scale"]) fun _ _ _ _ _ _ us hl => match us, hl with | [_, _], _ => rfl
  have b3 := F3.binds (ps := ["parts", "low"]) fun _ _ _ _ _ _ us hl => match us, hl with | [_, _], _ => rfl
  have b4 := F4.binds (ps := ["parts", "place", "low", "high"]) fun _ _ _ _ _ _ us hl => match us, hl with | [_, _, _, _], _ => rfl
  have b5 := F5.binds (ps := ["likes", "scale"]) fun _ _ _ _ _ _ us hl => match us, hl with | [_, _], _ => rfl
  have b6 := F6.binds (ps := ["one", "other", "shift", "scale", "told"]) fun _ _ _ _ _ _ us hl => match us, hl with | [_, _, _, _, _], _ => rfl
  have b7 := F7.binds (ps := ["one", "other", "scale", "told"]) fun _ _ _ _ _ _ us hl => match us, hl with | [_, _, _, _], _ => rfl
  have b8 := F8.binds (ps := ["_law_h", "_law_many"]) fun _ _ _ _ _ _ us hl => match us, hl with | [_, _], _ => rfl
  have b9 := F9.binds (ps := ["_law_h"]) fun _ _ _ _ _ _ us hl => match us, hl with | [_], _ => rfl
  have b10 := F10.binds (ps := ["_law_h", "_law_letters_here", "_law_most"]) fun _ _ _ _ _ _ us hl => match us, hl with | [_, _, _], _ => rfl
  have b11 := F11.binds (ps := ["_law_h", "_law_row_here", "_law_letters_here"]) fun _ _ _ _ _ _ us hl => match us, hl with | [_, _, _], _ => rfl
  have b12 := F12.binds (ps := ["_law_h"]) fun _ _ _ _ _ _ us hl => match us, hl with | [_], _ => rfl
  have b13 := F13.binds (ps := ["_law_likes", "_law_scale_here"]) fun _ _ _ _ _ _ us hl => match us, hl with | [_, _], _ => rfl
  have b14 := F14.binds (ps := ["_law_likes", "_law_scale_here"]) fun _ _ _ _ _ _ us hl => match us, hl with | [_, _], _ => rfl
  have b15 := F15.binds (ps := ["_law_likes", "_law_scale_here"]) fun _ _ _ _ _ _ us hl => match us, hl with | [_, _], _ => rfl
  have b16 := F16.binds (ps := ["_law_one", "_law_other", "_law_shift"]) fun _ _ _ _ _ _ us hl => match us, hl with | [_, _, _], _ => rfl
  have b17 := F17.binds (ps := ["_law_one", "_law_other", "_law_scale_here", "_law_told"]) fun _ _ _ _ _ _ us hl => match us, hl with | [_, _, _, _], _ => rfl
  have b18 := F18.binds (ps := ["_law_found", "_law_due"]) fun _ _ _ _ _ _ us hl => match us, hl with | [_, _], _ => rfl
  have B : Bl mg := ⟨PySem.W.mg_none_of X G z_max, PySem.W.mg_none_of X G z_min, PySem.W.mg_none_of X G z_len, PySem.W.mg_none_of X G z_range, PySem.W.mg_none_of X G z_enumerate, PySem.W.mg_none_of X G z_sorted, PySem.W.mg_none_of X G z_int, PySem.W.mg_none_of X G z_isinstance, PySem.W.mg_none_of X G z_str, PySem.W.mg_none_of X G z_list, PySem.W.mg_none_of X G z_tuple, PySem.W.mg_none_of X G z_bool⟩
  have C : Cs mg _ _ := ⟨⟨⟨_, rfl⟩, PySem.W.mg_of X G y_LIKE⟩, ⟨⟨_, rfl⟩, PySem.W.mg_of X G y_UNLIKE⟩⟩
  refine ⟨PySem.W.fnOf "law" "law" (defArgs slaw) (defBody slaw) (defScope slaw) .none kV19 dc19 pm19 an19 cd19 ct19, fun s v => .of_eq rfl, fun base _ _ => ?_⟩
  have Dlane_begin : Dn l.prog w K mg base "lane_begin" 1 ["shift"] (splane_begin K) g0 _ := ⟨oklane_begin F0 B, PySem.W.mg_of X G a0, F0.kp, b0⟩
  have Dlikes_of : Dn l.prog w K mg base "likes_of" 2 ["one", "other", "shift"] (splikes_of K) g1 _ := ⟨oklikes_of F1 B C Dlane_begin, PySem.W.mg_of X G a1, F1.kp, b1⟩
  have Dworth_of : Dn l.prog w K mg base "worth_of" 1 ["likes", "scale"] (spworth_of K) g2 _ := ⟨okworth_of F2 B C, PySem.W.mg_of X G a2, F2.kp, b2⟩
  have D_last_below : Dn l.prog w K mg base "_last_below" 1 ["parts", "low"] (sp_last_below K) g3 _ := ⟨ok_last_below F3 B, PySem.W.mg_of X G a3, F3.kp, b3⟩
  have D_join : Dn l.prog w K mg base "_join" 2 ["parts", "place", "low", "high"] (sp_join K) g4 _ := ⟨ok_join F4 B D_last_below, PySem.W.mg_of X G a4, F4.kp, b4⟩
  have Dripe : Dn l.prog w K mg base "ripe" 3 ["likes", "scale"] (spripe K) g5 _ := ⟨okripe F5 B C D_join, PySem.W.mg_of X G a5, F5.kp, b5⟩
  have Dlane_reaches : Dn l.prog w K mg base "lane_reaches" 4 ["one", "other", "shift", "scale", "told"] (splane_reaches K) g6 _ := ⟨oklane_reaches F6 B Dlikes_of Dlane_begin Dripe Dworth_of, PySem.W.mg_of X G a6, F6.kp, b6⟩
  have Dreaches : Dn l.prog w K mg base "reaches" 5 ["one", "other", "scale", "told"] (spreaches K) g7 _ := ⟨okreaches F7 B Dlane_reaches, PySem.W.mg_of X G a7, F7.kp, b7⟩
  have D_law_next : Dn l.prog w K mg base "_law_next" 1 ["_law_h", "_law_many"] (sp_law_next K) g8 _ := ⟨ok_law_next F8 B, PySem.W.mg_of X G a8, F8.kp, b8⟩
  have D_law_letters : Dn l.prog w K mg base "_law_letters" 2 ["_law_h"] (sp_law_letters K) g9 _ := ⟨ok_law_letters F9 B D_law_next, PySem.W.mg_of X G a9, F9.kp, b9⟩
  have D_law_row : Dn l.prog w K mg base "_law_row" 2 ["_law_h", "_law_letters_here", "_law_most"] (sp_law_row K) g10 _ := ⟨ok_law_row F10 B D_law_next, PySem.W.mg_of X G a10, F10.kp, b10⟩
  have D_law_near : Dn l.prog w K mg base "_law_near" 3 ["_law_h", "_law_row_here", "_law_letters_here"] (sp_law_near K) g11 _ := ⟨ok_law_near F11 B D_law_row D_law_next, PySem.W.mg_of X G a11, F11.kp, b11⟩
  have D_law_scale : Dn l.prog w K mg base "_law_scale" 2 ["_law_h"] (sp_law_scale K) g12 _ := ⟨ok_law_scale F12 B D_law_next, PySem.W.mg_of X G a12, F12.kp, b12⟩
  have D_law_worth : Dn l.prog w K mg base "_law_worth" 1 ["_law_likes", "_law_scale_here"] (sp_law_worth K) g13 _ := ⟨ok_law_worth F13 B, PySem.W.mg_of X G a13, F13.kp, b13⟩
  have D_law_stands : Dn l.prog w K mg base "_law_stands" 1 ["_law_likes", "_law_scale_here"] (sp_law_stands K) g14 _ := ⟨ok_law_stands F14 B, PySem.W.mg_of X G a14, F14.kp, b14⟩
  have D_law_ripe : Dn l.prog w K mg base "_law_ripe" 2 ["_law_likes", "_law_scale_here"] (sp_law_ripe K) g15 _ := ⟨ok_law_ripe F15 B D_law_stands, PySem.W.mg_of X G a15, F15.kp, b15⟩
  have D_law_lane : Dn l.prog w K mg base "_law_lane" 1 ["_law_one", "_law_other", "_law_shift"] (sp_law_lane K) g16 _ := ⟨ok_law_lane F16 B, PySem.W.mg_of X G a16, F16.kp, b16⟩
  have D_law_reaches : Dn l.prog w K mg base "_law_reaches" 3 ["_law_one", "_law_other", "_law_scale_here", "_law_told"] (sp_law_reaches K) g17 _ := ⟨ok_law_reaches F17 B D_law_lane D_law_ripe D_law_worth, PySem.W.mg_of X G a17, F17.kp, b17⟩
  have D_law_same : Dn l.prog w K mg base "_law_same" 12 ["_law_found", "_law_due"] (sp_law_same K) g18 _ := ⟨ok_law_same F18 B (PySem.W.mg_of X G a18) b18, PySem.W.mg_of X G a18, F18.kp, b18⟩
  exact oklaw F19 B D_law_letters D_law_scale D_law_row D_law_reaches D_law_next Dreaches D_law_same D_law_near
end Sr
open PySem PySem.W PyProof.Rows
set_option maxHeartbeats 0 in
theorem PySem.Challenge.cw_seedreach_k03_reaches_holds : PySem.Challenge.rw_seedreach_k03_reaches.Holds := by
  w_on; o_law; k_head; (case hw => w_witness2)
  k_fill
  refine L2.walk_of (l := PySem.Challenge.rw_seedreach_k03_reaches) (n := 63) (k := 13) (x := "_law_script") (CX := fun _ => L2.CX0) (sp := fun w => Sr.splaw _) rfl (by decide) rfl ⟨rfl, by decide, by decide⟩ (fun w h Y => PySem.W.kIn_of Y) ?F (fun _ _ a ns hl _ hS => ⟨a, ns, rfl, hS, hl, fun _ => rfl⟩) (fun _ _ _ _ _ h => h)
  case F =>
    intro w mg fa h KX G hmg
    refine' Sr.all_mk KX G hmg ?a0 ?l0 ?c0 ?k0 ?a1 ?l1 ?c1 ?k1 ?a2 ?l2 ?c2 ?k2 ?a3 ?l3 ?c3 ?k3 ?a4 ?l4 ?c4 ?k4 ?a5 ?l5 ?c5 ?k5 ?a6 ?l6 ?c6 ?k6 ?a7 ?l7 ?c7 ?k7 ?a8 ?l8 ?c8 ?k8 ?a9 ?l9 ?c9 ?k9 ?a10 ?l10 ?c10 ?k10 ?a11 ?l11 ?c11 ?k11 ?a12 ?l12 ?c12 ?k12 ?a13 ?l13 ?c13 ?k13 ?a14 ?l14 ?c14 ?k14 ?a15 ?l15 ?c15 ?k15 ?a16 ?l16 ?c16 ?k16 ?a17 ?l17 ?c17 ?k17 ?a18 ?l18 ?c18 ?k18 ?a19 ?l19 ?c19 ?k19 ?z_max ?z_min ?z_len ?z_range ?z_enumerate ?z_sorted ?z_int ?z_isinstance ?z_str ?z_list ?z_tuple ?z_bool ?y_LIKE ?y_UNLIKE
    (case a0 => k_is)
    (case l0 => k_is)
    (case c0 => k_is)
    (case k0 => k_is)
    (case a1 => k_is)
    (case l1 => k_is)
    (case c1 => k_is)
    (case k1 => k_is)
    (case a2 => k_is)
    (case l2 => k_is)
    (case c2 => k_is)
    (case k2 => k_is)
    (case a3 => k_is)
    (case l3 => k_is)
    (case c3 => k_is)
    (case k3 => k_is)
    (case a4 => k_is)
    (case l4 => k_is)
    (case c4 => k_is)
    (case k4 => k_is)
    (case a5 => k_is)
    (case l5 => k_is)
    (case c5 => k_is)
    (case k5 => k_is)
    (case a6 => k_is)
    (case l6 => k_is)
    (case c6 => k_is)
    (case k6 => k_is)
    (case a7 => k_is)
    (case l7 => k_is)
    (case c7 => k_is)
    (case k7 => k_is)
    (case a8 => k_is)
    (case l8 => k_is)
    (case c8 => k_is)
    (case k8 => k_is)
    (case a9 => k_is)
    (case l9 => k_is)
    (case c9 => k_is)
    (case k9 => k_is)
    (case a10 => k_is)
    (case l10 => k_is)
    (case c10 => k_is)
    (case k10 => k_is)
    (case a11 => k_is)
    (case l11 => k_is)
    (case c11 => k_is)
    (case k11 => k_is)
    (case a12 => k_is)
    (case l12 => k_is)
    (case c12 => k_is)
    (case k12 => k_is)
    (case a13 => k_is)
    (case l13 => k_is)
    (case c13 => k_is)
    (case k13 => k_is)
    (case a14 => k_is)
    (case l14 => k_is)
    (case c14 => k_is)
    (case k14 => k_is)
    (case a15 => k_is)
    (case l15 => k_is)
    (case c15 => k_is)
    (case k15 => k_is)
    (case a16 => k_is)
    (case l16 => k_is)
    (case c16 => k_is)
    (case k16 => k_is)
    (case a17 => k_is)
    (case l17 => k_is)
    (case c17 => k_is)
    (case k17 => k_is)
    (case a18 => k_is)
    (case l18 => k_is)
    (case c18 => k_is)
    (case k18 => k_is)
    (case a19 => k_is)
    (case l19 => k_is)
    (case c19 => k_is)
    (case k19 => k_is)
    (case z_max => k_is)
    (case z_min => k_is)
    (case z_len => k_is)
    (case z_range => k_is)
    (case z_enumerate => k_is)
    (case z_sorted => k_is)
    (case z_int => k_is)
    (case z_isinstance => k_is)
    (case z_str => k_is)
    (case z_list => k_is)
    (case z_tuple => k_is)
    (case z_bool => k_is)
    (case y_LIKE => k_is)
    (case y_UNLIKE => k_is)
