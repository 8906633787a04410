import PyProof.Rows.All
import Wide.All
import OpenK.AllK
import Wide.FinOn
import HandS.ForMost
import HandS.IsInst
import HandS.Walk
import HandS.Style
import HandS.Flow
import PySem.Challenge.RW_seedreach_k05_where_seeds_fit
set_option Elab.async false
set_option linter.all false
set_option maxRecDepth 100000
set_option maxHeartbeats 4000000
namespace L2
open PySem PySem.Spec PyProof.Rows
/-! ### readings, one step a lemma -/
section
variable {σ : St} {H : Hp} {Q : VK} {i j : Int} {n : Nat} {v : V} {ta tb tc te : TE} {K : PySem.W.Frag} {a p : Addr} {xs ys : List V} {z z' : Str}
theorem x_var (h : σ[n]? = some (some v)) (q : Q v H) : tVar n σ H Q := ⟨v, h, q⟩
theorem x_c (q : Q v H) : tC v σ H Q := q
theorem x_op {r : R2} (q : ta σ H fun x H1 => tb σ H1 fun y H2 => r x y H2 Q) : tOp r ta tb σ H Q := q
theorem x_un {r : V → Hp → VK → Prop} (q : ta σ H fun x H1 => r x H1 Q) : tUn r ta σ H Q := q
theorem x_rI {C : Int → Int → Prop} {g : Int → Int → V} (h : C i j) (q : Q (g i j) H) : rI C g (.int i) (.int j) H Q := ⟨i, j, rfl, rfl, h, q⟩
theorem x_rI0 {g : Int → Int → V} (q : Q (g i j) H) : rI0 g (.int i) (.int j) H Q := ⟨i, j, rfl, rfl, q⟩
theorem x_rU {g : Int → V} (q : Q (g i) H) : rU g (.int i) H Q := ⟨i, rfl, q⟩
theorem x_rEq {x y : V} (h : scal x y = true) (q : Q (.bl (decide (x = y))) H) : rEq x y H Q := ⟨h, q⟩
theorem x_rNe {x y : V} (h : scal x y = true) (q : Q (.bl (!decide (x = y))) H) : rNe x y H Q := ⟨h, q⟩
theorem x_test {t : TE} {R : Bool → Hp → Prop} (q : t σ H fun x H' => ∃ k, x = .bl k ∧ R k H') : tTest t σ H R := q
theorem x_b {t : TE} {R : Bool → Hp → Prop} (q : t σ H fun x H' => ∃ k, x = .bl k ∧ R k H') : tB t σ H R := q
theorem x_bl {b : Bool} {R : Bool → Prop} (q : R b) : ∃ k, V.bl b = V.bl k ∧ R k := ⟨b, rfl, q⟩
theorem x_ifE {t : TT} (q : t σ H fun c H1 => if c = true then ta σ H1 Q else tb σ H1 Q) : tIf t ta tb σ H Q := q
theorem x_ifS {t : TT} {u1 u2 : TS} {D : Ends} (q : t σ H fun c H1 => if c = true then u1 D σ H1 else u2 D σ H1) : tIfS t u1 u2 D σ H := q
theorem x_and {t u : TT} {R : Bool → Hp → Prop} (q : t σ H fun c H1 => if c = true then u σ H1 R else R false H1) : tAnd t u σ H R := q
theorem x_or {t u : TT} {R : Bool → Hp → Prop} (q : t σ H fun c H1 => if c = true then R true H1 else u σ H1 R) : tOr t u σ H R := q
theorem x_not {t : TT} {R : Bool → Hp → Prop} (q : t σ H fun c H1 => R (!c) H1) : tNot t σ H R := q
theorem x_notV (q : ta σ H fun x H1 => ∃ c, x = .bl c ∧ Q (.bl (!c)) H1) : tNotV ta σ H Q := q
theorem x_andV (q : ta σ H fun x H1 => ∃ c, x = .bl c ∧ if c = true then tb σ H1 Q else Q (.bl false) H1) : tAndV ta tb σ H Q := q
theorem x_orV (q : ta σ H fun x H1 => ∃ c, x = .bl c ∧ if c = true then Q (.bl true) H1 else tb σ H1 Q) : tOrV ta tb σ H Q := q
theorem x_cons {tr : TA} {R : List V → Hp → Prop} (q : ta σ H fun x H1 => tr σ H1 fun xs H2 => R (x :: xs) H2) : tCons ta tr σ H R := q
theorem x_nil {R : List V → Hp → Prop} (q : R [] H) : tNil σ H R := q
theorem x_tup {t : TA} (q : t σ H fun xs H1 => xs.length ≤ sizeLine ∧ ∀ p, H1 p = none → Q (.ref p) (upd H1 p (.tup xs))) : tTup t σ H Q := q
theorem x_lst {t : TA} (q : t σ H fun xs H1 => xs.length ≤ sizeLine ∧ ∀ p, H1 p = none → Q (.ref p) (upd H1 p (.lst xs))) : tLst t σ H Q := q
theorem x_cb {r : List V → Hp → VK → Prop} {t : TA} (q : t σ H fun vs H1 => r vs H1 Q) : tCB r t σ H Q := q
theorem x_call {sp : Sp} {dvs : List V} {E : XK} {t : TA} (q : t σ H fun vs H1 => sp (vs ++ dvs) H1 Q E) : tCall sp dvs E t σ H Q := q
theorem x_ixL (h : SqL K H p xs) (e : atI xs i = some v) (q : Q v H) : rIxL K (.ref p) (.int i) H Q := ⟨p, xs, i, v, rfl, rfl, h, e, q⟩
theorem x_ixT (h : SqT K H p xs) (e : atI xs i = some v) (q : Q v H) : rIxT K (.ref p) (.int i) H Q := ⟨p, xs, i, v, rfl, rfl, h, e, q⟩
theorem x_ixS {c : Nat} (h : z.length ≤ sizeLine) (e : atI z.cps.toList i = some c) (q : Q (.str ⟨#[c]⟩) H) : rIxS (.str z) (.int i) H Q := ⟨z, i, c, rfl, rfl, h, e, q⟩
theorem x_lenL {R : List V → Prop} (h : SqL K H p ys ∨ SqT K H p ys) (q : R ys) : ∃ (p' : Addr) (ys : List V), [V.ref p] = [V.ref p'] ∧ (SqL K H p' ys ∨ SqT K H p' ys) ∧ R ys := ⟨p, ys, rfl, h, q⟩
theorem x_lenS {R : Str → Prop} (h : z.length ≤ sizeLine) (q : R z) : ∃ z', [V.str z] = [V.str z'] ∧ z'.length ≤ sizeLine ∧ R z' := ⟨z, rfl, h, q⟩
theorem x_two {R : Int → Int → Prop} (q : R i j) : ∃ i' j', [V.int i, V.int j] = [V.int i', V.int j'] ∧ R i' j' := ⟨i, j, rfl, q⟩
theorem x_intB {R : Int → Prop} {S : Bool → Prop} {k : Bool} (q : S k) : (∃ i, [V.bl k] = [V.int i] ∧ R i) ∨ ∃ k', [V.bl k] = [V.bl k'] ∧ S k' := .inr ⟨k, rfl, q⟩
theorem x_addS {R : Str → Str → Prop} (h : z.length + z'.length ≤ sizeLine) (q : R z z') : ∃ i j, V.str z = V.str i ∧ V.str z' = V.str j ∧ i.length + j.length ≤ sizeLine ∧ R i j := ⟨z, z', rfl, rfl, h, q⟩
theorem x_chain {r r' : R2} (q : ta σ H fun x H1 => tb σ H1 fun y H2 => r x y H2 fun z H3 => ∃ k, z = .bl k ∧ if k = true then tc σ H3 fun w H4 => r' y w H4 Q else Q (.bl false) H3) : tChain r r' ta tb tc σ H Q := q
theorem x_seq {t u : TS} {D : Ends} (q : t { D with nx := u D } σ H) : tSeq t u D σ H := q
theorem x_next {D : Ends} (q : D.nx σ H) : tNext D σ H := q
theorem x_asg {g : TG} {D : Ends} (q : te σ H fun x H1 => g x σ H1 D.nx) : tAsg te g D σ H := q
theorem x_name {R : St → Hp → Prop} (q : R (σ.set n (some v)) H) : gName n v σ H R := q
theorem x_drop {D : Ends} (q : te σ H fun _ H1 => D.nx σ H1) : tDrop te D σ H := q
theorem x_ret {D : Ends} (q : te σ H D.rt) : tRet te D σ H := q
theorem x_gTup {t : TGs} {R : St → Hp → Prop} (h : SqT K H a xs) (hl : xs.length = n) (q : t xs σ H R) : gTup K n t (.ref a) σ H R := ⟨a, xs, rfl, h, hl, q⟩
theorem x_gCons {t : TG} {u : TGs} {vs : List V} {R : St → Hp → Prop} (q : t v σ H fun σ' H' => u vs σ' H' R) : gCons t u (v :: vs) σ H R := ⟨v, vs, rfl, q⟩
theorem x_gNil {R : St → Hp → Prop} (q : R σ H) : gNil [] σ H R := ⟨rfl, q⟩
theorem x_gSub {to ti : TE} {t : TSet} {R : St → Hp → Prop} (q : to σ H fun o H1 => ti σ H1 fun i H2 => t o i v H2 fun H3 => R σ H3) : gSub to ti t v σ H R := q
theorem x_setL {k : Nat} {R : Hp → Prop} (h : H p = some (.lst xs)) (e : ixN xs.length i = some k) (q : R (upd H p (.lst (xs.set k v)))) : rSetL (.ref p) (.int i) v H R := ⟨p, xs, i, k, rfl, rfl, h, e, q⟩
theorem x_bm {T : String} {r : V → List V → Hp → VK → Prop} {to : TE} {t : TA} (q : to σ H fun x H1 => tyV K T x H1 ∧ t σ H1 fun xs H2 => r x xs H2 Q) : tBM K T r to t σ H Q := q
theorem x_m1 {r : V → List V → Hp → VK → Prop} {to : TE} (q : to σ H fun x H1 => (∃ a, x = .str a) ∧ te σ H1 fun y H2 => r x [y] H2 Q) : tM1 r to te σ H Q := q
theorem x_m1s {R : Prop} (q : R) : (∃ a, V.str z = V.str a) ∧ R := ⟨⟨z, rfl⟩, q⟩
theorem x_sl {r : V → Option Int → Option Int → Hp → VK → Prop} {tl th : TO} (q : te σ H fun x H1 => tl σ H1 fun l H2 => th σ H2 fun u H3 => r x l u H3 Q) : tSl r te tl th σ H Q := q
theorem x_noPart {R : Option Int → Hp → Prop} (q : R none H) : tNoPart σ H R := q
theorem x_part {R : Option Int → Hp → Prop} (q : te σ H fun x H1 => ∃ i, x = .int i ∧ R (some i) H1) : tPart te σ H R := q
theorem x_parti {R : Int → Prop} (q : R i) : ∃ i', V.int i = V.int i' ∧ R i' := ⟨i, rfl, q⟩
theorem x_slS {lo hi : Option Int} (h : z.length ≤ sizeLine) (q : Q (.str (cutS z lo hi)) H) : rSlS (.str z) lo hi H Q := ⟨z, rfl, h, q⟩
theorem x_rng1 {t : TA} {R : It → Hp → Prop} (q : t σ H fun vs H1 => ∃ j : Int, vs = [.int j] ∧ -(2 ^ 62) ≤ j ∧ j < 2 ^ 62 ∧ R (Itr 0 j.toNat) H1) : iRng1 t σ H R := q
theorem x_rng1i {R : Int → Prop} (h1 : -(2 ^ 62) ≤ i) (h2 : i < 2 ^ 62) (q : R i) : ∃ j : Int, [V.int i] = [V.int j] ∧ -(2 ^ 62) ≤ j ∧ j < 2 ^ 62 ∧ R j := ⟨i, rfl, h1, h2, q⟩
theorem x_rng2 {t : TA} {R : It → Hp → Prop} (q : t σ H fun vs H1 => ∃ i j : Int, vs = [.int i, .int j] ∧ (-(2 ^ 62) ≤ i ∧ i < 2 ^ 62 ∧ -(2 ^ 62) ≤ j ∧ j < 2 ^ 62) ∧ R (Itr i (j - i).toNat) H1) : iRng2 t σ H R := q
theorem x_rng2i {R : Int → Int → Prop} (h : -(2 ^ 62) ≤ i ∧ i < 2 ^ 62 ∧ -(2 ^ 62) ≤ j ∧ j < 2 ^ 62) (q : R i j) : ∃ i' j' : Int, [V.int i, V.int j] = [V.int i', V.int j'] ∧ (-(2 ^ 62) ≤ i' ∧ i' < 2 ^ 62 ∧ -(2 ^ 62) ≤ j' ∧ j' < 2 ^ 62) ∧ R i' j' := ⟨i, j, rfl, h, q⟩
theorem x_lcR {g : TG} {tt : TT} {vs : List Nat} {wi : TI} (q : wi σ H fun J H1 => ∀ D, H1 D = none → ∃ W : Nat → Nat → Hp → Prop, (∃ m, W 0 m (upd H1 D (.lst []))) ∧ ∀ i m H, W i m H →
  (J.stop i H ∧ Q (.ref D) H) ∨ (J.go i H ∧ ∃ Nx : Hp → Prop, (∀ H', Nx H' → ∃ m', m' < m ∧ W (i + 1) m' H') ∧ ∀ x H', J.yld i H x H' → g x (wipe σ vs) H' fun σ2 H2 => wipe σ2 vs = wipe σ vs ∧ tt σ2 H2 fun b H3 =>
    if b = true then te σ2 H3 fun y H4 => ∃ acc, H4 D = some (.lst acc) ∧ acc.length < sizeLine ∧ Nx (upd H4 D (.lst (acc ++ [y]))) else Nx H3)) : tLc wi g tt te vs σ H Q := q
theorem x_yes {R : Bool → Hp → Prop} (q : R true H) : tYes σ H R := q
theorem x_iList {R : It → Hp → Prop} {tl : TE} (q : tl σ H fun x H1 => ∃ a, x = .ref a ∧ (∃ xs, SqL K H1 a xs) ∧ R (Itl K a) H1) : iList K tl σ H R := q
theorem x_iListi {R : Addr → Prop} (h : SqL K H a xs) (q : R a) : ∃ a', V.ref a = V.ref a' ∧ (∃ xs, SqL K H a' xs) ∧ R a' := ⟨a, rfl, ⟨xs, h⟩, q⟩
theorem x_iStr {R : It → Hp → Prop} (q : te σ H fun v H1 => ∃ x, v = .str x ∧ R (Its x) H1) : iStr te σ H R := q
theorem x_iStri {R : Str → Prop} (q : R z) : ∃ z', V.str z = V.str z' ∧ R z' := ⟨z, rfl, q⟩
theorem x_for {wi : TI} {g : TG} {tb : TS} {D : Ends} (q : wi σ H fun J H1 => ∃ W : Nat → Nat → St → Hp → Prop, (∃ m, W 0 m σ H1) ∧ ∀ i m σ H, W i m σ H →
    ((J.stop i H ∧ D.nx σ H) ∨ (J.go i H ∧ ∃ N : St → Hp → Prop, (∀ σ' H', N σ' H' → ∃ m', m' < m ∧ W (i + 1) m' σ' H') ∧ ∀ x H', J.yld i H x H' → g x σ H' fun σ2 H2 => tb { D with nx := N, ct := N, bk := D.nx } σ2 H2))) : tFor wi g tb D σ H := q
theorem x_append (h : H p = some (.lst xs)) (hl : xs.length < sizeLine) (q : Q .non (upd H p (.lst (xs ++ [v])))) : rAppend (.ref p) [v] H Q := ⟨p, xs, v, rfl, rfl, h, hl, q⟩
theorem x_s1 {R : Str → Str → Prop} (q : R z z') : ∃ a b, V.str z = V.str a ∧ [V.str z'] = [V.str b] ∧ R a b := ⟨z, z', rfl, rfl, q⟩
theorem x_aug {te : TE} {ti : TIp} {D : Ends} {x : V} (h : σ[n]? = some (some x)) (q : te σ H fun y H1 => ti x y H1 fun z H2 => D.nx (σ.set n (some z)) H2) : tAug n te ti D σ H := ⟨x, h, q⟩
theorem x_ipI {f : Int → Int → Int} (q : Q (.int (f i j)) H) : ipI f (.int i) (.int j) H Q := ⟨i, j, rfl, rfl, q⟩
theorem x_enumS {R : Str → Prop} (q : R z) : ∃ x, [V.str z] = [V.str x] ∧ R x := ⟨z, rfl, q⟩
theorem x_par {k : Nat} {t : TA} {D : Ends} (q : t σ H fun vs H1 => ∃ v w, vs = [v, w] ∧ D.nx ((σ.set n (some v)).set k (some w)) H1) : tPar n k t D σ H := q
theorem x_parv {R : V → V → Prop} {v' : V} (q : R v v') : ∃ x y, [v, v'] = [x, y] ∧ R x y := ⟨v, v', rfl, q⟩
theorem x_rIntB {R : Int → Prop} {S : Bool → Prop} (q : R i) : (∃ j, [V.int i] = [V.int j] ∧ R j) ∨ ∃ k, [V.int i] = [V.bl k] ∧ S k := .inl ⟨i, rfl, q⟩
theorem x_join {ys : List Str} {R : Str → List Str → Prop} (h : SqL K H p (ys.map V.str)) (hl : (ys.map (·.length)).sum + ys.length * z.length ≤ 16777216) (q : R z ys) :
    ∃ a p', ∃ ys : List Str, V.str z = V.str a ∧ [V.ref p] = [V.ref p'] ∧ (SqL K H p' (ys.map V.str) ∨ SqT K H p' (ys.map V.str)) ∧ (ys.map (·.length)).sum + ys.length * a.length ≤ 16777216 ∧ R a ys := ⟨z, p, ys, rfl, rfl, .inl h, hl, q⟩
end
theorem x_cutE {te : TE} {σ : St} {H : Hp} {Q : VK} (P : V → Hp → Prop) (h1 : ∀ Q' : VK, (∀ v H', P v H' → Q' v H') → te σ H Q') (h2 : ∀ v H', P v H' → Q v H') : te σ H Q := h1 Q h2
theorem x_cutS {t : TS} {D : Ends} {σ : St} {H : Hp} (P : St → Hp → Prop) (h1 : ∀ nx : St → Hp → Prop, (∀ σ' H', P σ' H' → nx σ' H') → t { D with nx := nx } σ H) (h2 : ∀ σ' H', P σ' H' → D.nx σ' H') : t D σ H := h1 D.nx h2
theorem x_iteNT {A B : Prop} (q : B) : if (!true) = true then A else B := q
theorem x_iteNF {A B : Prop} (q : A) : if (!false) = true then A else B := q
theorem hp_sz {n : Nat} (h : n ≤ 1000000) : n ≤ sizeLine := Nat.le_trans h (by decide)
end L2

namespace Sr
open PySem PySem.Spec PyProof.Rows L2
/-! ### the source of draws: a list [s, cells, i] at a, its cells at b -/
def Src (H : Hp) (a b : Addr) : Prop := a ≠ b ∧ ∃ (s i : Int) (cs : List Int), H a = some (.lst [.int s, .ref b, .int i]) ∧ H b = some (.lst (cs.map V.int)) ∧ cs.length ≤ 63
/-- all that is tracked but the source stands as it was -/
def Kp (a b : Addr) (H H' : Hp) : Prop := ∀ p o, p ≠ a → p ≠ b → H p = some o → H' p = some o
theorem Kp.refl {a b : Addr} (H : Hp) : Kp a b H H := fun _ _ _ _ h => h
theorem Kp.trans {a b : Addr} {H H1 H2 : Hp} (x : Kp a b H H1) (y : Kp a b H1 H2) : Kp a b H H2 := fun p o h1 h2 h => y p o h1 h2 (x p o h1 h2 h)
theorem Kp.of {a b : Addr} {H H' : Hp} (x : Same H H') : Kp a b H H' := fun p o _ _ h => x p o h
theorem Kp.new {a b p : Addr} {H : Hp} {o : HO} (h : H p = none) : Kp a b H (upd H p o) := fun q u _ _ e => by
  rw [upd_ne (ne_of_none e h)]
  exact e
theorem Kp.at_a {a b : Addr} {H : Hp} {o : HO} : Kp a b H (upd H a o) := fun q u n _ e => by
  rw [upd_ne n]
  exact e
theorem Kp.at_b {a b : Addr} {H : Hp} {o : HO} : Kp a b H (upd H b o) := fun q u _ n e => by
  rw [upd_ne n]
  exact e
theorem Src.new {a b p : Addr} {H : Hp} {o : HO} (x : Src H a b) (h : H p = none) : Src (upd H p o) a b := by
  obtain ⟨n, s, i, cs, h1, h2, h3⟩ := x
  exact ⟨n, s, i, cs, by rw [upd_ne (ne_of_none h1 h)]; exact h1, by rw [upd_ne (ne_of_none h2 h)]; exact h2, h3⟩
/-- an object that is no list of ints and no list that begins so stands apart -/
theorem same_upd {H : Hp} {p : Addr} {o : HO} (h : H p = none) : Same H (upd H p o) := fun b x e => by
  rw [upd_ne (ne_of_none e h)]
  exact e
theorem Src_same {a b : Addr} {H H' : Hp} (x : Src H a b) (e : Same H H') : Src H' a b := by
  obtain ⟨n, s, i, cs, h1, h2, h3⟩ := x
  exact ⟨n, s, i, cs, e _ _ h1, e _ _ h2, h3⟩
theorem atI_of {α : Type} {xs : List α} {i : Int} {v : α} (h0 : 0 ≤ i) (h : xs[i.toNat]? = some v) : atI xs i = some v := by
  have e : i = ((i.toNat : Nat) : Int) := by omega
  rw [e]
  exact atI_nat h
theorem ixN_of {n : Nat} {i : Int} (h0 : 0 ≤ i) (h : i < n) : ixN n i = some i.toNat := by
  unfold ixN
  rw [if_pos h0, if_pos h]
theorem eqv_ints_nil : ∀ cs : List Int, PyData.eqv (.list (cs.map PyData.int)) (.list []) = cs.isEmpty
  | [] => by decide +kernel
  | c :: cs => by
    show PyData.eqv (.list (PyData.int c :: cs.map PyData.int)) (.list []) = false
    simp [PyData.eqv, PyData.eqvAll]
theorem dp_ints {K : PySem.W.Frag} {H : Hp} : ∀ cs : List Int, DpAll K H (cs.map V.int) (cs.map PyData.int)
  | [] => .nil
  | c :: cs => .cons (.int c) (dp_ints cs)
theorem lay_ints : ∀ cs : List Int, PyData.canLayAll0 (cs.map PyData.int) = true
  | [] => by simp [PyData.canLayAll0]
  | c :: cs => by
    have h := lay_ints cs
    simp [PyData.canLayAll0, PyData.canLay0] at h ⊢
    exact h
theorem depth_ints : ∀ cs : List Int, PyData.depthAll (cs.map PyData.int) ≤ 1
  | [] => by simp [PyData.depthAll]
  | c :: cs => by
    have h := depth_ints cs
    simp [PyData.depthAll, PyData.depth] at h ⊢
    omega
theorem shaped_ints (cs : List Int) : SeqAt.shaped (.list (cs.map PyData.int)) = true := by
  unfold SeqAt.shaped
  rw [Bool.and_eq_true]
  refine ⟨lay_ints cs, decide_eq_true ?_⟩
  have h := depth_ints cs
  simp only [PyData.depth]
  omega
theorem ints_at {cs : List Int} {j : Nat} (h : j < cs.length) : (cs.map V.int)[j]? = some (.int cs[j]) := by
  rw [List.getElem?_map, List.getElem?_eq_getElem h]
  rfl
theorem map_set_int (cs : List Int) (j : Nat) (x : Int) : (cs.map V.int).set j (.int x) = (cs.set j x).map V.int := by
  rw [List.map_set]
end Sr

namespace Sr
open PySem PySem.Spec PyProof.Rows L2
open TL (tl)
/-! ### texts by their codes -/
/-- the text of these codes -/
def S (l : List Nat) : Str := ⟨l.toArray⟩
theorem tl_S (l : List Nat) : tl (S l) = l := rfl
theorem S_tl (z : Str) : S (tl z) = z := TL.mk_tl z
theorem S_inj {l m : List Nat} (h : S l = S m) : l = m := congrArg tl h
theorem len_S (l : List Nat) : (S l).length = l.length := by rw [TL.len_tl, tl_S]
theorem S_app (l m : List Nat) : S l ++ S m = S (l ++ m) := TL.ext_tl (by rw [TL.tl_append, tl_S, tl_S, tl_S])
def sg (c : Nat) : Str := ⟨#[c]⟩
theorem sg_S (c : Nat) : sg c = S [c] := rfl
theorem joinL_nil : ∀ ps : List (List Nat), TL.joinL [] ps = ps.flatten
  | [] => rfl
  | [p] => by simp [TL.joinL]
  | p :: q :: r => by
    show p ++ ([] ++ TL.joinL [] (q :: r)) = _
    rw [joinL_nil (q :: r)]
    simp
theorem join_signs (cs : List Nat) : Txt.join "" (cs.map sg) = S cs := by
  refine TL.ext_tl ?_
  rw [TL.join_eq, TL.tl_join, show tl ("" : Str) = [] from rfl, joinL_nil, tl_S, List.map_map]
  induction cs with
  | nil => rfl
  | cons c cs ih =>
    rw [List.map_cons, List.flatten_cons, ih]
    rfl
theorem signs_len (cs : List Nat) : ((cs.map sg).map (·.length)).sum + (cs.map sg).length * ("" : Str).length = cs.length := by
  rw [show ("" : Str).length = 0 from rfl, Nat.mul_zero, Nat.add_zero]
  induction cs with
  | nil => rfl
  | cons c cs ih =>
    rw [List.map_cons, List.map_cons, List.sum_cons, ih, List.length_cons]
    show 1 + cs.length = _
    omega
theorem spl_len (c : Nat) : ∀ (l acc : List Nat), (TL.spl [c] 0 acc l).length = l.count c + 1
  | [], acc => by simp [TL.spl]
  | d :: r, acc => by
    have e : TL.spl [c] 0 acc (d :: r) = if TL.pre [c] (d :: r) = true then acc :: TL.spl [c] 0 [] r else TL.spl [c] 0 (acc ++ [d]) r := rfl
    rw [e]
    by_cases h : d = c
    · subst h
      rw [if_pos (by simp [TL.pre]), List.length_cons, spl_len d r [], List.count_cons_self]
    · have hp : ¬ TL.pre [c] (d :: r) = true := by simp [TL.pre, h]
      rw [if_neg hp, spl_len c r _, List.count_cons_of_ne h]
theorem parts_len (x : Str) (n : Nat) : ∀ (cuts : List Nat) (a : Nat), (StrLaws.partsFrom x n a cuts).length = cuts.length + 1
  | [], _ => rfl
  | c :: r, a => by
    show (_ :: StrLaws.partsFrom x n (c + n) r).length = _
    rw [List.length_cons, parts_len x n r, List.length_cons]
theorem count_sign (z : Str) (c : Nat) : Txt.count z (sg c) = (((tl z).count c : Nat) : Int) := by
  have hy : tl (sg c) ≠ [] := by
    show [c] ≠ []
    simp
  obtain ⟨f, g, hn⟩ := StrLaws.occ_tight z (sg c) (by show 1 ≤ 1; exact Nat.le_refl _)
  have key := congrArg List.length (TL.parts_spl hy _ 0 f (Nat.zero_le _) g hn)
  rw [List.length_map, parts_len, List.drop_zero, show tl (sg c) = [c] from rfl, spl_len] at key
  show ((Builtin.Str.occurrences z (sg c) 0 z.length (z.length + 1)).length : Int) = _
  omega
/-- the worth of likes -/
def wor (g l : Int) : List Nat → Int
  | [] => 0
  | c :: r => (if c = 61 then g else -l) + wor g l r
theorem wor_app (g l : Int) : ∀ a b, wor g l (a ++ b) = wor g l a + wor g l b
  | [], b => by simp [wor]
  | c :: a, b => by
    show (if c = 61 then g else -l) + wor g l (a ++ b) = (if c = 61 then g else -l) + wor g l a + wor g l b
    rw [wor_app g l a b]
    omega
theorem wor_take (g l : Int) {z : List Nat} {i : Nat} (h : i < z.length) : wor g l (z.take (i + 1)) = wor g l (z.take i) + (if z[i] = 61 then g else -l) := by
  rw [List.take_succ_eq_append_getElem h, wor_app]
  show _ + ((if z[i] = 61 then g else -l) + 0) = _
  omega
/-- likes: a text of 61 and 47 alone -/
def Lk (z : List Nat) : Prop := ∀ c ∈ z, c = 61 ∨ c = 47
theorem wor_count (g l : Int) : ∀ {z : List Nat}, Lk z → g * ((z.count 61 : Nat) : Int) - l * ((z.count 47 : Nat) : Int) = wor g l z
  | [], _ => by simp [wor]
  | c :: r, h => by
    have ih := wor_count g l (z := r) fun d hd => h d (List.mem_cons_of_mem _ hd)
    show _ = (if c = 61 then g else -l) + wor g l r
    rcases h c (List.mem_cons_self ..) with e | e
    · subst e
      rw [List.count_cons_self, List.count_cons_of_ne (by decide), if_pos rfl, ← ih, Int.natCast_add, Int.mul_add]
      simp
      omega
    · subst e
      rw [List.count_cons_self, List.count_cons_of_ne (by decide), if_neg (by decide), ← ih, Int.natCast_add, Int.mul_add]
      simp
      omega
/-- the places of a lane -/
def onl (n : Nat) (d : Int) (p : Nat) : Bool := decide (0 ≤ (p : Int) + d) && decide ((p : Int) + d < (n : Int))
def plc (m n : Nat) (d : Int) : List Nat := (List.range m).filter (onl n d)
def bgn (d : Int) : Nat := (-d).toNat
def lkn (m n : Nat) (d : Int) : Nat := (min (m : Int) ((n : Int) - d) - (bgn d : Int)).toNat
theorem plc_eq (n : Nat) (d : Int) : ∀ m, plc m n d = (List.range (lkn m n d)).map (bgn d + ·)
  | 0 => by
    have h : lkn 0 n d = 0 := by unfold lkn bgn; omega
    rw [h]
    rfl
  | m + 1 => by
    have ih := plc_eq n d m
    unfold plc at ih ⊢
    rw [List.range_succ, List.filter_append, ih]
    by_cases h : onl n d m = true
    · have h' : 0 ≤ (m : Int) + d ∧ (m : Int) + d < n := by
        unfold onl at h
        simpa using h
      have e : lkn (m + 1) n d = lkn m n d + 1 := by unfold lkn bgn; omega
      have e2 : m = bgn d + lkn m n d := by unfold lkn bgn; omega
      rw [e, List.range_succ, List.map_append, List.filter_cons, if_pos h]
      show _ ++ [m] = _ ++ [bgn d + lkn m n d]
      rw [← e2]
    · have h' : ¬ (0 ≤ (m : Int) + d ∧ (m : Int) + d < n) := by
        unfold onl at h
        simpa using h
      have e : lkn (m + 1) n d = lkn m n d := by unfold lkn bgn; omega
      rw [e, List.filter_cons, if_neg h]
      simp
/-- the like at a place -/
def lk1 (o t : List Nat) (d : Int) (p : Nat) : Nat := if o[p]? = t[((p : Int) + d).toNat]? then 61 else 47
def likL (o t : List Nat) (d : Int) : List Nat := (plc o.length t.length d).map (lk1 o t d)
theorem likL_Lk (o t : List Nat) (d : Int) : Lk (likL o t d) := fun c h => by
  obtain ⟨p, _, rfl⟩ := List.mem_map.mp h
  unfold lk1
  split
  · exact .inl rfl
  · exact .inr rfl
theorem plc_len (m n : Nat) (d : Int) : (plc m n d).length = lkn m n d := by
  rw [plc_eq, List.length_map, List.length_range]
theorem likL_len (o t : List Nat) (d : Int) : (likL o t d).length = lkn o.length t.length d := by
  unfold likL
  rw [List.length_map, plc_len]
theorem lkn_le (m n : Nat) (d : Int) : lkn m n d ≤ m := by unfold lkn bgn; omega
theorem likL_le (o t : List Nat) (d : Int) : (likL o t d).length ≤ o.length := by rw [likL_len]; exact lkn_le _ _ _
theorem likL_eq (o t : List Nat) (d : Int) : likL o t d = (List.range (lkn o.length t.length d)).map fun i => lk1 o t d (bgn d + i) := by
  unfold likL
  rw [plc_eq, List.map_map]
  rfl
/-- the drawn letters -/
def letL (t n : Nat) : List Nat := (List.range n).map fun k => 97 + (t + 7 * k) % 26
theorem letL_len (t n : Nat) : (letL t n).length = n := by unfold letL; rw [List.length_map, List.length_range]
theorem pv_step {H2 H : Hp} {D : Addr} {f : Nat → V} {i : Nat} {y : V} (hn : H2 D = none) (sm : Same H2 H) (hD : H D = some (.lst ((List.range i).map f))) (hi : i ≤ 1000000) (hy : y = f i) :
    ∃ acc, H D = some (.lst acc) ∧ acc.length < sizeLine ∧ (Same H2 (upd H D (.lst (acc ++ [y]))) ∧ upd H D (.lst (acc ++ [y])) D = some (.lst ((List.range (i + 1)).map f))) := by
  refine ⟨_, hD, ?_, fun b o e => ?_, ?_⟩
  · rw [List.length_map, List.length_range]
    exact Nat.lt_of_le_of_lt hi (by decide)
  · rw [upd_ne (ne_of_none e hn)]
    exact sm b o e
  · rw [upd_same, hy, List.range_succ, List.map_append]
    rfl
theorem lst_map_signs (cs : List Nat) : (cs.map sg).map V.str = cs.map fun c => V.str (sg c) := by rw [List.map_map]; rfl
/-- the end of ''.join of signs -/
theorem join_end {K : PySem.W.Frag} {H : Hp} {p : Addr} {cs : List Nat} {Q : VK} (h : H p = some (.lst (cs.map fun c => V.str (sg c)))) (hl : cs.length ≤ 1000000) (q : Q (.str (S cs)) H) :
    ∃ a p', ∃ ys : List Str, V.str (Str.ofString "") = V.str a ∧ [V.ref p] = [V.ref p'] ∧ (SqL K H p' (ys.map V.str) ∨ SqT K H p' (ys.map V.str)) ∧ (ys.map (·.length)).sum + ys.length * a.length ≤ 16777216 ∧ Q (V.str (Txt.join a ys)) H := by
  refine ⟨_, p, cs.map sg, rfl, rfl, .inl (SqL.of ?_), ?_, ?_⟩
  · rw [lst_map_signs]
    exact h
  · have e := signs_len cs
    show ((cs.map sg).map (·.length)).sum + (cs.map sg).length * ("" : Str).length ≤ 16777216
    rw [e]
    omega
  · have e := join_signs cs
    show Q (V.str (Txt.join "" (cs.map sg))) H
    rw [e]
    exact q
/-- what a comprehension of drawn signs keeps -/
def Dr (a b : Addr) (H0 : Hp) (D : Addr) (ok : Nat → Prop) (i : Nat) (H : Hp) : Prop := ∃ cs : List Nat, cs.length = i ∧ (∀ c ∈ cs, ok c) ∧ Src H a b ∧ Kp a b H0 H ∧ H D = some (.lst (cs.map fun c => V.str (sg c)))
theorem Dr.start {a b : Addr} {H0 : Hp} {D : Addr} {ok : Nat → Prop} (hs : Src H0 a b) (hn : H0 D = none) : Dr a b H0 D ok 0 (upd H0 D (.lst [])) :=
  ⟨[], rfl, (fun c h => nomatch h), hs.new hn, Kp.new hn, upd_same⟩
theorem Src.ne_a {a b D : Addr} {H : Hp} (h : Src H a b) (hn : H D = none) : D ≠ a := by
  obtain ⟨_, _, _, _, h1, _⟩ := h
  exact (ne_of_none h1 hn).symm
theorem Src.ne_b {a b D : Addr} {H : Hp} (h : Src H a b) (hn : H D = none) : D ≠ b := by
  obtain ⟨_, _, _, _, _, h1, _⟩ := h
  exact (ne_of_none h1 hn).symm
theorem Src.upd {a b D : Addr} {H : Hp} {o : HO} (h : Src H a b) (na : D ≠ a) (nb : D ≠ b) : Src (upd H D o) a b := by
  obtain ⟨n, s, i, cs, h1, h2, h3⟩ := h
  exact ⟨n, s, i, cs, by rw [upd_ne na.symm]; exact h1, by rw [upd_ne nb.symm]; exact h2, h3⟩
/-- a turn: the element drew in between (H to H'), then its sign is appended -/
theorem Dr.step {a b : Addr} {H0 H H' : Hp} {D : Addr} {ok : Nat → Prop} {i c : Nat} (hn : H0 D = none) (hs0 : Src H0 a b) (h : Dr a b H0 D ok i H) (hi : i ≤ 1000000) (hs : Src H' a b) (k : Kp a b H H') (hc : ok c) :
    ∃ acc, H' D = some (.lst acc) ∧ acc.length < sizeLine ∧ Dr a b H0 D ok (i + 1) (L2.upd H' D (.lst (acc ++ [V.str (sg c)]))) := by
  obtain ⟨cs, hl, hok, _, k0, hD⟩ := h
  have na := hs0.ne_a hn
  have nb := hs0.ne_b hn
  refine ⟨_, k D _ na nb hD, ?_, cs ++ [c], ?_, ?_, hs.upd na nb, fun p o h1 h2 e => ?_, ?_⟩
  · rw [List.length_map, hl]
    exact Nat.lt_of_le_of_lt hi (by decide)
  · rw [List.length_append, hl]
    rfl
  · intro d hd
    rcases List.mem_append.mp hd with h1 | h1
    · exact hok d h1
    · rw [List.mem_singleton.mp h1]
      exact hc
  · rw [upd_ne (ne_of_none e hn)]
    exact k p o h1 h2 (k0 p o h1 h2 e)
  · rw [upd_same, List.map_append]
    rfl
end Sr
namespace Sr
open PySem PySem.Spec PyProof.Rows L2
/-! ### data that the law compares -/
inductive Gd : PyData → Prop where
  | int (i : Int) : Gd (.int i)
  | str (x : Str) : Gd (.str x)
  | bl (b : Bool) : Gd (.bool b)
  | lst (ds : List PyData) (hl : ds.length ≤ 100000) (h : ∀ d ∈ ds, Gd d) : Gd (.list ds)
  | tup (ds : List PyData) (hl : ds.length ≤ 100000) (h : ∀ d ∈ ds, Gd d) : Gd (.tuple ds)
theorem SqT_same {K : PySem.W.Frag} {H H' : Hp} {a : Addr} {xs : List V} (e : Same H H') (h : SqT K H a xs) : SqT K H' a xs := by
  rcases h with (h | ⟨o, h⟩) | h
  · exact .inl (.inl (e _ _ h))
  · exact .inl (.inr ⟨o, e _ _ h⟩)
  · exact .inr h
section
variable {K : PySem.W.Frag} {H H' : Hp}
mutual
theorem Dp_same (e : Same H H') : ∀ (d : PyData) (v : V), Dp K H v d → Dp K H' v d
  | .none, _, h => by cases h; exact .non
  | .bool b, _, h => by cases h; exact .bl b
  | .int i, _, h => by cases h; exact .int i
  | .str x, _, h => by cases h; exact .str x
  | .list ds, _, h => by
    cases h with
    | lst hs ha => exact .lst (e.seq hs) (DpAll_same e ds _ ha)
  | .tuple ds, _, h => by
    cases h with
    | tup hs ha => exact .tup (SqT_same e hs) (DpAll_same e ds _ ha)
  | .dict _, _, h => by cases h
theorem DpAll_same (e : Same H H') : ∀ (ds : List PyData) (vs : List V), DpAll K H vs ds → DpAll K H' vs ds
  | [], _, h => by cases h; exact .nil
  | d :: ds, _, h => by
    cases h with
    | cons h1 h2 => exact .cons (Dp_same e d _ h1) (DpAll_same e ds _ h2)
end
theorem DpAll_len : ∀ {ds : List PyData} {vs : List V}, DpAll K H vs ds → vs.length = ds.length
  | [], _, h => by cases h; rfl
  | d :: ds, _, h => by
    cases h with
    | cons h1 h2 => rw [List.length_cons, List.length_cons, DpAll_len h2]
theorem DpAll_get : ∀ {ds : List PyData} {vs : List V} (i : Nat), DpAll K H vs ds → i < ds.length → ∃ v d, vs[i]? = some v ∧ ds[i]? = some d ∧ Dp K H v d
  | [], _, i, h, hi => by simp at hi
  | d :: ds, _, 0, h, hi => by
    cases h with
    | cons h1 h2 => exact ⟨_, _, rfl, rfl, h1⟩
  | d :: ds, _, i + 1, h, hi => by
    cases h with
    | cons h1 h2 =>
      obtain ⟨v, d', e1, e2, h3⟩ := DpAll_get i h2 (by simpa using hi)
      exact ⟨v, d', e1, e2, h3⟩
def tname : PyData → String
  | .none => "NoneType"
  | .bool _ => "bool"
  | .int _ => "int"
  | .str _ => "str"
  | .list _ => "list"
  | .tuple _ => "tuple"
  | .dict _ => "dict"
theorem dp_ty {v : V} {d : PyData} (h : Dp K H v d) : TyX K H v (.type (tname d)) := by
  cases h with
  | non => exact .base .non
  | bl b => exact .base (.bl b)
  | int i => exact .base (.int i)
  | str x => exact .base (.str x)
  | lst hs _ =>
    rcases hs with (h | ⟨o, h⟩) | ⟨o, its, n, h1, h2, _⟩
    · exact .base (.lst h)
    · exact .base (.frz h)
    · exact .kList h1 h2
  | tup hs _ =>
    rcases hs with (h | ⟨o, h⟩) | ⟨o, its, n, h1, h2, _⟩
    · exact .base (.tup h)
    · exact .fTuple h
    · exact .kTuple h1 h2
theorem kit_lt {tn : String} {b1 b2 : Bool} (h1 : PySem.W.kitOne K (.type tn) (.type "list") = some b1) (h2 : PySem.W.kitOne K (.type tn) (.type "tuple") = some b2) :
    PySem.W.kitAny K (.type tn) [.type "list", .type "tuple"] = some (b1 || b2) :=
  kitAny_cons h1 (fun e => kitAny_cons h2 (fun e2 => by rw [e, e2]; exact kitAny_nil) fun e2 => by rw [e2, Bool.or_true]) fun e => by rw [e, Bool.true_or]
/-- a def that is never called where its promise asks the impossible -/
theorem fn_never {P : Program} {w : World} {mg : Str → Option Value} {base : Heap} {CX : CXT} {k : Nat} {f : Addr} {fd : FuncData} {ps : List Str} {sp : Sp} (h : ∀ vs H Q E, ¬ sp vs H Q E) : FnOk P w K mg base CX k f fd ps sp :=
  ⟨fun vs H Q E z => (h vs H Q E z).elim, fun _ _ _ _ _ _ _ _ _ _ _ _ _ z => (h _ _ _ _ z).elim⟩
theorem x_ixQ {p : Addr} {xs : List V} {i : Int} {v : V} {Q : VK} (h : SqL K H p xs ∨ SqT K H p xs) (e : atI xs i = some v) (q : Q v H) : rIx K (.ref p) (.int i) H Q := by
  rcases h with h | h
  · exact .inl ⟨p, xs, i, v, rfl, rfl, h, e, q⟩
  · exact .inr (.inl ⟨p, xs, i, v, rfl, rfl, h, e, q⟩)
theorem x_isi {x : V} {n tn : String} {b : Bool} {Q : VK} (ht : TyX K H x (.type tn)) (k : PySem.W.kitOne K (.type tn) (.type n) = some b) (q : Q (.bl b) H) : rIsi K [x, .ty n] H Q :=
  ⟨x, .ty n, _, _, b, rfl, .ty n, ht, k, q⟩
theorem x_isiLT {x : V} {tn : String} {p : Addr} {b : Bool} {Q : VK} (hp : H p = some (.tup [.ty "list", .ty "tuple"])) (ht : TyX K H x (.type tn)) (k : PySem.W.kitAny K (.type tn) [.type "list", .type "tuple"] = some b) (q : Q (.bl b) H) : rIsiT K [x, .ref p] H Q :=
  ⟨x, p, _, _, _, b, rfl, hp, .cons (.ty _) (.cons (.ty _) .nil), ht, k, q⟩
theorem TyX_same (e : Same H H') {v : V} {d : PyData} (h : Dp K H v d) : TyX K H' v (.type (tname d)) := dp_ty (Dp_same e d v h)
theorem depth_mem : ∀ {ds : List PyData} {d : PyData}, d ∈ ds → d.depth ≤ PyData.depthAll ds
  | x :: xs, d, h => by
    simp only [PyData.depthAll]
    rcases List.mem_cons.mp h with e | e
    · subst e
      exact Nat.le_max_left _ _
    · exact Nat.le_trans (depth_mem e) (Nat.le_max_right _ _)
end
end Sr
namespace Sr
open PySem PySem.Spec PyProof.Rows L2
theorem cutS_take (z : List Nat) (k : Nat) : cutS (S z) none (some (k : Int)) = S (z.take k) := by
  unfold cutS
  have e0 : HT.sIx (S z).length 0 none = 0 := rfl
  have e1 : HT.sIx (S z).length (S z).length (some (k : Int)) = min k (S z).length := HT.sIx_nat _ _ _
  rw [e0, e1, List.drop_zero, Nat.sub_zero, len_S]
  show S (z.take (min k z.length)) = _
  congr 1
  by_cases h : k ≤ z.length
  · rw [Nat.min_eq_left h]
  · rw [Nat.min_eq_right (by omega), List.take_of_length_le (Nat.le_refl _), List.take_of_length_le (by omega)]
theorem cutS_drop (z : List Nat) (k : Nat) : cutS (S z) (some (k : Int)) none = S (z.drop k) := by
  unfold cutS
  have e0 : HT.sIx (S z).length 0 (some (k : Int)) = min k (S z).length := HT.sIx_nat _ _ _
  have e1 : HT.sIx (S z).length (S z).length none = (S z).length := rfl
  rw [e0, e1, len_S]
  show S ((z.drop (min k z.length)).take (z.length - min k z.length)) = _
  congr 1
  by_cases h : k ≤ z.length
  · rw [Nat.min_eq_left h]
    exact List.take_of_length_le (by rw [List.length_drop]; exact Nat.le_refl _)
  · rw [Nat.min_eq_right (by omega), List.drop_eq_nil_of_le (Nat.le_refl _), List.drop_eq_nil_of_le (by omega)]
    simp
theorem cutS_cut (z : List Nat) (i j : Nat) (h : j ≤ z.length) : cutS (S z) (some (i : Int)) (some (j : Int)) = S ((z.drop i).take (j - i)) := by
  unfold cutS
  have e0 : HT.sIx (S z).length 0 (some (i : Int)) = min i (S z).length := HT.sIx_nat _ _ _
  have e1 : HT.sIx (S z).length (S z).length (some (j : Int)) = min j (S z).length := HT.sIx_nat _ _ _
  rw [e0, e1, len_S, Nat.min_eq_left h]
  show S ((z.drop (min i z.length)).take (j - min i z.length)) = _
  congr 1
  by_cases h2 : i ≤ z.length
  · rw [Nat.min_eq_left h2]
  · rw [Nat.min_eq_right (by omega), List.drop_eq_nil_of_le (Nat.le_refl _), List.drop_eq_nil_of_le (by omega)]
    simp
end Sr
namespace Sr
open PySem PySem.Spec PyProof.Rows L2
theorem seq_view {K : PySem.W.Frag} {H : Hp} {x y : V} {d : PyData} (hx : Dp K H x d) (hy : Dp K H y d) (g : Gd d) :
    (∃ i, x = .int i ∧ y = .int i ∧ tname d = "int") ∨ (∃ z, x = .str z ∧ y = .str z ∧ tname d = "str") ∨ (∃ b, x = .bl b ∧ y = .bl b ∧ tname d = "bool") ∨
    ∃ (ds : List PyData) (px py : Addr) (xs ys : List V) (b1 b2 : Bool), x = .ref px ∧ y = .ref py ∧ (SqL K H px xs ∨ SqT K H px xs) ∧ (SqL K H py ys ∨ SqT K H py ys) ∧ DpAll K H xs ds ∧ DpAll K H ys ds ∧ ds.length ≤ 100000 ∧ (∀ d ∈ ds, Gd d) ∧
      d.depth = PyData.depthAll ds + 1 ∧ PySem.W.kitOne K (.type (tname d)) (.type "list") = some b1 ∧ PySem.W.kitOne K (.type (tname d)) (.type "tuple") = some b2 ∧ (b1 || b2) = true := by
  cases g with
  | int i =>
    cases hx
    cases hy
    exact .inl ⟨i, rfl, rfl, rfl⟩
  | str z =>
    cases hx
    cases hy
    exact .inr (.inl ⟨z, rfl, rfl, rfl⟩)
  | bl b =>
    cases hx
    cases hy
    exact .inr (.inr (.inl ⟨b, rfl, rfl, rfl⟩))
  | lst ds hl h =>
    cases hx with
    | lst h1 h2 =>
      cases hy with
      | lst h3 h4 => exact .inr (.inr (.inr ⟨ds, _, _, _, _, true, false, rfl, rfl, .inl h1, .inl h3, h2, h4, hl, h, by simp only [PyData.depth], kit_ty (a := "list") (by decide +kernel), kit_ty (a := "list") (by decide +kernel), rfl⟩))
  | tup ds hl h =>
    cases hx with
    | tup h1 h2 =>
      cases hy with
      | tup h3 h4 => exact .inr (.inr (.inr ⟨ds, _, _, _, _, false, true, rfl, rfl, .inr h1, .inr h3, h2, h4, hl, h, by simp only [PyData.depth], kit_ty (a := "tuple") (by decide +kernel), kit_ty (a := "tuple") (by decide +kernel), rfl⟩))
theorem Sq_same {K : PySem.W.Frag} {H H' : Hp} {a : Addr} {xs : List V} (e : Same H H') (h : SqL K H a xs ∨ SqT K H a xs) : SqL K H' a xs ∨ SqT K H' a xs := h.elim (fun h => .inl (e.seq h)) fun h => .inr (SqT_same e h)
end Sr

namespace L2
open PySem PySem.Spec PyProof.Rows
/-! ### del xs[a:], by the model's own list.__delitem__ -/
section
variable {prog : Program} {w : World} {A : Around} {E : Value → Shared → Prop} {s : Shared}
theorem cut_zip {p : Nat → Bool} {a : Nat} : ∀ (l : List Value) (i : Nat), (∀ k, i ≤ k → k < i + l.length → p k = decide (a ≤ k)) → (l.zipIdx i).filterMap (fun (x, k) => if p k then none else some x) = l.take (a - i)
  | [], i, _ => by simp
  | x :: l, i, h => by
    rw [List.zipIdx_cons, List.filterMap_cons]
    have ih := cut_zip (p := p) (a := a) l (i + 1) fun k h1 h2 => h k (by omega) (by rw [List.length_cons]; omega)
    have h0 := h i (Nat.le_refl _) (by rw [List.length_cons]; omega)
    by_cases hai : a ≤ i
    · rw [decide_eq_true hai] at h0
      simp only [h0, if_true]
      rw [ih, show a - (i + 1) = 0 by omega, show a - i = 0 by omega]
      simp
    · rw [decide_eq_false hai] at h0
      simp only [h0, Bool.false_eq_true, if_false]
      rw [ih, show a - i = (a - (i + 1)) + 1 by omega, List.take_succ_cons]
theorem bounds_from {a n : Nat} (h : a ≤ n) : sliceBounds (some (a : Int)) none none n = ((a : Int), (n : Int), 1) := by
  simp only [sliceBounds, Option.getD_none]
  have h1 : ¬ ((a : Int) < 0) := by omega
  simp only [h1, if_false, show (1 : Int) > 0 by decide, if_true]
  congr 1
  omega
set_option maxRecDepth 100000 in
theorem delItem_from {l sl : Addr} {items : Array Value} {n : Nat} {vl : Value} {a : Nat} {Q : Unit → Shared → Prop}
    (e : s.heap.get? l = some { cls := .type "list", data := .seq items n }) (hs : s.heap.IsSliceOf sl vl .none .none) (pl : IsPart vl (some (a : Int))) (ha : a ≤ items.size)
    (hsz : items.size ≤ sizeLine) (h : ∀ f : Array Value → Array Value, f items = (items.toList.take a).toArray → Q () { s with heap := s.heap.update l (Obj.mapSeq f) }) :
    wpAny (model prog w) A (delItem (.ref l) (.ref sl)) Q E s := by
  have hl : s.heap.IsList l items := PySem.IsL.isList e
  obtain ⟨os, hos, hcs, hds⟩ := id hs
  have hTs : s.TypeIs (.ref sl) "slice" := ⟨os, hos, hcs⟩
  have hstep : ¬ ((rawPart none == rawInt 0) = true) := Bool.false_ne_true
  refine wpAny_delItem_slot hl.typeIs (by decide) F.slot_list_delitem (wpAny_call_entry F.slot_list_delitem hl.typeIs F.entry_list_delitem ?_ (F.args_list_delitem_2 _ _))
  show wpAny _ _ (Builtin.List.listSubscript? (.ref sl) >>= _) _ _ s
  refine wpAny_bind ?_
  unfold Builtin.List.listSubscript?
  refine wpAny_bind (wpAny_specialOf hTs slice_no_index ?_)
  simp only [Option.isNone_none, if_true]
  refine wpAny_pure ?_
  show wpAny _ _ (typeOf (.ref sl) >>= _) _ _ s
  refine wpAny_bind (wpAny_typeOf hTs ?_)
  rw [if_neg (by decide)]
  rw [listSliceParts_eq]
  refine wpAny_bind (wpAny_bind (wpAny_field hos hds (x := .none) rfl (wpAny_bind (wpAny_listPart .none ?_))))
  rw [if_neg hstep]
  refine wpAny_bind (wpAny_field hos hds (x := vl) rfl (wpAny_bind (wpAny_listPart pl ?_)))
  refine wpAny_bind (wpAny_field hos hds (x := .none) rfl (wpAny_bind (wpAny_listPart .none (wpAny_pure ?_))))
  unfold Builtin.List.listItems
  refine wpAny_bind (wpAny_bind (wpAny_seqItems e rfl (wpAny_pure ?_)))
  refine wpAny_bind (wpAny_of_eq ((sliceIndices_raw (some (a : Int)) none none items.size (by simp)).trans (congrArg (pure : Int × Int × Int → Sem (Int × Int × Int)) (bounds_from ha))) ?_)
  refine wpAny_bind (wpAny_rule ?_)
  have key : ∀ (p : Nat → Bool) (f : Array Value → Array Value), (∀ k, k < items.size → p k = decide (a ≤ k)) → (∀ xs, f xs = (xs.toList.zipIdx.filterMap fun (x, k) => if p k then none else some x).toArray) → f items = (items.toList.take a).toArray := fun p f hp hf => by
    rw [hf, cut_zip (a := a) items.toList 0 fun k _ h2 => hp k (by simpa using h2)]
    rfl
  have sz : ∀ f : Array Value → Array Value, f items = (items.toList.take a).toArray → (f items).size ≤ sizeLine + 1 := fun f hf => by
    rw [hf, List.size_toArray, List.length_take, Array.length_toList]
    omega
  have pk : ∀ k, k < items.size → (if (1 : Int) > 0 then decide ((a : Int) ≤ (k : Int)) && decide ((k : Int) < (items.size : Int)) && (((k : Int) - (a : Int)) % 1 == 0) else decide ((items.size : Int) < (k : Int)) && decide ((k : Int) ≤ (a : Int)) && (((a : Int) - (k : Int)) % (-1) == 0)) = decide (a ≤ k) := fun k hk => by
    rw [if_pos (by decide), Int.emod_one, decide_eq_true (show (k : Int) < (items.size : Int) by omega), Bool.and_true]
    simp
  have fk : (fun xs : Array Value => (xs.toList.zipIdx.filterMap fun (x, k) => if (if (1 : Int) > 0 then decide ((a : Int) ≤ (k : Int)) && decide ((k : Int) < (items.size : Int)) && (((k : Int) - (a : Int)) % 1 == 0) else decide ((items.size : Int) < (k : Int)) && decide ((k : Int) ≤ (a : Int)) && (((a : Int) - (k : Int)) % (-1) == 0)) then none else some x).toArray) items = (items.toList.take a).toArray := key (fun k : Nat => (if (1 : Int) > 0 then decide ((a : Int) ≤ (k : Int)) && decide ((k : Int) < (items.size : Int)) && (((k : Int) - (a : Int)) % 1 == 0) else decide ((items.size : Int) < (k : Int)) && decide ((k : Int) ≤ (a : Int)) && (((a : Int) - (k : Int)) % (-1) == 0))) _ pk (fun xs => rfl)
  generalize hf0 : (fun xs : Array Value => (xs.toList.zipIdx.filterMap fun (x, k) => if (if (1 : Int) > 0 then decide ((a : Int) ≤ (k : Int)) && decide ((k : Int) < (items.size : Int)) && (((k : Int) - (a : Int)) % 1 == 0) else decide ((items.size : Int) < (k : Int)) && decide ((k : Int) ≤ (a : Int)) && (((a : Int) - (k : Int)) % (-1) == 0)) then none else some x).toArray) = f0 at fk
  refine wpAny_bind (wpAny_updateSeq (hz := hsz) (_hz' := by have z := sz f0 fk; subst hf0; exact z) e rfl ?_)
  refine wpAny_bind (wpAny_letGo ?_)
  exact wpAny_pure ⟨.none, rfl, by have z := h f0 fk; subst hf0; exact z⟩
end
end L2
namespace L2
open PySem PySem.Spec PyProof.Rows
section
variable {X : Cx}
/-- del xs[a:] -/
def tDelFrom (to tl : TE) : TS := fun D σ H => to σ H fun x H1 => tl σ H1 fun y H2 => ∃ (l : Addr) (xs : List V) (a : Nat), x = .ref l ∧ y = .int (a : Nat) ∧ H2 l = some (.lst xs) ∧ a ≤ xs.length ∧ D.nx σ (upd H2 l (.lst (xs.take a)))
theorem ps_delFrom {o lo : Expr} {to tl : TE} {tpos p2 pos : Pos} (ho : PE X o to) (hl : PE X lo tl) : PS X (.Delete [.Subscript o (.Slice (some lo) none none p2) tpos] pos) (tDelFrom to tl) := by
  refine ⟨fun pins s σ H D I h => ?_⟩
  refine wpAny_Delete (wpAny_deleteEach_cons (wpAny_delete_Subscript (thn (ho.run pins s σ H _ I h) fun u s1 ⟨x, H1, I1, rx, q1⟩ => ?_)))
  refine wpAny_Slice ?_
  rw [evalPart_some, evalPart_none]
  refine thn (hl.run pins s1 σ H1 _ I1 q1) fun vl s2 ⟨y, H2, I2, ry, q2⟩ => ?_
  refine wpAny_pure ?_
  refine wpAny_pure ?_
  obtain ⟨l, xs, a, ex, ey, hH, ha, q⟩ := q2
  subst ex
  subst ey
  cases (show u = Value.ref l from rx)
  obtain ⟨t, rfl⟩ := (show ∃ t, vl = Value.int (a : Nat) t from ry)
  have I3 : Inv X pins σ H2 { s2 with heap := s2.heap.push { cls := .type "slice", data := .fields #[.int (a : Nat) t, .none, .none] } } := I2.kept (t' := s2.toks) fun b ob z => Heap.get?_push_of_some _ z
  obtain ⟨z, its, n, r, hlen, e⟩ := I3.lstM hH
  refine delItem_from (a := a) e (Heap.IsSliceOf.new ..) (.int _ _) (by rw [List.size_toArray]; omega) (by rw [List.size_toArray]; omega) fun f hf => ?_
  refine wpAny_deleteEach_nil ⟨σ, _, ?_, q⟩
  refine I3.lset (its' := its.take a) (t' := s2.toks) hH e ?_ (r.take a) ?_
  · rw [hf]
  · rw [List.length_take]
    omega
end
/-! ### enumerate(text) -/
def Ities (x : Str) : It :=
  ⟨fun i _ => i < x.cps.size, fun i H v H' => ∃ T c, v = .ref T ∧ H T = none ∧ x.cps[i]? = some c ∧ H' = upd H T (.tup [.int (i : Nat), .str ⟨#[c]⟩]), fun i _ => i = x.cps.size⟩
theorem turn_enumS {P : Program} {w : World} {K : PySem.W.Frag} {elts : List Expr} {kk : Nat} {tpos : Pos} (x : Str) (t : Tok) (e it : Addr) (ty : String) (hty : ty = "str_ascii_iterator" ∨ ty = "str_iterator") :
    Turn P w K (.Tuple elts kk tpos) (Ities x) [e, it] e (fun i h => (∃ old, IsEnum h e it ((i : Nat) : Int) old) ∧ h.IsStrIter it ty x t i ∧ e ≠ it) where
  mem := by simp
  obj := fun i h st b hb => by
    obtain ⟨⟨old, he⟩, ⟨o, ho, hc, hd⟩, _⟩ := st
    have e' : b = e ∨ b = it := by simpa using hb
    rcases e' with z | z
    · rw [z]; exact ⟨_, he, fun v q => nomatch q⟩
    · rw [z]; exact ⟨o, ho, fun v q => by rw [hd] at q; cases q⟩
  keep := fun i h h' st k => let ⟨⟨old, he⟩, ⟨o, ho, r⟩, hne⟩ := st; ⟨⟨old, k e (by simp) _ he⟩, ⟨o, k it (by simp) o ho, r⟩, hne⟩
  item := by
    intro X hP hw hK hc i pins s σ H E I hf st hg
    subst hP hw hK
    obtain ⟨⟨old, he⟩, hit, hne⟩ := st
    have hel : e < s.heap.objs.size := Heap.lt_size he
    have hil : it < s.heap.objs.size := by obtain ⟨_, q, _⟩ := hit; exact Heap.lt_size q
    have W : Draws X.prog X.w X.A.in1 it [it] x.cps.size (fun i v => ∃ c u, x.cps[i]? = some c ∧ v = .str ⟨#[c]⟩ u) (fun i h => h.IsStrIter it ty x t i) := by
      rcases hty with q | q
      · rw [q]; exact Draws.strAscii (A := X.A.in1) (show X.A.in1.handled = none from I.ok.hd hc) it x t
      · rw [q]; exact Draws.strWide (A := X.A.in1) (show X.A.in1.handled = none from I.ok.hd hc) it x t
    refine wpAny_pyNext_enum_itemD W he hit hg hne (by simpa using hne) fun v h' tk hv ho hit' hT hsz hk => ?_
    obtain ⟨c, u, hcx, rfl⟩ := hv
    refine ⟨_, rfl, wpAny_letOwnedTupleGo_enum (s := { s with heap := h', toks := tk + 1 }) ho fun h'' he' sb => ?_⟩
    have hT2 : h''.get? s.heap.objs.size = some { cls := .type "tuple", data := .seq #[.int i tk, .str ⟨#[c]⟩ u] } := (sb.2 _ (Nat.ne_of_gt hel)).trans hT
    have new : ObjOk X.prog X.w (upd H s.heap.objs.size (.tup [.int (i : Nat), .str ⟨#[c]⟩])) h'' s.heap.objs.size (.tup [.int (i : Nat), .str ⟨#[c]⟩]) :=
      ⟨by show 2 ≤ sizeLine; decide, [.int i tk, .str ⟨#[c]⟩ u], .cons ⟨_, rfl⟩ (.cons ⟨_, rfl⟩ .nil), ⟨_, hT2, rfl, _, rfl⟩⟩
    have I1 : Inv X pins σ (upd H s.heap.objs.size (.tup [.int (i : Nat), .str ⟨#[c]⟩])) { s with heap := h'', toks := tk + 1 } :=
      I.turnedNew (ch := [e, it]) (fun b ob hb q => (sb.2 b (fun z => hb (by simp [z]))).trans (hk b ob (fun z => hb (by simp [z])) (fun z => hb (by simp [z])) q)) hf (Nat.le_refl _) new
    refine ⟨.ref s.heap.objs.size, _, I1, rfl, ⟨_, c, rfl, I.hok.fresh (Nat.le_refl _), hcx, rfl⟩, ⟨⟨.str ⟨#[c]⟩ u, ?_⟩, ?_, hne⟩, fun b hb => ?_⟩
    · have e1 : ((i + 1 : Nat) : Int) = (i : Int) + 1 := by omega
      rw [e1]; exact he'
    · obtain ⟨o, ho2, r⟩ := hit'
      exact ⟨o, (sb.2 it (Ne.symm hne)).trans ho2, r⟩
    · have hb' : b < s.heap.objs.size := by
        have e' : b = e ∨ b = it := by simpa using hb
        rcases e' with z | z
        · rw [z]; exact hel
        · rw [z]; exact hil
      rw [upd_ne (Nat.ne_of_lt hb')]
      exact (hf b hb).1
  done := by
    intro X hP hw hK hc i pins s σ H E I hf st hg
    subst hP hw hK
    obtain ⟨⟨old, he⟩, hit, hne⟩ := st
    have hg' : i = x.cps.size := hg
    subst hg'
    have W : Draws X.prog X.w X.A.in1 it [it] x.cps.size (fun i v => ∃ c u, x.cps[i]? = some c ∧ v = .str ⟨#[c]⟩ u) (fun i h => h.IsStrIter it ty x t i) := by
      rcases hty with q | q
      · rw [q]; exact Draws.strAscii (A := X.A.in1) (show X.A.in1.handled = none from I.ok.hd hc) it x t
      · rw [q]; exact Draws.strWide (A := X.A.in1) (show X.A.in1.handled = none from I.ok.hd hc) it x t
    obtain ⟨f0, f1, f2, f3, f4, f5⟩ := hf it (by simp)
    exact wpAny_pyNext_enum_endD W he hit fun h' eb => ⟨rfl, I.turned (t' := s.toks) (fun b o hb q => eb b o hb q) f0 f1 f3 f4 f5⟩
  self := fun A i s Q E st h => let ⟨⟨_, he⟩, _⟩ := st; wpAny_pyIter_enum he h
def iEnumS (ta : TA) : TI := fun σ H R => ta σ H fun vs H1 => ∃ x, vs = [.str x] ∧ R (Ities x) H1
theorem pi_enumS {X : Cx} {e : Expr} {ta : TA} {p pos tpos : Pos} {elts : List Expr} {kk : Nat} (hg : Gl X "enumerate") (hm : X.mg "enumerate" = none) (ha : PA X [e] ta) (hs : starEach [e] X.env = [(false, eval e X.env)] := by rfl) :
    PI X (.Tuple elts kk tpos) (.Call (.Name "enumerate" p) [e] [] pos) (iEnumS ta) := by
  refine ⟨fun pins s σ H R I h => ?_⟩
  refine Call_ (ld_blt I hg hm boot_enumerate (PyProof.Rows.callWith_type1 (thn (ha.run pos pins s σ H _ I h) fun us s1 ⟨vs, H1, I1, r1, q1⟩ => ?_) hs rfl))
  obtain ⟨x, ex, q⟩ := q1
  subst ex
  cases r1 with
  | cons r rr =>
    cases rr
    obtain ⟨t, rfl⟩ := r
    refine call_enumerate_str fun h' he hit hsz hk => wpAny_pyIter_enum he ?_
    have I2 : Inv X pins σ H1 { s1 with heap := h' } := I1.kept (t' := s1.toks) hk
    have hty : strIterType x = "str_ascii_iterator" ∨ strIterType x = "str_iterator" := by
      unfold strIterType
      split
      · exact .inl rfl
      · exact .inr rfl
    refine ⟨s1.heap.objs.size + 1, [s1.heap.objs.size + 1, s1.heap.objs.size], _, _, H1, rfl, I2, turn_enumS x t (s1.heap.objs.size + 1) s1.heap.objs.size _ hty, ⟨⟨.none, he⟩, hit, Nat.succ_ne_self _⟩, fun b hb => ?_, q⟩
    have e' : b = s1.heap.objs.size + 1 ∨ b = s1.heap.objs.size := by simpa using hb
    have hle : s1.heap.objs.size ≤ b := by
      rcases e' with z | z
      · rw [z]; exact Nat.le_add_right _ _
      · rw [z]; exact Nat.le_refl _
    exact I1.fpOk hle (I1.hok.fresh hle)
theorem walk_enumS {x : Str} : Walk (Ities x) x.cps.size (fun _ => True) (fun i H v H' => ∃ T c, v = .ref T ∧ H T = none ∧ x.cps[i]? = some c ∧ H' = upd H T (.tup [.int (i : Nat), .str ⟨#[c]⟩])) :=
  ⟨fun _ _ hi _ => hi, fun _ _ => rfl, fun _ _ _ _ _ _ y => y⟩
end L2
namespace L2
open PySem PySem.Spec PyProof.Rows
theorem x_del {to tl : TE} {D : Ends} {σ : St} {H : Hp} (q : to σ H fun x H1 => tl σ H1 fun y H2 => ∃ (l : Addr) (xs : List V) (a : Nat), x = .ref l ∧ y = .int (a : Nat) ∧ H2 l = some (.lst xs) ∧ a ≤ xs.length ∧ D.nx σ (upd H2 l (.lst (xs.take a)))) : tDelFrom to tl D σ H := q
theorem x_iEnumS {t : TA} {σ : St} {H : Hp} {R : It → Hp → Prop} (q : t σ H fun vs H1 => ∃ x, vs = [.str x] ∧ R (Ities x) H1) : iEnumS t σ H R := q
theorem x_delFrom {p : Addr} {xs : List V} {i : Int} {k : Nat} {H : Hp} {R : Addr → List V → Nat → Prop} (h : H p = some (.lst xs)) (e : i = (k : Int)) (hk : k ≤ xs.length) (q : R p xs k) :
    ∃ (l : Addr) (xs : List V) (a : Nat), V.ref p = .ref l ∧ V.int i = .int (a : Nat) ∧ H l = some (.lst xs) ∧ a ≤ xs.length ∧ R l xs a := ⟨p, xs, k, rfl, by rw [e], h, hk, q⟩
end L2
namespace L2
open PySem PySem.Spec PyProof.Rows
/-! ### a test of three comparisons in a row -/
section
variable {X : Cx} {a b c d : Expr} {ta tb tc td : TE} {pos : Pos}
def tChain3 (r r' r'' : R2) (ta tb tc td : TE) : TT := fun σ H R => ta σ H fun x H1 => tb σ H1 fun y H2 => r x y H2 fun z H3 => ∃ k, z = .bl k ∧
  (if k = true then tc σ H3 fun w' H4 => r' y w' H4 fun z2 H5 => ∃ k2, z2 = .bl k2 ∧ (if k2 = true then td σ H5 fun v' H6 => r'' w' v' H6 fun z3 H7 => ∃ k3, z3 = .bl k3 ∧ R k3 H7 else R false H5) else R false H3)
theorem pt_chain3 {op op' op'' : CmpOp} {r r' r'' : R2} (ho : OpR X (compareOp op) r) (ho' : OpR X (compareOp op') r') (ho'' : OpR X (compareOp op'') r'') (ha : PE X a ta) (hb : PE X b tb) (hc : PE X c tc) (hd : PE X d td)
    (hm : lastMarks [op, op', op''] [b, c, d] = false := by with_unfolding_all rfl) : PT X (.Compare a [op, op', op''] [b, c, d] pos) (tChain3 r r' r'' ta tb tc td) := by
  refine ⟨fun pins s σ H Q I h => ?_⟩
  refine isTrue_chain (thn (ha.run pins s σ H _ I h) fun v s1 ⟨x, H1, I1, r1, q1⟩ => test_link (thn (hb.run pins s1 σ H1 _ I1 q1) fun u s2 ⟨y, H2, I2, r2, q2⟩ =>
    thn (ho pins s2 σ H2 x y v u _ I2 r1 r2 q2) fun d s3 ⟨z, H3, I3, r3, k, e, q3⟩ => ?_)) hm
  subst e
  cases r3
  refine wpAny_truthy_bool ?_
  cases k with
  | false => exact ite_ff ⟨H3, I3, q3⟩
  | true =>
    refine ite_tt (test_link (thn (hc.run pins s3 σ H3 _ I3 q3) fun w' s4 ⟨z', H4, I4, r4, q4⟩ => thn (ho' pins s4 σ H4 y z' u w' _ I4 r2 r4 q4) fun d' s5 ⟨z2, H5, I5, r5, k2, e2, q5⟩ => ?_))
    subst e2
    cases r5
    refine wpAny_truthy_bool ?_
    cases k2 with
    | false => exact ite_ff ⟨H5, I5, q5⟩
    | true =>
      refine ite_tt (test_last (thn (hd.run pins s5 σ H5 _ I5 q5) fun v' s6 ⟨z4, H6, I6, r6, q6⟩ => thn (ho'' pins s6 σ H6 z' z4 w' v' _ I6 r4 r6 q6) fun d2 s7 ⟨z5, H7, I7, r7, k3, e3, q7⟩ => ?_))
      subst e3
      cases r7
      exact wpAny_truthy_bool ⟨H7, I7, q7⟩
theorem x_chain3 {r r' r'' : R2} {σ : St} {H : Hp} {R : Bool → Hp → Prop} (q : ta σ H fun x H1 => tb σ H1 fun y H2 => r x y H2 fun z H3 => ∃ k, z = .bl k ∧
  (if k = true then tc σ H3 fun w' H4 => r' y w' H4 fun z2 H5 => ∃ k2, z2 = .bl k2 ∧ (if k2 = true then td σ H5 fun v' H6 => r'' w' v' H6 fun z3 H7 => ∃ k3, z3 = .bl k3 ∧ R k3 H7 else R false H5) else R false H3)) : tChain3 r r' r'' ta tb tc td σ H R := q
end
end L2

namespace Sr
/-! ### stretches by levels -/
/-- (b, e) stands by itself: the level at b is lower, at e higher, than every other one between -/
def St (s : Nat → Int) (b e : Nat) : Prop := b < e ∧ (∀ j, b < j → j ≤ e → s b < s j) ∧ (∀ j, b ≤ j → j < e → s j < s e)
def Ripe (s : Nat → Int) (n b e : Nat) : Prop := St s b e ∧ e ≤ n ∧ ∀ b' e', St s b' e' → e' ≤ n → b' ≤ b → e ≤ e' → b' = b ∧ e' = e
def Apt (p q : Nat × Nat) : Prop := p.2 ≤ q.1
structure RL (s : Nat → Int) (n : Nat) (L : List (Nat × Nat)) : Prop where
  ripe : ∀ p ∈ L, Ripe s n p.1 p.2
  all : ∀ b e, Ripe s n b e → (b, e) ∈ L
  apt : L.Pairwise Apt
section
variable {s : Nat → Int}
theorem argmax_first (s : Nat → Int) (b : Nat) : ∀ k : Nat, ∃ m, b ≤ m ∧ m ≤ b + k ∧ (∀ j, b ≤ j → j < m → s j < s m) ∧ ∀ j, b ≤ j → j ≤ b + k → s j ≤ s m
  | 0 => ⟨b, Nat.le_refl _, Nat.le_refl _, fun j h1 h2 => by omega, fun j h1 h2 => by
    have : j = b := by omega
    subst this
    exact Int.le_refl _⟩
  | k + 1 => by
    obtain ⟨m, h1, h2, h3, h4⟩ := argmax_first s b k
    by_cases h : s m < s (b + (k + 1))
    · refine ⟨b + (k + 1), by omega, Nat.le_refl _, fun j j1 j2 => ?_, fun j j1 j2 => ?_⟩
      · have := h4 j j1 (by omega)
        omega
      · by_cases hj : j = b + (k + 1)
        · subst hj
          exact Int.le_refl _
        · have := h4 j j1 (by omega)
          omega
    · refine ⟨m, h1, by omega, h3, fun j j1 j2 => ?_⟩
      by_cases hj : j = b + (k + 1)
      · subst hj
        omega
      · exact h4 j j1 (by omega)
theorem argmin_last (s : Nat → Int) (b : Nat) : ∀ k : Nat, ∃ m, b ≤ m ∧ m ≤ b + k ∧ (∀ j, m < j → j ≤ b + k → s m < s j) ∧ ∀ j, b ≤ j → j ≤ b + k → s m ≤ s j
  | 0 => ⟨b, Nat.le_refl _, Nat.le_refl _, fun j h1 h2 => by omega, fun j h1 h2 => by
    have : j = b := by omega
    subst this
    exact Int.le_refl _⟩
  | k + 1 => by
    obtain ⟨m, h1, h2, h3, h4⟩ := argmin_last s b k
    by_cases h : s (b + (k + 1)) ≤ s m
    · refine ⟨b + (k + 1), by omega, Nat.le_refl _, fun j j1 j2 => by omega, fun j j1 j2 => ?_⟩
      by_cases hj : j = b + (k + 1)
      · subst hj
        exact Int.le_refl _
      · have := h4 j j1 (by omega)
        omega
    · refine ⟨m, h1, by omega, fun j j1 j2 => ?_, fun j j1 j2 => ?_⟩
      · by_cases hj : j = b + (k + 1)
        · subst hj
          omega
        · exact h3 j j1 (by omega)
      · by_cases hj : j = b + (k + 1)
        · subst hj
          omega
        · exact h4 j j1 (by omega)
theorem ripe_of {n : Nat} : ∀ (k b e : Nat), n - (e - b) ≤ k → St s b e → e ≤ n → ∃ b' e', Ripe s n b' e' ∧ b' ≤ b ∧ e ≤ e' := by
  intro k
  induction k with
  | zero =>
    intro b e hk h he
    refine ⟨b, e, ⟨h, he, fun b' e' h' he' h1 h2 => ?_⟩, Nat.le_refl _, Nat.le_refl _⟩
    have := h.1
    have := h'.1
    omega
  | succ k ih =>
    intro b e hk h he
    by_cases hr : Ripe s n b e
    · exact ⟨b, e, hr, Nat.le_refl _, Nat.le_refl _⟩
    · have : ∃ b' e', St s b' e' ∧ e' ≤ n ∧ b' ≤ b ∧ e ≤ e' ∧ ¬ (b' = b ∧ e' = e) := by
        apply Classical.byContradiction
        intro hc
        exact hr ⟨h, he, fun b' e' h1 h2 h3 h4 => Classical.byContradiction fun hn => hc ⟨b', e', h1, h2, h3, h4, hn⟩⟩
      obtain ⟨b', e', h1, h2, h3, h4, h5⟩ := this
      have := h.1
      obtain ⟨b2, e2, r, h6, h7⟩ := ih b' e' (by omega) h1 h2
      exact ⟨b2, e2, r, by omega, by omega⟩
theorem ripe_over {n b e : Nat} (h : St s b e) (he : e ≤ n) : ∃ b' e', Ripe s n b' e' ∧ b' ≤ b ∧ e ≤ e' := ripe_of _ b e (Nat.le_refl _) h he
theorem St.join {b1 e1 b2 e2 : Nat} (h1 : St s b1 e1) (h2 : St s b2 e2) (hb : b1 ≤ b2) (hm : b2 < e1) (he : e1 ≤ e2) : St s b1 e2 := by
  have l12 : s b1 ≤ s b2 := by
    by_cases h : b1 = b2
    · subst h
      exact Int.le_refl _
    · have := h1.2.1 b2 (by omega) (by omega)
      omega
  have g12 : s e1 ≤ s e2 := by
    by_cases h : e1 = e2
    · subst h
      exact Int.le_refl _
    · have := h2.2.2 e1 (by omega) (by omega)
      omega
  refine ⟨by have := h2.1; omega, fun j j1 j2 => ?_, fun j j1 j2 => ?_⟩
  · by_cases h : j ≤ e1
    · exact h1.2.1 j j1 h
    · have := h2.2.1 j (by omega) j2
      omega
  · by_cases h : b2 ≤ j
    · exact h2.2.2 j h j2
    · have := h1.2.2 j j1 (by omega)
      omega
theorem ripe_apart {n b1 e1 b2 e2 : Nat} (h1 : Ripe s n b1 e1) (h2 : Ripe s n b2 e2) (hb : b1 ≤ b2) : (b1 = b2 ∧ e1 = e2) ∨ e1 ≤ b2 := by
  by_cases hm : e1 ≤ b2
  · exact .inr hm
  · left
    by_cases he : e1 ≤ e2
    · have j := h1.1.join h2.1 hb (by omega) he
      have k1 := h1.2.2 b1 e2 j h2.2.1 (Nat.le_refl _) he
      have k2 := h2.2.2 b1 e2 j h2.2.1 hb (Nat.le_refl _)
      exact ⟨k2.1, k1.2.symm⟩
    · have k2 := h2.2.2 b1 e1 h1.1 h1.2.1 hb (by omega)
      exact k2
/-- a beginning b of a stretch that ends behind the like pair at i; R: what is ripe ahead of b -/
structure Cand (s : Nat → Int) (i b : Nat) (R : List (Nat × Nat)) : Prop where
  st : St s b (i + 1)
  ripe : ∀ p ∈ R, Ripe s i p.1 p.2 ∧ p.2 ≤ b
  all : ∀ b' e', Ripe s i b' e' → e' ≤ b → (b', e') ∈ R
  cut : ∀ b' e', Ripe s i b' e' → e' ≤ b ∨ b ≤ b'
  apt : R.Pairwise Apt
theorem Cand.start {i : Nat} {L : List (Nat × Nat)} (h : RL s i L) (hi : s i < s (i + 1)) : Cand s i i L where
  st := ⟨by omega, fun j j1 j2 => by
    have : j = i + 1 := by omega
    subst this
    exact hi, fun j j1 j2 => by
    have : j = i := by omega
    subst this
    exact hi⟩
  ripe := fun p hp => ⟨h.ripe p hp, (h.ripe p hp).2.1⟩
  all := fun b' e' r _ => h.all b' e' r
  cut := fun b' e' r => .inl r.2.1
  apt := h.apt
theorem Cand.le {i b : Nat} {R : List (Nat × Nat)} (h : Cand s i b R) : b ≤ i := by
  have := h.st.1
  omega
theorem mem_split {R1 R2 : List (Nat × Nat)} {q p : Nat × Nat} (h : p ∈ R1 ++ q :: R2) : p ∈ R1 ∨ p = q ∨ p ∈ R2 := by
  rcases List.mem_append.mp h with h | h
  · exact .inl h
  · rcases List.mem_cons.mp h with h | h
    · exact .inr (.inl h)
    · exact .inr (.inr h)
theorem apt_split {R1 R2 : List (Nat × Nat)} {q : Nat × Nat} (h : (R1 ++ q :: R2).Pairwise Apt) : R1.Pairwise Apt ∧ (∀ p ∈ R1, Apt p q) ∧ (∀ p ∈ R2, Apt q p) := by
  rw [List.pairwise_append] at h
  obtain ⟨h1, h2, h3⟩ := h
  refine ⟨h1, fun p hp => h3 p hp q (List.mem_cons_self ..), fun p hp => ?_⟩
  rw [List.pairwise_cons] at h2
  exact h2.1 p hp
/-- no beginning further left -/
theorem Cand.leftmost {i b : Nat} {R : List (Nat × Nat)} (h : Cand s i b R)
    (hc : (∀ p ∈ R, s b ≤ s p.1) ∨ ∃ R1 R2 bk ek, R = R1 ++ (bk, ek) :: R2 ∧ (∀ p ∈ R2, s b ≤ s p.1) ∧ s (i + 1) ≤ s ek) : ∀ b', b' < b → ¬ St s b' (i + 1) := by
  intro b' hb hs
  have hbi := h.le
  have l1 : s b' < s b := hs.2.1 b hb (by omega)
  obtain ⟨m, m1, m2, m3, m4⟩ := argmax_first s b' (b - b')
  have hm : b' ≠ m := fun e => by
    have := m4 b (by omega) (by omega)
    rw [← e] at this
    omega
  have st2 : St s b' m := ⟨by omega, fun j j1 j2 => hs.2.1 j j1 (by omega), fun j j1 j2 => m3 j j1 j2⟩
  obtain ⟨bj, ej, r, r1, r2⟩ := ripe_over (n := i) st2 (by omega)
  have hej : ej ≤ b := by
    rcases h.cut bj ej r with z | z
    · exact z
    · omega
  have hmem := h.all bj ej r hej
  have l2 : s bj ≤ s b' := by
    by_cases hz : bj = b'
    · subst hz
      exact Int.le_refl _
    · have := r.1.2.1 b' (by omega) (by omega)
      omega
  rcases hc with hc | ⟨R1, R2, bk, ek, rfl, hc1, hc2⟩
  · have := hc _ hmem
    show False
    simp only at this
    omega
  · obtain ⟨a1, a2, a3⟩ := apt_split h.apt
    have rk : Ripe s i bk ek ∧ ek ≤ b := h.ripe (bk, ek) (by simp)
    have hk1 : bk < ek := rk.1.1.1
    have hk2 : ek ≤ b := rk.2
    rcases mem_split hmem with z | z | z
    · have : ej ≤ bk := a2 _ z
      have := hs.2.2 ek (by omega) (by omega)
      omega
    · have e1 : bj = bk := congrArg Prod.fst z
      have e2 : ej = ek := congrArg Prod.snd z
      have := hs.2.2 ek (by omega) (by omega)
      omega
    · have := hc1 _ z
      simp only at this
      omega
theorem Cand.step {i b bk ek : Nat} {R1 R2 : List (Nat × Nat)} (h : Cand s i b (R1 ++ (bk, ek) :: R2)) (h2 : ∀ p ∈ R2, s b ≤ s p.1) (hl : s bk < s b) (hh : s ek < s (i + 1)) : Cand s i bk R1 := by
  have hbi := h.le
  obtain ⟨a1, a2, a3⟩ := apt_split h.apt
  have rk : Ripe s i bk ek ∧ ek ≤ b := h.ripe (bk, ek) (by simp)
  have hk1 : bk < ek := rk.1.1.1
  have hk2 : ek ≤ b := rk.2
  have gapL : ∀ j, bk < j → j ≤ b → s bk < s j := by
    intro j j1 j2
    by_cases hj : j ≤ ek
    · exact rk.1.1.2.1 j j1 hj
    · apply Classical.byContradiction
      intro hn
      obtain ⟨m, m1, m2, m3, m4⟩ := argmin_last s j (b - j)
      have lm : s m ≤ s bk := by
        have := m4 j (Nat.le_refl _) (by omega)
        omega
      have hmb : m ≠ b := fun e => by
        rw [e] at lm
        omega
      obtain ⟨e2, e21, e22, e23, e24⟩ := argmax_first s m (b - m)
      have hne : m ≠ e2 := fun e => by
        have := e24 b (by omega) (by omega)
        rw [← e] at this
        omega
      have st2 : St s m e2 := ⟨by omega, fun x x1 x2 => m3 x x1 (by omega), fun x x1 x2 => e23 x x1 x2⟩
      obtain ⟨bj, ej, r, r1, r2⟩ := ripe_over (n := i) st2 (by omega)
      have hej : ej ≤ b := by
        rcases h.cut bj ej r with z | z
        · exact z
        · omega
      have l2 : s bj ≤ s m := by
        by_cases hz : bj = m
        · subst hz
          exact Int.le_refl _
        · have := r.1.2.1 m (by omega) (by omega)
          omega
      rcases mem_split (h.all bj ej r hej) with z | z | z
      · have : ej ≤ bk := a2 _ z
        omega
      · have e3 : ej = ek := congrArg Prod.snd z
        omega
      · have := h2 _ z
        simp only at this
        omega
  have gapH : ∀ j, bk ≤ j → j ≤ b → s j < s (i + 1) := by
    intro j j1 j2
    by_cases hj : j ≤ ek
    · by_cases hz : j = ek
      · rw [hz]
        exact hh
      · have := rk.1.1.2.2 j j1 (by omega)
        omega
    · apply Classical.byContradiction
      intro hn
      obtain ⟨m, m1, m2, m3, m4⟩ := argmax_first s bk (j - bk)
      have hm : s (i + 1) ≤ s m := by
        have := m4 j (by omega) (by omega)
        omega
      have hek : s ek < s m := by omega
      have hme : ek < m := by
        apply Classical.byContradiction
        intro hz
        by_cases hz2 : m = ek
        · rw [hz2] at hek
          omega
        · have := rk.1.1.2.2 m m1 (by omega)
          omega
      have st2 : St s bk m := ⟨by omega, fun x x1 x2 => gapL x x1 (by omega), fun x x1 x2 => m3 x x1 x2⟩
      have := rk.1.2.2 bk m st2 (by omega) (Nat.le_refl _) (Nat.le_of_lt hme)
      simp only at this
      omega
  refine ⟨⟨by omega, fun j j1 j2 => ?_, fun j j1 j2 => ?_⟩, fun p hp => ⟨(h.ripe p (by simp [hp])).1, a2 p hp⟩, fun b' e' r he => ?_, fun b' e' r => ?_, a1⟩
  · by_cases hj : j ≤ b
    · exact gapL j j1 hj
    · have := h.st.2.1 j (by omega) j2
      omega
  · by_cases hj : j ≤ b
    · exact gapH j j1 hj
    · exact h.st.2.2 j (by omega) j2
  · rcases mem_split (h.all b' e' r (by omega)) with z | z | z
    · exact z
    · have e3 : e' = ek := congrArg Prod.snd z
      omega
    · have : ek ≤ b' := a3 _ z
      have := r.1.1
      omega
  · by_cases hz : b' ≤ bk
    · rcases ripe_apart r rk.1 hz with ⟨z, _⟩ | z
      · exact .inr (by omega)
      · exact .inl z
    · exact .inr (by omega)
theorem Cand.done {i b : Nat} {R : List (Nat × Nat)} (h : Cand s i b R) (hl : ∀ b', b' < b → ¬ St s b' (i + 1)) : RL s (i + 1) (R ++ [(b, i + 1)]) := by
  have hbi := h.le
  have rb : Ripe s (i + 1) b (i + 1) := ⟨h.st, Nat.le_refl _, fun b' e' st he hb hi => by
    have e2 : e' = i + 1 := by omega
    subst e2
    refine ⟨?_, rfl⟩
    by_cases hz : b' < b
    · exact absurd st (hl b' hz)
    · omega⟩
  refine ⟨fun p hp => ?_, fun b' e' r => ?_, ?_⟩
  · rcases List.mem_append.mp hp with z | z
    · obtain ⟨r, hr⟩ := h.ripe p z
      refine ⟨r.1, by have := r.2.1; omega, fun b' e' st he hb hi => ?_⟩
      by_cases hz : e' ≤ i
      · exact r.2.2 b' e' st hz hb hi
      · have e2 : e' = i + 1 := by omega
        subst e2
        have := r.1.1
        exact absurd st (hl b' (by omega))
    · rw [List.mem_singleton.mp z]
      exact rb
  · by_cases hz : e' ≤ i
    · have r' : Ripe s i b' e' := ⟨r.1, hz, fun b2 e2 st he hb hi => r.2.2 b2 e2 st (by omega) hb hi⟩
      rcases h.cut b' e' r' with z | z
      · exact List.mem_append.mpr (.inl (h.all b' e' r' z))
      · have := r.2.2 b (i + 1) h.st (Nat.le_refl _) z (by omega)
        omega
    · have e2 : e' = i + 1 := by
        have := r.2.1
        omega
      subst e2
      by_cases hlt : b' < b
      · exact absurd r.1 (hl b' hlt)
      · have := r.2.2 b (i + 1) h.st (Nat.le_refl _) (by omega) (Nat.le_refl _)
        rw [← this.1]
        simp
  · rw [List.pairwise_append]
    refine ⟨h.apt, by simp, fun p hp q hq => ?_⟩
    rw [List.mem_singleton.mp hq]
    exact (h.ripe p hp).2
theorem RL.unlike {i : Nat} {L : List (Nat × Nat)} (h : RL s i L) (hi : s (i + 1) < s i) : RL s (i + 1) L := by
  have no : ∀ b e, St s b e → e ≤ i + 1 → e ≤ i := fun b e st he => by
    apply Classical.byContradiction
    intro hn
    have e2 : e = i + 1 := by omega
    subst e2
    have := st.2.2 i (by have := st.1; omega) (by omega)
    omega
  refine ⟨fun p hp => ?_, fun b e r => ?_, h.apt⟩
  · have r := h.ripe p hp
    exact ⟨r.1, by have := r.2.1; omega, fun b' e' st he hb hi => r.2.2 b' e' st (no _ _ st he) hb hi⟩
  · exact h.all b e ⟨r.1, no _ _ r.1 r.2.1, fun b' e' st he hb hi => r.2.2 b' e' st (by omega) hb hi⟩
theorem RL.zero (s : Nat → Int) : RL s 0 [] := ⟨(fun p hp => nomatch hp), (fun b e r => by
  have := r.1.1
  have := r.2.1
  omega), .nil⟩
theorem same_sorted : ∀ {L M : List (Nat × Nat)}, L.Pairwise (fun p q => p.1 < q.1) → M.Pairwise (fun p q => p.1 < q.1) → (∀ p, p ∈ L ↔ p ∈ M) → L = M
  | [], [], _, _, _ => rfl
  | [], q :: M, _, _, h => by
    have := (h q).mpr (List.mem_cons_self ..)
    cases this
  | p :: L, [], _, _, h => by
    have := (h p).mp (List.mem_cons_self ..)
    cases this
  | p :: L, q :: M, h1, h2, h => by
    rw [List.pairwise_cons] at h1 h2
    have e : p = q := by
      rcases List.mem_cons.mp ((h p).mp (List.mem_cons_self ..)) with z | z
      · exact z
      · rcases List.mem_cons.mp ((h q).mpr (List.mem_cons_self ..)) with z2 | z2
        · exact z2.symm
        · have := h2.1 p z
          have := h1.1 q z2
          omega
    subst e
    rw [same_sorted h1.2 h2.2 fun x => ⟨fun hx => ?_, fun hx => ?_⟩]
    · rcases List.mem_cons.mp ((h x).mp (List.mem_cons_of_mem _ hx)) with z | z
      · have := h1.1 x hx
        rw [z] at this
        omega
      · exact z
    · rcases List.mem_cons.mp ((h x).mpr (List.mem_cons_of_mem _ hx)) with z | z
      · have := h2.1 x hx
        rw [z] at this
        omega
      · exact z
theorem RL.lt {n : Nat} {L : List (Nat × Nat)} (h : RL s n L) : L.Pairwise (fun p q => p.1 < q.1) := by
  refine List.Pairwise.imp_of_mem ?_ h.apt
  intro p q hp hq hpq
  have := (h.ripe p hp).1.1
  have : p.2 ≤ q.1 := hpq
  omega
theorem RL.unique {n : Nat} {L M : List (Nat × Nat)} (h1 : RL s n L) (h2 : RL s n M) : L = M :=
  same_sorted h1.lt h2.lt fun p => ⟨fun hp => h2.all _ _ (h1.ripe p hp), fun hp => h1.all _ _ (h2.ripe p hp)⟩
/-- it is enough that two of these that differ begin at unlike places, ascending -/
theorem RL.of_lt {n : Nat} {L : List (Nat × Nat)} (h1 : ∀ p ∈ L, Ripe s n p.1 p.2) (h2 : ∀ b e, Ripe s n b e → (b, e) ∈ L) (h3 : L.Pairwise (fun p q => p.1 ≤ q.1 ∧ p ≠ q)) : RL s n L := by
  refine ⟨h1, h2, ?_⟩
  refine List.Pairwise.imp_of_mem ?_ h3
  intro p q hp hq hpq
  rcases ripe_apart (h1 p hp) (h1 q hq) hpq.1 with ⟨z1, z2⟩ | z
  · exact absurd (Prod.ext z1 z2) hpq.2
  · exact z
/-- what the document says of a stretch that stands by itself -/
theorem St_iff {b e : Nat} (hb : b < e) : St s b e ↔ 0 < s e - s b ∧ ∀ b' e', b ≤ b' → b' < e' → e' ≤ e → (b', e') ≠ (b, e) → s e' - s b' < s e - s b := by
  constructor
  · intro h
    refine ⟨by have := h.2.1 e hb (Nat.le_refl _); omega, fun b' e' h1 h2 h3 h4 => ?_⟩
    have k1 : s b ≤ s b' := by
      by_cases hz : b = b'
      · subst hz
        exact Int.le_refl _
      · have := h.2.1 b' (by omega) (by omega)
        omega
    have k2 : s e' ≤ s e := by
      by_cases hz : e' = e
      · subst hz
        exact Int.le_refl _
      · have := h.2.2 e' (by omega) (by omega)
        omega
    by_cases hz : b = b'
    · have : e' ≠ e := fun q => h4 (by rw [hz, q])
      have := h.2.2 e' (by omega) (by omega)
      omega
    · have := h.2.1 b' (by omega) (by omega)
      omega
  · rintro ⟨h1, h2⟩
    refine ⟨hb, fun j j1 j2 => ?_, fun j j1 j2 => ?_⟩
    · by_cases hz : j = e
      · subst hz
        omega
      · have := h2 j e (by omega) (by omega) (Nat.le_refl _) (fun q => by have := congrArg Prod.fst q; simp only at this; omega)
        omega
    · by_cases hz : j = b
      · subst hz
        omega
      · have := h2 b j (Nat.le_refl _) (by omega) (by omega) (fun q => by have := congrArg Prod.snd q; simp only at this; omega)
        omega
end
end Sr
namespace Sr
open PySem PySem.Spec PyProof.Rows L2
/-! ### levels of likes; parts and stretches as tuples -/
def lev (g l : Int) (z : List Nat) (i : Nat) : Int := wor g l (z.take i)
theorem lev_succ (g l : Int) {z : List Nat} {i : Nat} (h : i < z.length) : lev g l z (i + 1) = lev g l z i + (if z[i] = 61 then g else -l) := wor_take g l h
theorem lev_zero (g l : Int) (z : List Nat) : lev g l z 0 = 0 := by
  unfold lev
  rw [List.take_zero]
  rfl
/-- only the object at a is another -/
def K1 (a : Addr) (H H' : Hp) : Prop := ∀ p o, p ≠ a → H p = some o → H' p = some o
theorem K1.refl {a : Addr} (H : Hp) : K1 a H H := fun _ _ _ h => h
theorem K1.trans {a : Addr} {H H1 H2 : Hp} (x : K1 a H H1) (y : K1 a H1 H2) : K1 a H H2 := fun p o h1 h => y p o h1 (x p o h1 h)
theorem K1.of {a : Addr} {H H' : Hp} (x : Same H H') : K1 a H H' := fun p o _ h => x p o h
theorem K1.at {a : Addr} {H : Hp} {o : HO} : K1 a H (upd H a o) := fun q u n e => by
  rw [upd_ne n]
  exact e
theorem K1.same {a : Addr} {H0 H H' : Hp} (x : K1 a H H') (h0 : H0 a = none) (s : Same H0 H) : Same H0 H' := fun p o h => x p o (ne_of_none h h0) (s p o h)
/-- the tuples at as tell L, each by f -/
def Tup {α : Type} (f : α → List V) (H : Hp) (as : List Addr) (L : List α) : Prop := as.length = L.length ∧ ∀ (j : Nat) (a : Addr) (p : α), as[j]? = some a → L[j]? = some p → H a = some (.tup (f p))
section
variable {α : Type} {f : α → List V} {H H' : Hp} {as : List Addr} {L : List α}
theorem Tup.nil : Tup f H [] [] := ⟨rfl, fun j a p h => by simp at h⟩
theorem Tup.k1 {a : Addr} {xs : List V} (h : Tup f H as L) (k : K1 a H H') (ha : H a = some (.lst xs)) : Tup f H' as L := ⟨h.1, fun j b p h1 h2 => by
  have h3 := h.2 j b p h1 h2
  exact k b _ (ne_of h3 ha (by intro q; cases q)) h3⟩
theorem Tup.same (h : Tup f H as L) (k : Same H H') : Tup f H' as L := ⟨h.1, fun j b p h1 h2 => k b _ (h.2 j b p h1 h2)⟩
theorem Tup.take (h : Tup f H as L) (k : Nat) : Tup f H (as.take k) (L.take k) := ⟨by rw [List.length_take, List.length_take, h.1], fun j b p h1 h2 => by
  rw [List.getElem?_take] at h1 h2
  split at h1
  · rename_i hj
    rw [if_pos hj] at h2
    exact h.2 j b p h1 h2
  · cases h1⟩
theorem Tup.snoc {a : Addr} {p : α} (h : Tup f H as L) (ha : H a = some (.tup (f p))) : Tup f H (as ++ [a]) (L ++ [p]) := ⟨by rw [List.length_append, List.length_append, h.1]; rfl, fun j b q h1 h2 => by
  by_cases hj : j < as.length
  · rw [List.getElem?_append_left hj] at h1
    rw [List.getElem?_append_left (by rw [← h.1]; exact hj)] at h2
    exact h.2 j b q h1 h2
  · rw [List.getElem?_append_right (by omega)] at h1
    rw [List.getElem?_append_right (by rw [← h.1]; omega)] at h2
    have e1 : j - as.length = 0 := by
      apply Classical.byContradiction
      intro hn
      rw [List.getElem?_eq_none (by simp; omega)] at h1
      cases h1
    rw [e1] at h1
    rw [← h.1, e1] at h2
    have : a = b := Option.some.inj h1
    have : p = q := Option.some.inj h2
    subst_vars
    exact ha⟩
theorem Tup.get (h : Tup f H as L) {j : Nat} {p : α} (hp : L[j]? = some p) : ∃ a, as[j]? = some a ∧ (as.map V.ref)[j]? = some (.ref a) ∧ H a = some (.tup (f p)) := by
  have hj : j < as.length := by
    rw [h.1]
    exact (List.getElem?_eq_some_iff.mp hp).1
  refine ⟨as[j], List.getElem?_eq_getElem hj, by rw [List.getElem?_map, List.getElem?_eq_getElem hj]; rfl, h.2 j _ p (List.getElem?_eq_getElem hj) hp⟩
theorem Tup.len (h : Tup f H as L) : (as.map V.ref).length = L.length := by rw [List.length_map, h.1]
theorem Tup.dp {K : PySem.W.Frag} {g : α → List PyData} (hg : ∀ p, DpAll K H (f p) (g p)) : ∀ {as : List Addr} {L : List α}, Tup f H as L → DpAll K H (as.map V.ref) (L.map fun p => PyData.tuple (g p))
  | [], [], _ => .nil
  | [], p :: L, h => by have := h.1; simp at this
  | a :: as, [], h => by have := h.1; simp at this
  | a :: as, p :: L, h => .cons (.tup (SqT.of (h.2 0 a p rfl rfl)) (hg p)) (Tup.dp hg ⟨by simpa using h.1, fun j b q h1 h2 => h.2 (j + 1) b q h1 h2⟩)
end
/-- a part: its stretch, and the levels at its ends -/
def part4 (s : Nat → Int) (p : Nat × Nat) : List V := [.int (p.1 : Nat), .int (p.2 : Nat), .int (s p.1), .int (s p.2)]
def pair2 (p : Nat × Nat) : List V := [.int (p.1 : Nat), .int (p.2 : Nat)]
def pairD (p : Nat × Nat) : List PyData := [.int (p.1 : Nat), .int (p.2 : Nat)]
theorem pair2_dp {K : PySem.W.Frag} {H : Hp} (p : Nat × Nat) : DpAll K H (pair2 p) (pairD p) := .cons (.int _) (.cons (.int _) .nil)
theorem len_sorted : ∀ {L : List (Nat × Nat)} {k n : Nat}, L.Pairwise (fun p q => p.1 < q.1) → (∀ p ∈ L, k ≤ p.1 ∧ p.1 < n) → L.length ≤ n - k
  | [], _, _, _, _ => by simp
  | p :: L, k, n, h, hb => by
    rw [List.pairwise_cons] at h
    have hp := hb p (List.mem_cons_self ..)
    have ih := len_sorted (k := p.1 + 1) (n := n) h.2 fun q hq => ⟨h.1 q hq, (hb q (List.mem_cons_of_mem _ hq)).2⟩
    rw [List.length_cons]
    omega
theorem RL.len {s : Nat → Int} {n : Nat} {L : List (Nat × Nat)} (h : RL s n L) : L.length ≤ n := by
  have := len_sorted (k := 0) (n := n) h.lt fun p hp => ⟨Nat.zero_le _, by
    have r := h.ripe p hp
    have := r.1.1
    have := r.2.1
    omega⟩
  omega
theorem Gd_pairs (L : List (Nat × Nat)) (h : L.length ≤ 100000) : Gd (.list (L.map fun p => PyData.tuple (pairD p))) := by
  refine .lst _ (by rw [List.length_map]; exact h) fun d hd => ?_
  obtain ⟨p, _, rfl⟩ := List.mem_map.mp hd
  refine .tup _ (by show 2 ≤ 100000; omega) fun e he => ?_
  rcases List.mem_cons.mp he with rfl | he
  · exact .int _
  · rcases List.mem_cons.mp he with rfl | he
    · exact .int _
    · cases he
theorem depth_pairs (L : List (Nat × Nat)) : PyData.depthAll (L.map fun p => PyData.tuple (pairD p)) ≤ 1 := by
  induction L with
  | nil => simp [PyData.depthAll]
  | cons p L ih =>
    have h : (PyData.tuple (pairD p)).depth = 1 := by simp [pairD, PyData.depth, PyData.depthAll]
    rw [List.map_cons, PyData.depthAll, h]
    exact Nat.max_le.mpr ⟨Nat.le_refl _, ih⟩
theorem eq_like (c : Nat) : decide (V.str (sg c) = V.str (Str.ofString "=")) = decide (c = 61) := by
  by_cases h : c = 61
  · subst h
    rfl
  · rw [decide_eq_false h]
    refine decide_eq_false fun q => h ?_
    have : S [c] = S [61] := V.str.inj q
    have := S_inj this
    exact (List.cons.inj this).1
theorem x_slT {K : PySem.W.Frag} {H : Hp} {a : Addr} {xs : List V} {lo hi : Option Int} {Q : VK} (h : SqT K H a xs) (hn : ¬ (HT.sIx xs.length 0 lo = 0 ∧ HT.sIx xs.length xs.length hi = xs.length)) (q : ∀ p, H p = none → Q (.ref p) (upd H p (.tup (cutV xs lo hi)))) :
    rSlT K (.ref a) lo hi H Q := ⟨a, xs, rfl, h, hn, q⟩
/-- a new tuple t is appended to the list of tuples at D -/
theorem tup_push {α : Type} {f : α → List V} {H0 H : Hp} {D t : Addr} {as : List Addr} {M : List α} {p : α} (hD0 : H0 D = none) (sm : Same H0 H) (hD : H D = some (.lst (as.map V.ref))) (hT : Tup f H as M) (ht : H t = none) :
    Same H0 (upd (upd H t (.tup (f p))) D (.lst (as.map V.ref ++ [.ref t]))) ∧ upd (upd H t (.tup (f p))) D (.lst (as.map V.ref ++ [.ref t])) D = some (.lst ((as ++ [t]).map V.ref)) ∧
      Tup f (upd (upd H t (.tup (f p))) D (.lst (as.map V.ref ++ [.ref t]))) (as ++ [t]) (M ++ [p]) := by
  have hne : D ≠ t := ne_of_none hD ht
  have k : K1 D H (upd (upd H t (.tup (f p))) D (.lst (as.map V.ref ++ [.ref t]))) := (K1.of (same_upd ht)).trans K1.at
  refine ⟨k.same hD0 sm, by rw [upd_same, List.map_append]; rfl, Tup.snoc (hT.k1 k hD) ?_⟩
  rw [upd_ne hne.symm, upd_same]
theorem wor_cut (g l : Int) (z : List Nat) {i j : Nat} (h : i ≤ j) : wor g l ((z.drop i).take (j - i)) = lev g l z j - lev g l z i := by
  have e : z.take j = z.take i ++ (z.drop i).take (j - i) := by
    have hj : j = i + (j - i) := by omega
    rw [hj, List.take_add, ← hj]
  unfold lev
  rw [e, wor_app]
  omega
theorem eqv_pair (a b c d : Int) : PyData.eqv (.tuple [.int a, .int b]) (.tuple [.int c, .int d]) = decide (a = c ∧ b = d) := by
  simp [PyData.eqv, PyData.eqvAll]
  by_cases h1 : a = c <;> by_cases h2 : b = d <;> simp [h1, h2]
theorem dp_pair {K : PySem.W.Frag} {H : Hp} {p : Addr} {a b : Int} (h : H p = some (.tup [.int a, .int b])) : Dp K H (.ref p) (.tuple [.int a, .int b]) := .tup (SqT.of h) (.cons (.int a) (.cons (.int b) .nil))
/-- all stretches that stand by themselves, as far as the walk has come: ahead of (bi, ei) -/
def Lex (p q : Nat × Nat) : Prop := p.1 < q.1 ∨ (p.1 = q.1 ∧ p.2 < q.2)
structure SLI (s : Nat → Int) (n bi ei : Nat) (L : List (Nat × Nat)) : Prop where
  st : ∀ p ∈ L, St s p.1 p.2 ∧ p.2 ≤ n
  all : ∀ b e, St s b e → e ≤ n → (b < bi ∨ (b = bi ∧ e < ei)) → (b, e) ∈ L
  lt : L.Pairwise Lex
  top : ∀ p ∈ L, p.1 < bi ∨ (p.1 = bi ∧ p.2 < ei)
  len : L.length ≤ bi * (n + 1) + ei
theorem SLI.zero (s : Nat → Int) (n : Nat) : SLI s n 0 1 [] := ⟨(fun p h => nomatch h), (fun b e h _ h2 => by have := h.1; omega), .nil, (fun p h => nomatch h), by simp⟩
theorem SLI.row {s : Nat → Int} {n i : Nat} {L : List (Nat × Nat)} (h : SLI s n i (n + 1) L) : SLI s n (i + 1) (i + 1 + 1) L := by
  refine ⟨h.st, fun b e hs he h2 => h.all b e hs he ?_, h.lt, fun p hp => ?_, ?_⟩
  · have := hs.1
    omega
  · have := h.top p hp
    omega
  · have := h.len
    rw [Nat.succ_mul]
    omega
theorem SLI.no {s : Nat → Int} {n i e : Nat} {L : List (Nat × Nat)} (h : SLI s n i e L) (hn : ¬ St s i e) : SLI s n i (e + 1) L := by
  refine ⟨h.st, fun b e' hs he h2 => h.all b e' hs he ?_, h.lt, fun p hp => ?_, ?_⟩
  · by_cases hz : b = i ∧ e' = e
    · obtain ⟨z1, z2⟩ := hz
      subst z1 z2
      exact absurd hs hn
    · omega
  · have := h.top p hp
    omega
  · have := h.len
    omega
theorem SLI.yes {s : Nat → Int} {n i e : Nat} {L : List (Nat × Nat)} (h : SLI s n i e L) (hy : St s i e) (he : e ≤ n) : SLI s n i (e + 1) (L ++ [(i, e)]) := by
  refine ⟨fun p hp => ?_, fun b e' hs he h2 => ?_, ?_, fun p hp => ?_, ?_⟩
  · rcases List.mem_append.mp hp with z | z
    · exact h.st p z
    · rw [List.mem_singleton.mp z]
      exact ⟨hy, he⟩
  · by_cases hz : b = i ∧ e' = e
    · rw [hz.1, hz.2]
      simp
    · exact List.mem_append.mpr (.inl (h.all b e' hs he (by omega)))
  · rw [List.pairwise_append]
    refine ⟨h.lt, by simp, fun p hp q hq => ?_⟩
    rw [List.mem_singleton.mp hq]
    exact h.top p hp
  · rcases List.mem_append.mp hp with z | z
    · have := h.top p z
      omega
    · rw [List.mem_singleton.mp z]
      exact .inr ⟨rfl, Nat.lt_succ_self _⟩
  · have := h.len
    rw [List.length_append]
    show L.length + 1 ≤ _
    omega
/-- q holds p within, and is another -/
def cont (p q : Nat × Nat) : Bool := decide (q.1 ≤ p.1) && (decide (p.2 ≤ q.2) && !decide (q = p))
def mxs (L : List (Nat × Nat)) (p : Nat × Nat) : Bool := (L.filter (cont p)).isEmpty
theorem SLI.ripe {s : Nat → Int} {n : Nat} {L : List (Nat × Nat)} (h : SLI s n n (n + 1) L) : RL s n (L.filter (mxs L)) := by
  have all : ∀ b e, St s b e → e ≤ n → (b, e) ∈ L := fun b e hs he => h.all b e hs he (by have := hs.1; omega)
  refine RL.of_lt (fun p hp => ?_) (fun b e r => ?_) ?_
  · obtain ⟨h1, h2⟩ := List.mem_filter.mp hp
    obtain ⟨h3, h4⟩ := h.st p h1
    refine ⟨h3, h4, fun b' e' hs he hb hi => ?_⟩
    apply Classical.byContradiction
    intro hn
    have hc : cont p (b', e') = true := by
      unfold cont
      rw [decide_eq_true (show (b', e').1 ≤ p.1 from hb), decide_eq_true (show p.2 ≤ (b', e').2 from hi), decide_eq_false (show ¬ (b', e') = p from fun q => hn ⟨congrArg Prod.fst q, congrArg Prod.snd q⟩)]
      rfl
    have hm : (b', e') ∈ L.filter (cont p) := List.mem_filter.mpr ⟨all b' e' hs he, hc⟩
    unfold mxs at h2
    rw [List.isEmpty_iff] at h2
    rw [h2] at hm
    cases hm
  · refine List.mem_filter.mpr ⟨all b e r.1 r.2.1, ?_⟩
    unfold mxs
    rw [List.isEmpty_iff, List.filter_eq_nil_iff]
    intro q hq hc
    unfold cont at hc
    simp only [Bool.and_eq_true, decide_eq_true_eq, Bool.not_eq_true', decide_eq_false_iff_not] at hc
    obtain ⟨h3, h4⟩ := h.st q hq
    have := r.2.2 q.1 q.2 h3 h4 hc.1 hc.2.1
    exact hc.2.2 (Prod.ext this.1 this.2)
  · refine (h.lt.filter _).imp fun {p q} hpq => ⟨?_, fun e => ?_⟩
    · rcases hpq with z | z <;> omega
    · subst e
      rcases hpq with z | z <;> omega
theorem SLI.skip {s : Nat → Int} {n i e e' : Nat} {L : List (Nat × Nat)} (h : SLI s n i e L) (hn : ∀ x, e ≤ x → ¬ St s i x) (hle : e ≤ e') : SLI s n i e' L := by
  refine ⟨h.st, fun b x hs he h2 => h.all b x hs he ?_, h.lt, fun p hp => ?_, ?_⟩
  · by_cases hz : b = i ∧ e ≤ x
    · obtain ⟨z1, z2⟩ := hz
      subst z1
      exact absurd hs (hn x z2)
    · omega
  · have := h.top p hp
    omega
  · have := h.len
    omega
/-- some stretch that stands by itself is worth as much as any two levels differ -/
theorem St.of_diff {s : Nat → Int} {i j : Nat} (hij : i < j) (h : s i < s j) : ∃ b e, i ≤ b ∧ b < e ∧ e ≤ j ∧ St s b e ∧ s j - s i ≤ s e - s b := by
  obtain ⟨e, e1, e2, e3, e4⟩ := argmax_first s i (j - i)
  have he := e4 j (by omega) (by omega)
  have hie : i ≠ e := fun q => by
    rw [← q] at he
    omega
  obtain ⟨b, b1, b2, b3, b4⟩ := argmin_last s i (e - i)
  have hb := b4 i (Nat.le_refl _) (by omega)
  have hbe : b ≠ e := fun q => by
    rw [q] at hb
    have := e3 i (Nat.le_refl _) (by omega)
    omega
  exact ⟨b, e, b1, by omega, by omega, ⟨by omega, fun x x1 x2 => b3 x x1 (by omega), fun x x1 x2 => e3 x (by omega) x2⟩, by omega⟩
theorem RL.best {s : Nat → Int} {n : Nat} {L : List (Nat × Nat)} (h : RL s n L) {i j : Nat} (hij : i < j) (hj : j ≤ n) (hd : s i < s j) : ∃ p ∈ L, s j - s i ≤ s p.2 - s p.1 := by
  obtain ⟨b, e, h1, h2, h3, h4, h5⟩ := St.of_diff hij hd
  obtain ⟨b', e', r, r1, r2⟩ := ripe_over (n := n) h4 (by omega)
  refine ⟨(b', e'), h.all b' e' r, ?_⟩
  have k1 : s b' ≤ s b := by
    by_cases hz : b' = b
    · subst hz
      exact Int.le_refl _
    · have := r.1.2.1 b (by omega) (by omega)
      omega
  have k2 : s e ≤ s e' := by
    by_cases hz : e = e'
    · subst hz
      exact Int.le_refl _
    · have := r.1.2.2 e (by omega) (by omega)
      omega
  show s j - s i ≤ s e' - s b'
  omega
theorem lev_add (g l : Int) {z : List Nat} {i : Nat} (h : i < z.length) : wor g l [z[i]] = lev g l z (i + 1) - lev g l z i := by
  rw [lev_succ g l h]
  show (if z[i] = 61 then g else -l) + 0 = _
  omega
end Sr

namespace L2
open PySem PySem.Spec PyProof.Rows
/-! ### text * int; is of truth values -/
theorem foldl_cps (c : Array Nat) : ∀ (n : Nat) (acc : Array Nat), ((List.replicate n c).foldl (· ++ ·) acc).toList = acc.toList ++ (List.replicate n c.toList).flatten
  | 0, acc => by simp
  | n + 1, acc => by
    rw [List.replicate_succ, List.foldl_cons, foldl_cps c n, List.replicate_succ, List.flatten_cons, Array.toList_append, List.append_assoc]
def rMulS : R2 := fun x y H Q => ∃ (z : Str) (n : Int), x = .str z ∧ y = .int n ∧ n ≤ 1000 ∧ -1000 ≤ n ∧ z.length ≤ 1000 ∧ Q (.str ⟨((List.replicate n.toNat z.cps.toList).flatten).toArray⟩) H
theorem rep_le (z : List Nat) (n : Nat) : ((List.replicate n z).flatten).length = n * z.length := by
  induction n with
  | zero => simp
  | succ n ih => rw [List.replicate_succ, List.flatten_cons, List.length_append, ih, Nat.succ_mul, Nat.add_comm]
theorem op_mulS {X : Cx} : OpR X (binaryOp .Mult) rMulS := by
  intro pins s σ H x y v u Q I rx ry h
  obtain ⟨z, n, rfl, rfl, h1, h2, hz, q⟩ := h
  obtain ⟨t, rfl⟩ := rx
  obtain ⟨t', rfl⟩ := ry
  have hlen : z.cps.toList.length = z.length := by simp [Str.length]
  have hm : z.length * n.toNat ≤ 1000 * 1000 := Nat.mul_le_mul hz (by omega)
  refine P.mul_str ?_ (fun h3 h4 => ?_) (fun h3 h4 => ?_) ?_
  · rw [decide_eq_false (by omega), decide_eq_false (by omega)]
    rfl
  · have h5 : (1000 : Int) ≤ (2 ^ 63 - 1) / n := Int.le_ediv_of_mul_le (by omega) (by omega)
    omega
  · unfold Builtin.Str.tooLong
    exact decide_eq_false (by have : (1000000 : Nat) ≤ sizeLine := by decide
                              omega)
  · by_cases h3 : n < 1
    · rw [if_pos h3]
      have e0 : n.toNat = 0 := by omega
      rw [e0] at q
      exact ⟨by decide, .str _, H, I.tok _, ⟨_, rfl⟩, q⟩
    · rw [if_neg h3]
      have ef : (⟨(List.replicate n.toNat z.cps).foldl (· ++ ·) #[]⟩ : Str) = ⟨((List.replicate n.toNat z.cps.toList).flatten).toArray⟩ := by
        have e := foldl_cps z.cps n.toNat #[]
        have e2 : (List.replicate n.toNat z.cps).foldl (· ++ ·) #[] = ((List.replicate n.toNat z.cps.toList).flatten).toArray := by
          apply Array.toList_inj.mp
          rw [e]
          simp
        rw [e2]
      by_cases h4 : (n == 1 || z.length == 0) = true
      · rw [if_pos h4]
        have ez : (⟨((List.replicate n.toNat z.cps.toList).flatten).toArray⟩ : Str) = z := by
          rcases Bool.or_eq_true _ _ |>.mp h4 with h5 | h5
          · have : n = 1 := by simpa using h5
            subst this
            show (⟨((List.replicate 1 z.cps.toList).flatten).toArray⟩ : Str) = z
            simp
          · have h6 : z.length = 0 := by simpa using h5
            have h7 : z.cps.toList = [] := List.length_eq_zero_iff.mp (by rw [hlen]; exact h6)
            apply TL.ext_tl
            show ((List.replicate n.toNat z.cps.toList).flatten) = z.cps.toList
            rw [h7]
            simp
        rw [ez] at q
        exact ⟨.str z, H, I, ⟨t, rfl⟩, q⟩
      · rw [if_neg h4, ef]
        refine ⟨?_, .str _, H, I.tok _, ⟨_, rfl⟩, q⟩
        show ((List.replicate n.toNat z.cps.toList).flatten).toArray.size ≤ sizeLine
        rw [List.size_toArray, rep_le, hlen]
        have : (1000000 : Nat) ≤ sizeLine := by decide
        have := Nat.mul_comm n.toNat z.length
        omega
theorem x_mulS {z : List Nat} {n : Int} {H : Hp} {Q : VK} (h1 : n ≤ 1000) (h2 : -1000 ≤ n) (hz : z.length ≤ 1000) (q : Q (.str (Sr.S (List.replicate n.toNat z).flatten)) H) : rMulS (.str (Sr.S z)) (.int n) H Q :=
  ⟨Sr.S z, n, rfl, rfl, h1, h2, by rw [Sr.len_S]; exact hz, q⟩
theorem x_isBl {a b : Bool} {H : Hp} {Q : VK} (q : Q (.bl (decide (a = b))) H) : rIsB (.bl a) (.bl b) H Q := ⟨a, b, rfl, rfl, q⟩
theorem x_notBl {a b : Bool} {H : Hp} {Q : VK} (q : Q (.bl (!decide (a = b))) H) : rNotB (.bl a) (.bl b) H Q := ⟨a, b, rfl, rfl, q⟩
section
variable {X : Cx} {K : PySem.W.Frag} {σ : St} {H : Hp} {Q : VK} {ta : TE} {t : TA}
theorem x_make {C : Addr} {sp : Sp} {dvs : List V} {E : XK} (q : t σ H fun vs H1 => ∀ x dx, H1 x = none → H1 dx = none → dx ≠ x → sp (.ref x :: (vs ++ dvs)) (upd (upd H1 dx (.own x)) x (.ins C dx [])) (fun v H2 => v = .non ∧ Q (.ref x) H2) E) : tMake C sp dvs E t σ H Q := q
theorem x_meth {C : Addr} {m : Str} {sp : Sp} {dvs : List V} {E : XK} (q : ta σ H fun x H1 => ∃ a dx fs, x = .ref a ∧ H1 a = some (.ins C dx fs) ∧ fs.lookup m = none ∧ t σ H1 fun vs H2 => sp (x :: (vs ++ dvs)) H2 Q E) : tMeth C m sp dvs E ta t σ H Q := q
end
end L2
namespace L2
open PySem PySem.Spec PyProof.Rows
theorem x_notT {K : PySem.W.Frag} {ta : TE} {σ : St} {H : Hp} {Q : VK} (q : ta σ H fun x H1 => ∃ k, TruV K x H1 k ∧ Q (.bl (!k)) H1) : tNotT K ta σ H Q := q
end L2

namespace Sr
open PySem PySem.Spec PyProof.Rows L2
/-! ### seeds: 35 a pick, 45 a gap; likes: 61 like, 47 unlike -/
def matB : List Nat → List Nat → Bool
  | [], _ => true
  | _ :: _, [] => false
  | c :: s, d :: z => !(c == 35 && d == 47) && matB s z
/-- a seed fits in likes at a place, any whole number -/
def fitsB (sd z : List Nat) (p : Int) : Bool := decide (0 ≤ p) && matB sd (z.drop p.toNat)
def seededB (sds : List (List Nat)) (z : List Nat) : Bool := sds.any fun sd => (List.range z.length).any fun p => fitsB sd z (p : Int)
theorem matB_iff : ∀ {sd z : List Nat}, matB sd z = true ↔ sd.length ≤ z.length ∧ ∀ k, k < sd.length → ¬ (sd[k]? = some 35 ∧ z[k]? = some 47)
  | [], z => by simp [matB]
  | c :: s, [] => by simp [matB]
  | c :: s, d :: z => by
    rw [matB, Bool.and_eq_true, matB_iff]
    constructor
    · rintro ⟨h1, h2, h3⟩
      refine ⟨by simpa using h2, fun k hk => ?_⟩
      cases k with
      | zero =>
        rintro ⟨e1, e2⟩
        have e1' : c = 35 := Option.some.inj e1
        have e2' : d = 47 := Option.some.inj e2
        subst e1' e2'
        simp at h1
      | succ k =>
        have := h3 k (by simpa using hk)
        simpa using this
    · rintro ⟨h2, h3⟩
      refine ⟨?_, by simpa using h2, fun k hk => ?_⟩
      · have := h3 0 (by simp)
        simp only [List.getElem?_cons_zero, Option.some.injEq] at this
        by_cases e1 : c = 35
        · by_cases e2 : d = 47
          · exact absurd ⟨e1, e2⟩ this
          · simp [e2]
        · simp [e1]
      · have := h3 (k + 1) (by simpa using hk)
        simpa using this
theorem fitsB_iff {sd z : List Nat} {p : Int} (h1 : 1 ≤ sd.length) : fitsB sd z p = true ↔ 0 ≤ p ∧ p + sd.length ≤ z.length ∧ ∀ k, k < sd.length → ¬ (sd[k]? = some 35 ∧ z[p.toNat + k]? = some 47) := by
  unfold fitsB
  rw [Bool.and_eq_true, decide_eq_true_eq, matB_iff, List.length_drop]
  constructor
  · rintro ⟨h2, h3, h4⟩
    refine ⟨h2, by omega, fun k hk => ?_⟩
    have := h4 k hk
    rw [List.getElem?_drop] at this
    exact this
  · rintro ⟨h2, h3, h4⟩
    refine ⟨h2, by omega, fun k hk => ?_⟩
    have := h4 k hk
    rw [List.getElem?_drop]
    exact this
/-- what a seed is -/
structure Sd (n : Nat) (sd : List Nat) : Prop where
  one : 1 ≤ sd.length
  most : sd.length ≤ n
  all : ∀ c ∈ sd, c = 35 ∨ c = 45
  first : sd[0]? = some 35
  last : sd[sd.length - 1]? = some 35
theorem Sd.wide {n m : Nat} {sd : List Nat} (h : Sd n sd) (hm : n ≤ m) : Sd m sd := ⟨h.one, Nat.le_trans h.most hm, h.all, h.first, h.last⟩
theorem eq_sign (c d : Nat) (x : Str) (hx : x = sg d) : decide (V.str (sg c) = V.str x) = decide (c = d) := by
  subst hx
  by_cases h : c = d
  · subst h
    rw [decide_eq_true rfl, decide_eq_true rfl]
  · rw [decide_eq_false h]
    refine decide_eq_false fun q => h ?_
    have : S [c] = S [d] := V.str.inj q
    exact (List.cons.inj (S_inj this)).1
/-- a list of ints is kept by a filter over a range -/
theorem range_filter_empty {f : Nat → Bool} {n : Nat} : ((List.range n).filter f).isEmpty = true ↔ ∀ k, k < n → ¬ f k = true := by
  rw [List.isEmpty_iff, List.filter_eq_nil_iff]
  exact ⟨fun h k hk => h k (List.mem_range.mpr hk), fun h k hk => h k (List.mem_range.mp hk)⟩
theorem range_filter_snoc (f : Nat → Bool) (n : Nat) : (List.range (n + 1)).filter f = (List.range n).filter f ++ if f n = true then [n] else [] := by
  rw [List.range_succ, List.filter_append, List.filter_cons]
  rfl
theorem filter_len_le (f : Nat → Bool) (n : Nat) : ((List.range n).filter f).length ≤ n := by
  have := List.length_filter_le f (List.range n)
  rw [List.length_range] at this
  exact this
/-- a comprehension over a range that keeps its own ints: a turn -/
theorem flt_yes {H0 H : Hp} {D : Addr} {f : Nat → Bool} {i : Nat} (hn : H0 D = none) (sm : Same H0 H) (hD : H D = some (.lst (((List.range i).filter f).map fun p => V.int (p : Nat)))) (hi : i ≤ 1000000) (hf : f i = true) {v : V} (hv : v = V.int (i : Nat)) :
    ∃ acc, H D = some (.lst acc) ∧ acc.length < sizeLine ∧ (Same H0 (upd H D (.lst (acc ++ [v]))) ∧ upd H D (.lst (acc ++ [v])) D = some (.lst (((List.range (i + 1)).filter f).map fun p => V.int (p : Nat)))) := by
  refine ⟨_, hD, ?_, fun b x e => ?_, ?_⟩
  · rw [List.length_map]
    exact Nat.lt_of_le_of_lt (Nat.le_trans (filter_len_le f i) hi) (by decide)
  · rw [upd_ne (ne_of_none e hn)]
    exact sm b x e
  · rw [upd_same, range_filter_snoc, if_pos hf, List.map_append, hv]
    rfl
theorem flt_no {H0 H : Hp} {D : Addr} {f : Nat → Bool} {i : Nat} (sm : Same H0 H) (hD : H D = some (.lst (((List.range i).filter f).map fun p => V.int (p : Nat)))) (hf : ¬ f i = true) :
    Same H0 H ∧ H D = some (.lst (((List.range (i + 1)).filter f).map fun p => V.int (p : Nat))) := by
  refine ⟨sm, ?_⟩
  rw [range_filter_snoc, if_neg hf, List.append_nil]
  exact hD
theorem map_int_nat (l : List Nat) : (l.map fun p => V.int (p : Nat)) = (l.map fun p => ((p : Nat) : Int)).map V.int := by rw [List.map_map]; rfl
theorem isEmpty_map {α β : Type} (f : α → β) (l : List α) : (l.map f).isEmpty = l.isEmpty := by cases l <;> rfl
/-- .. == [] of such a list -/
theorem eqD_nil {K : PySem.W.Frag} {H : Hp} {D p : Addr} {cs : List Int} (hD : H D = some (.lst (cs.map V.int))) (hp : H p = some (.lst [])) {Q : VK} (q : Q (.bl cs.isEmpty) H) : rEqD K (.ref D) (.ref p) H Q :=
  ⟨.list (cs.map PyData.int), .list [], .lst (SqL.of hD) (dp_ints _), .lst (SqL.of hp) .nil, shaped_ints _, by decide +kernel, by rw [eqv_ints_nil]; exact q⟩
theorem neD_nil {K : PySem.W.Frag} {H : Hp} {D p : Addr} {cs : List Int} (hD : H D = some (.lst (cs.map V.int))) (hp : H p = some (.lst [])) {Q : VK} (q : Q (.bl (!cs.isEmpty)) H) : rNeD K (.ref D) (.ref p) H Q :=
  ⟨.list (cs.map PyData.int), .list [], .lst (SqL.of hD) (dp_ints _), .lst (SqL.of hp) .nil, shaped_ints _, by decide +kernel, by rw [eqv_ints_nil]; exact q⟩
/-- texts as values -/
def strV (z : List Nat) : V := .str (S z)
end Sr
namespace Sr
theorem filter_any {α : Type} (f : α → Bool) : ∀ l : List α, (!(l.filter f).isEmpty) = l.any f
  | [] => rfl
  | x :: l => by
    rw [List.filter_cons, List.any_cons, ← filter_any f l]
    by_cases h : f x = true
    · rw [if_pos h, h]
      rfl
    · rw [if_neg h, Bool.eq_false_iff.mpr h, Bool.false_or]
end Sr
namespace Sr
open PySem PySem.Spec PyProof.Rows L2
/-! ### lists of texts as data -/
def strD (z : List Nat) : PyData := .str (S z)
theorem dp_strs {K : PySem.W.Frag} {H : Hp} : ∀ l : List (List Nat), DpAll K H (l.map strV) (l.map strD)
  | [] => .nil
  | c :: cs => .cons (.str _) (dp_strs cs)
theorem strOk_S {z : List Nat} (h : ∀ c ∈ z, c < 1114112) : PyData.strOk (S z) = true := by
  unfold PyData.strOk S
  rw [Array.all_eq_true']
  intro c hc
  exact decide_eq_true (h c (by simpa using hc))
def Cd (l : List (List Nat)) : Prop := ∀ z ∈ l, ∀ c ∈ z, c < 1114112
theorem lay_strs : ∀ {cs : List (List Nat)}, Cd cs → PyData.canLayAll0 (cs.map strD) = true
  | [], _ => by simp [PyData.canLayAll0]
  | c :: cs, hc => by
    have h := lay_strs (cs := cs) fun z hz => hc z (List.mem_cons_of_mem _ hz)
    rw [List.map_cons]
    simp only [strD, PyData.canLayAll0, PyData.canLay0, Bool.and_eq_true]
    exact ⟨strOk_S (hc c List.mem_cons_self), h⟩
theorem Cd.sds {m : Nat} {l : List (List Nat)} (h : ∀ sd ∈ l, Sd m sd) : Cd l := fun z hz c hc => by
  rcases (h z hz).all c hc with e | e <;> omega
theorem depth_strs : ∀ cs : List (List Nat), PyData.depthAll (cs.map strD) ≤ 1
  | [] => by simp [PyData.depthAll]
  | c :: cs => by
    have h := depth_strs cs
    simp [strD, PyData.depthAll, PyData.depth] at h ⊢
    omega
theorem shaped_strs {cs : List (List Nat)} (hc : Cd cs) : SeqAt.shaped (.list (cs.map strD)) = true := by
  unfold SeqAt.shaped
  rw [Bool.and_eq_true]
  refine ⟨lay_strs hc, decide_eq_true ?_⟩
  have h := depth_strs cs
  simp only [PyData.depth]
  omega
theorem eqv_strs_same {l : List (List Nat)} (hl : Cd l) : PyData.eqv (.list (l.map strD)) (.list (l.map strD)) = true := SeqAt.eqv_refl _ (lay_strs hl)
theorem ne_strs_same {K : PySem.W.Frag} {H : Hp} {a b : Addr} {l : List (List Nat)} (hl : Cd l) (ha : SqL K H a (l.map strV)) (hb : SqL K H b (l.map strV)) {Q : VK} (q : Q (.bl false) H) : rNeD K (.ref a) (.ref b) H Q :=
  ⟨.list (l.map strD), .list (l.map strD), .lst ha (dp_strs l), .lst hb (dp_strs l), shaped_strs hl, shaped_strs hl, by rw [eqv_strs_same hl]; exact q⟩
end Sr

namespace Sr
open PySem PySem.Spec PyProof.Rows L2
/-! ### the text -/
def topS (i : Nat) : Stmt := PySem.Challenge.pw_seedreach_k05_where_seeds_fit.main.body.getD i (.Pass ⟨0, 0, 0, 0⟩)
abbrev sunlike_under : Stmt := topS 3
abbrev nunlike_under : List Str := ["seed", "likes", "place", "at", "sign"]
theorem scunlike_under : FnScope nunlike_under ["seed", "likes", "place"] (defScope sunlike_under) := ⟨rfl, rfl, rfl, by decide +kernel, rfl, by decide +kernel, by decide +kernel⟩
abbrev sfits : Stmt := topS 4
abbrev nfits : List Str := ["seed", "likes", "place"]
theorem scfits : FnScope nfits ["seed", "likes", "place"] (defScope sfits) := ⟨rfl, rfl, rfl, by decide +kernel, rfl, by decide +kernel, by decide +kernel⟩
abbrev sis_seeded : Stmt := topS 5
abbrev nis_seeded : List Str := ["seeds", "likes", "seed", "place"]
theorem scis_seeded : FnScope nis_seeded ["seeds", "likes"] (defScope sis_seeded) := ⟨rfl, rfl, rfl, by decide +kernel, rfl, by decide +kernel, by decide +kernel⟩
abbrev s_law_next : Stmt := topS 7
abbrev n_law_next : List Str := ["_law_h", "_law_many", "_law_at", "_law_cell"]
theorem sc_law_next : FnScope n_law_next ["_law_h", "_law_many"] (defScope s_law_next) := ⟨rfl, rfl, rfl, by decide +kernel, rfl, by decide +kernel, by decide +kernel⟩
abbrev s_law_seed : Stmt := topS 8
abbrev n_law_seed : List Str := ["_law_h", "_law_most", "_law_size", "_law_k"]
theorem sc_law_seed : FnScope n_law_seed ["_law_h", "_law_most"] (defScope s_law_seed) := ⟨rfl, rfl, rfl, by decide +kernel, rfl, by decide +kernel, by decide +kernel⟩
abbrev s_law_seeds : Stmt := topS 9
abbrev n_law_seeds : List Str := ["_law_h", "_law_most", "_law_k"]
theorem sc_law_seeds : FnScope n_law_seeds ["_law_h", "_law_most"] (defScope s_law_seeds) := ⟨rfl, rfl, rfl, by decide +kernel, rfl, by decide +kernel, by decide +kernel⟩
abbrev s_law_likes : Stmt := topS 10
abbrev n_law_likes : List Str := ["_law_h", "_law_most", "_law_way", "_law_k"]
theorem sc_law_likes : FnScope n_law_likes ["_law_h", "_law_most"] (defScope s_law_likes) := ⟨rfl, rfl, rfl, by decide +kernel, rfl, by decide +kernel, by decide +kernel⟩
abbrev s_law_fits : Stmt := topS 11
abbrev n_law_fits : List Str := ["_law_seed_here", "_law_likes_here", "_law_place", "_law_k"]
theorem sc_law_fits : FnScope n_law_fits ["_law_seed_here", "_law_likes_here", "_law_place"] (defScope s_law_fits) := ⟨rfl, rfl, rfl, by decide +kernel, rfl, by decide +kernel, by decide +kernel⟩
abbrev s_law_seeded : Stmt := topS 12
abbrev n_law_seeded : List Str := ["_law_seeds_here", "_law_likes_here", "_law_seed_here", "_law_place"]
theorem sc_law_seeded : FnScope n_law_seeded ["_law_seeds_here", "_law_likes_here"] (defScope s_law_seeded) := ⟨rfl, rfl, rfl, by decide +kernel, rfl, by decide +kernel, by decide +kernel⟩
abbrev s_law_same : Stmt := topS 13
abbrev n_law_same : List Str := ["_law_found", "_law_due", "_law_k"]
theorem sc_law_same : FnScope n_law_same ["_law_found", "_law_due"] (defScope s_law_same) := ⟨rfl, rfl, rfl, by decide +kernel, rfl, by decide +kernel, by decide +kernel⟩
abbrev slaw : Stmt := topS 14
abbrev nlaw : List Str := ["_law_script", "_law_h", "_law_turn", "_law_seeds_here", "_law_likes_here", "_law_handed", "_law_seed_here", "_law_place"]
theorem sclaw : FnScope nlaw ["_law_script"] (defScope slaw) := ⟨rfl, rfl, rfl, by decide +kernel, rfl, by decide +kernel, by decide +kernel⟩
structure Dn (P : Program) (w : World) (K : PySem.W.Frag) (mg : Str → Option Value) (base : Heap) (x : Str) (k : Nat) (ps : List Str) (sp : Sp) (f : Addr) (fd : FuncData) : Prop where
  ok : FnOk P w K mg base CX0 k f fd ps sp
  g : mg x = some (.ref f)
  kp : PySem.W.keepIn K (.ref f) = true
  b : Binds K fd ps []
structure Bl (mg : Str → Option Value) : Prop where
  m_enumerate : mg "enumerate" = none
  m_len : mg "len" = none
  m_range : mg "range" = none
  m_max : mg "max" = none
  m_isinstance : mg "isinstance" = none
  m_str : mg "str" = none
  m_list : mg "list" = none
  m_tuple : mg "tuple" = none
  m_int : mg "int" = none
  m_bool : mg "bool" = none
structure Cs (mg : Str → Option Value) (uPICK uUNLIKE : Value) : Prop where
  c_PICK : RelV (.str "#") uPICK ∧ mg "PICK" = some uPICK
  c_UNLIKE : RelV (.str "/") uUNLIKE ∧ mg "UNLIKE" = some uUNLIKE
def ulK (sd z : List Nat) (p : Nat) (k : Nat) : Bool := decide (sd[k]? = some 35) && decide (z[p + k]? = some 47)
def ulL (sd z : List Nat) (p : Nat) : List Nat := (List.range sd.length).filter (ulK sd z p)
def spunlike_under (K : PySem.W.Frag) : Sp := fun vs H Q _ => ∃ (sd z : List Nat) (p : Nat), vs = [.str (S sd), .str (S z), .int (p : Nat)] ∧ sd.length ≤ 1000 ∧ p + sd.length ≤ z.length ∧ z.length ≤ 100000 ∧
  ∀ (D : Addr) (H' : Hp), Same H H' → H D = none → H' D = some (.lst ((ulL sd z p).map fun k => V.int ((p + k : Nat) : Int))) → Q (.ref D) H'
def spfits (K : PySem.W.Frag) : Sp := fun vs H Q _ => ∃ (sd z : List Nat) (p : Int), vs = [.str (S sd), .str (S z), .int p] ∧ Sd 8 sd ∧ Lk z ∧ z.length ≤ 1000 ∧ ∀ H', Same H H' → Q (.bl (fitsB sd z p)) H'
def spis_seeded (K : PySem.W.Frag) : Sp := fun vs H Q _ => ∃ (sp : Addr) (sds : List (List Nat)) (z : List Nat), vs = [.ref sp, .str (S z)] ∧ SqL K H sp (sds.map strV) ∧ (∀ sd ∈ sds, Sd 8 sd) ∧ 1 ≤ sds.length ∧ sds.length ≤ 3 ∧ Lk z ∧ z.length ≤ 1000 ∧ ∀ H', Same H H' → Q (.bl (seededB sds z)) H'
def sp_law_next (K : PySem.W.Frag) : Sp := fun vs H Q _ => ∃ (a b : Addr) (m : Int), vs = [.ref a, .int m] ∧ Src H a b ∧ 0 < m ∧ m < 1000000 ∧ ∀ (r : Int) (H' : Hp), 0 ≤ r → r < m → Src H' a b → Kp a b H H' → Q (.int r) H'
def sp_law_seed (K : PySem.W.Frag) : Sp := fun vs H Q _ => ∃ (a b : Addr) (m : Nat), vs = [.ref a, .int (m : Nat)] ∧ Src H a b ∧ 1 ≤ m ∧ m ≤ 100 ∧ ∀ (sd : List Nat) (H' : Hp), Sd m sd → Src H' a b → Kp a b H H' → Q (.str (S sd)) H'
def sp_law_seeds (K : PySem.W.Frag) : Sp := fun vs H Q _ => ∃ (a b : Addr) (m : Nat), vs = [.ref a, .int (m : Nat)] ∧ Src H a b ∧ 1 ≤ m ∧ m ≤ 100 ∧ ∀ (sp : Addr) (sds : List (List Nat)) (H' : Hp), (∀ sd ∈ sds, Sd m sd) → 1 ≤ sds.length → sds.length ≤ 3 → H' sp = some (.lst (sds.map strV)) → H sp = none → sp ≠ a → sp ≠ b → Src H' a b → Kp a b H H' → Q (.ref sp) H'
def sp_law_likes (K : PySem.W.Frag) : Sp := fun vs H Q _ => ∃ (a b : Addr) (m : Int), vs = [.ref a, .int m] ∧ Src H a b ∧ 0 ≤ m ∧ m ≤ 1000 ∧ ∀ (z : List Nat) (H' : Hp), (z.length : Int) ≤ m → Lk z → Src H' a b → Kp a b H H' → Q (.str (S z)) H'
def sp_law_fits (K : PySem.W.Frag) : Sp := fun vs H Q _ => ∃ (sd z : List Nat) (p : Int), vs = [.str (S sd), .str (S z), .int p] ∧ 1 ≤ sd.length ∧ sd.length ≤ 1000 ∧ z.length ≤ 1000000 ∧ ∀ H', Same H H' → Q (.bl (fitsB sd z p)) H'
def sp_law_seeded (K : PySem.W.Frag) : Sp := fun vs H Q _ => ∃ (sp : Addr) (sds : List (List Nat)) (z : List Nat), vs = [.ref sp, .str (S z)] ∧ SqL K H sp (sds.map strV) ∧ (∀ sd ∈ sds, 1 ≤ sd.length ∧ sd.length ≤ 1000) ∧ z.length ≤ 1000000 ∧ ∀ H', Same H H' → Q (.bl (seededB sds z)) H'
def sp_sameN (n : Nat) (K : PySem.W.Frag) : Sp := fun vs H Q _ => ∃ (x y : V) (d : PyData), vs = [x, y] ∧ Dp K H x d ∧ Dp K H y d ∧ Gd d ∧ d.depth + 1 ≤ n ∧ ∀ H', Same H H' → Q (.bl true) H'
def sp_law_same (K : PySem.W.Frag) : Sp := sp_sameN 12 K
def splaw (K : PySem.W.Frag) : Sp := fun vs H Q _ => ∃ (a : Addr) (ns : List Int), vs = [.ref a] ∧ SqL K H a (ns.map V.int) ∧ ns.length ≤ 63 ∧ ∀ H', Q (.bl true) H'
end Sr
local macro_rules | `(tactic| walk_at "hp") => `(tactic| first | assumption | exact L2.upd_same | exact (L2.upd_ne (by assumption)).trans (by walk_at "hp") | exact (L2.upd_ne (Ne.symm (by assumption))).trans (by walk_at "hp") | exact (L2.upd_ne (L2.ne_of_none (by assumption) (by assumption))).trans (by walk_at "hp"))
local macro_rules | `(tactic| walk_at "sql") => `(tactic| first | assumption | exact L2.SqL.of (by walk_at "hp"))
local macro_rules | `(tactic| walk_at "sqt") => `(tactic| first | assumption | exact L2.SqT.of (by walk_at "hp"))
local macro_rules | `(tactic| walk_at "vc01") => `(tactic| first
  | (with_reducible refine L2.x_seq ?_)
  | (with_reducible refine L2.x_asg ?_)
  | (with_reducible refine L2.x_name ?_)
  | (with_reducible refine L2.x_op ?_)
  | ((with_reducible (refine L2.x_var (v := ?v) ?hv ?_)); case hv => rfl)
  | (with_reducible refine L2.x_c ?_)
  | (with_reducible refine L2.x_rI0 ?_)
  | ((with_reducible (refine L2.x_rI ?hrI ?_)); case hrI => first | exact ⟨by omega, by omega⟩ | exact .inr ⟨by omega, by omega⟩ | exact .inl ⟨by omega, by omega⟩ | (show (0 : Int) < _; omega) | exact ⟨by omega, by omega, by omega⟩ | exact ⟨by decide, by decide, by decide⟩)
  | (with_reducible refine L2.x_rU ?_)
  | (with_reducible refine L2.x_un ?_)
  | ((with_reducible (refine L2.x_rEq ?hs ?_)); case hs => rfl)
  | ((with_reducible (refine L2.x_rNe ?hs ?_)); case hs => rfl)
  | (with_reducible refine L2.x_test ?_)
  | (with_reducible refine L2.x_b ?_)
  | (with_reducible refine L2.x_bl ?_)
  | (with_reducible refine L2.x_and ?_)
  | (with_reducible refine L2.x_or ?_)
  | (with_reducible refine L2.x_not ?_)
  | (with_reducible refine L2.x_notV ?_)
  | (with_reducible refine L2.x_andV ?_)
  | (with_reducible refine L2.x_orV ?_)
  | (with_reducible refine L2.x_cons ?_)
  | (with_reducible refine L2.x_nil ?_)
  | (with_reducible refine L2.x_tup ?_)
  | (with_reducible refine L2.x_lst ?_)
  | (with_reducible refine L2.x_cb ?_)
  | (with_reducible refine L2.x_call ?_)
  | (with_reducible refine L2.x_chain ?_)
  | (with_reducible refine L2.x_next ?_)
  | (with_reducible refine L2.x_drop ?_)
  | (with_reducible refine L2.x_ret ?_)
  | (with_reducible refine L2.x_gCons ?_)
  | (with_reducible refine L2.x_gNil ?_)
  | (with_reducible refine L2.x_gSub ?_)
  | (with_reducible refine L2.x_bm ?_)
  | (with_reducible refine L2.x_m1 ?_)
  | (with_reducible refine L2.x_m1s ?_)
  | (with_reducible refine L2.x_sl ?_)
  | (with_reducible refine L2.x_noPart ?_)
  | (with_reducible refine L2.x_part ?_)
  | (with_reducible refine L2.x_parti ?_)
  | (with_reducible refine L2.x_rng1 ?_)
  | (with_reducible refine L2.x_rng2 ?_)
  | (with_reducible refine L2.x_lcR ?_)
  | (with_reducible refine L2.x_yes ?_)
  | (with_reducible refine L2.x_iList ?_)
  | (with_reducible refine L2.x_iStr ?_)
  | (with_reducible refine L2.x_iStri ?_)
  | (with_reducible refine L2.x_for ?_)
  | ((with_reducible (refine L2.x_rng2i ?h1 ?_)); (case h1 => exact ⟨by omega, by omega, by omega, by omega⟩))
  | (with_reducible refine L2.x_two ?_)
  | (with_reducible refine L2.x_chain3 ?_)
  | (with_reducible refine L2.x_iEnumS ?_)
  | (with_reducible refine L2.x_par ?_)
  | (with_reducible refine L2.x_parv ?_)
  | ((with_reducible (refine L2.x_aug (x := ?x) ?h ?_)); (case h => rfl))
  | (with_reducible refine L2.x_ipI ?_)
  | (with_reducible refine L2.iteT ?_)
  | (with_reducible refine L2.iteF ?_)
  | (with_reducible refine L2.x_iteNT ?_)
  | (with_reducible refine L2.x_iteNF ?_)
  | (with_reducible refine L2.x_s1 ?_)
  | (with_reducible refine L2.x_rIntB ?_)
  | ((with_reducible (refine L2.x_addS ?h1 ?_)); (case h1 => first | assumption | exact L2.hp_sz (by omega)))
  | (with_reducible refine L2.x_intB ?_)
  | ((with_reducible (refine L2.x_rng1i ?h1 ?h2 ?_)); (case h1 => omega); (case h2 => omega))
  | ((with_reducible (refine L2.x_lenS ?h1 ?_)); (case h1 => first | assumption | exact L2.hp_sz (by omega)))
  | ((with_reducible (refine L2.x_lenL (ys := ?ys) ?h1 ?_)); (case h1 => first | assumption | exact .inl (by walk_at "sql") | exact .inr (by walk_at "sqt")))
  | ((with_reducible (refine L2.x_setL (xs := ?xs) (k := ?k) ?h1 ?h2 ?_)); (case h1 => walk_at "hp"); (case h2 => first | assumption | rfl | exact L2.atI_nat (j := 0) rfl))
  | ((with_reducible (refine L2.x_ixL (xs := ?xs) (v := ?v) ?h1 ?h2 ?_)); (case h1 => walk_at "sql"); (case h2 => first | assumption | rfl | exact L2.atI_nat (j := 0) rfl))
  | ((with_reducible (refine L2.x_ixT (xs := ?xs) (v := ?v) ?h1 ?h2 ?_)); (case h1 => walk_at "sqt"); (case h2 => first | assumption | rfl | exact L2.atI_nat (j := 0) rfl))
  | (with_reducible refine L2.x_enumS ?_)
  | ((with_reducible (refine L2.x_gTup (xs := ?xs) ?h1 ?h2 ?_)); (case h1 => walk_at "sqt"); (case h2 => rfl)))
local macro_rules | `(tactic| walk_at "vc1") => `(tactic| first | (walk_at "vc01") | (with_reducible refine L2.x_ifE ?_) | (with_reducible refine L2.x_ifS ?_))
local macro_rules | `(tactic| walk_at "vc0") => `(tactic| repeat (walk_at "vc01"))
local macro_rules | `(tactic| walk_at "vc") => `(tactic| repeat (walk_at "vc1"))
namespace Sr
open PySem PySem.Spec PyProof.Rows L2
section
variable {P : Program} {w : World} {K : PySem.W.Frag} {mg : Str → Option Value} {base : Heap}
theorem okunlike_under {f : Addr} {fd : FuncData} {uPICK uUNLIKE : Value} (F : Fun K "unlike_under" "unlike_under" sunlike_under f fd) (B : Bl mg) (C : Cs mg uPICK uUNLIKE) : FnOk P w K mg base CX0 1 f fd ["seed", "likes", "place"] (spunlike_under K) := by
  refine F.ok scunlike_under (fun vs H Q E h => ?_) (fun cdv A outer s H vs Q E hr h => ?_)
  · first
      | (obtain ⟨_, rfl, _⟩ := h; rfl)
      | (obtain ⟨_, _, rfl, _⟩ := h; rfl)
      | (obtain ⟨_, _, _, rfl, _⟩ := h; rfl)
      | (obtain ⟨_, _, _, _, rfl, _⟩ := h; rfl)
      | (obtain ⟨_, _, _, _, _, rfl, _⟩ := h; rfl)
      | (obtain ⟨_, _, _, _, _, _, rfl, _⟩ := h; rfl)
      | (obtain ⟨_, _, _, _, _, _, _, rfl, _⟩ := h; rfl)
      | (obtain ⟨_, _, _, _, _, _, _, _, rfl, _⟩ := h; rfl)
      | (obtain ⟨_, _, _, _, _, _, _, _, _, rfl, _⟩ := h; rfl)
      | (obtain ⟨_, _, _, _, _, _, _, _, _, _, rfl, _⟩ := h; rfl)
      | (obtain ⟨_, _, _, _, _, _, _, _, _, _, _, rfl, _⟩ := h; rfl)
  · obtain ⟨sd, z, p, rfl, h1, h2, h3, q⟩ := h
    have ls : (S sd).length ≤ sizeLine := hp_sz (by rw [len_S]; omega)
    have lz : (S z).length ≤ sizeLine := hp_sz (by rw [len_S]; omega)
    refine ⟨_, 
  (pss_one (ps_ret (pe_lc (own := [("at", 3), ("sign", 4)]) (g := gTup K 2 (gCons (gName 3) (gCons (gName 4) gNil))) rfl scunlike_under.nd (pi_enumS (by rfl) B.m_enumerate (pa_cons (pv 0) pa_nil)) (blkOk_by (N := nunlike_under) (sc := defScope sunlike_under) (by decide +kernel)) (fun _ _ _ _ _ => (pg_tup rfl (pgs_cons (pg_name (i := 3) scunlike_under.nd rfl (.inl rfl)) (pgs_cons (pg_name (i := 4) scunlike_under.nd rfl (.inl rfl)) pgs_nil)))) (fun _ _ _ _ _ => pts_one (PW.pt (pw_and (pt_cmpR op_eq (pv 4) (pe_glob rfl C.c_PICK.2 C.c_PICK.1) (nomark _)) (pw_and1 (pt_cmpR op_eq (pe_ix ix_str (pv 1) (pe_op op_add (pv 2) (pv 3)) (fun _ _ => rfl)) (pe_glob rfl C.c_UNLIKE.2 C.c_UNLIKE.1) (nomark _)))))) (fun _ _ _ _ _ => (pe_op op_add (pv 2) (pv 3)))))), ?_⟩
    walk_at "vc"
    intro D hD
    refine lc_it (walk_enumS (x := S sd)) (fun i H' => Same H H' ∧ H' D = some (.lst (((List.range i).filter (ulK sd z p)).map fun k => V.int ((p + k : Nat) : Int)))) ⟨same_upd hD, upd_same⟩ (fun _ _ _ _ => trivial) ?_ ?_
    · rintro i x H1 H2 hi ⟨sm, hD1⟩ ⟨T, c, rfl, hTn, hc, rfl⟩
      have hi' : i < sd.length := hi
      have ec : sd[i]? = some c := by simpa [S] using hc
      have hz : p + i < z.length := by omega
      have sm1 : Same H1 (upd H1 T (.tup [.int (i : Nat), .str ⟨#[c]⟩])) := same_upd hTn
      have hTT : upd H1 T (.tup [.int (i : Nat), .str ⟨#[c]⟩]) T = some (.tup [.int (i : Nat), .str ⟨#[c]⟩]) := upd_same
      have hD2 := sm1 _ _ hD1
      have sm2 := sm.trans sm1
      generalize upd H1 T (.tup [.int (i : Nat), .str ⟨#[c]⟩]) = H3 at sm1 hTT hD2 sm2
      refine x_gTup (SqT.of hTT) rfl ?_
      walk_at "vc"
      refine ⟨rfl, ?_⟩
      walk_at "vc"
      rw [show (⟨#[c]⟩ : Str) = sg c from rfl, eq_sign c 35 (Str.ofString "#") rfl]
      refine ite2 (fun e => ?_) (fun e => ?_)
      · have e35 : c = 35 := of_decide_eq_true e
        walk_at "vc"
        refine x_ixS lz (c := z[p + i]) (atI_of (by omega) (by rw [show (((p : Nat) : Int) + ((i : Nat) : Int)).toNat = p + i by omega]; exact List.getElem?_eq_getElem hz)) ?_
        walk_at "vc"
        rw [show (⟨#[z[p + i]]⟩ : Str) = sg z[p + i] from rfl, eq_sign z[p + i] 47 (Str.ofString "/") rfl]
        refine ite2 (fun e => ?_) (fun e => ?_)
        · have e47 : z[p + i] = 47 := of_decide_eq_true e
          walk_at "vc"
          refine ⟨_, hD2, ?_, fun b o e => ?_, ?_⟩
          · rw [List.length_map]
            exact Nat.lt_of_le_of_lt (filter_len_le _ i) (Nat.lt_of_le_of_lt (by omega : i ≤ 1000) (by decide))
          · rw [upd_ne (ne_of_none e hD)]
            exact sm2 b o e
          · rw [upd_same, range_filter_snoc, if_pos (by unfold ulK; rw [ec, List.getElem?_eq_getElem hz, e35, e47]; rfl), List.map_append]
            rfl
        · have e47 : ¬ z[p + i] = 47 := fun h => e (decide_eq_true h)
          refine ⟨sm2, ?_⟩
          rw [range_filter_snoc, if_neg (by unfold ulK; rw [List.getElem?_eq_getElem hz]; simp [e47]), List.append_nil]
          exact hD2
      · have e35 : ¬ c = 35 := fun h => e (decide_eq_true h)
        walk_at "vc"
        refine ⟨sm2, ?_⟩
        rw [range_filter_snoc, if_neg (by unfold ulK; rw [ec]; simp [e35]), List.append_nil]
        exact hD2
    · rintro H1 ⟨sm, hD1⟩
      rw [show (S sd).cps.size = sd.length from len_S sd] at hD1
      exact q D H1 sm hD hD1


theorem ulL_fits {sd z : List Nat} {p : Int} (h1 : 1 ≤ sd.length) (h0 : 0 ≤ p) (h2 : p + sd.length ≤ z.length) : (ulL sd z p.toNat).isEmpty = fitsB sd z p := by
  have hiff : (ulL sd z p.toNat).isEmpty = true ↔ fitsB sd z p = true := by
    unfold ulL
    rw [range_filter_empty, fitsB_iff h1]
    refine ⟨fun hh => ⟨by omega, by omega, fun k hk hc => hh k hk ?_⟩, fun hh k hk hc => hh.2.2 k hk ?_⟩
    · unfold ulK
      rw [decide_eq_true hc.1, decide_eq_true hc.2]
      rfl
    · unfold ulK at hc
      simpa using hc
  cases hb : fitsB sd z p with
  | true => exact hiff.mpr hb
  | false =>
    cases hc : (ulL sd z p.toNat).isEmpty with
    | false => rfl
    | true =>
      rw [hiff.mp hc] at hb
      cases hb
theorem okfits {f : Addr} {fd : FuncData} {funlike_under : Addr} {fdunlike_under : FuncData} (F : Fun K "fits" "fits" sfits f fd) (B : Bl mg) (Dunlike_under : Dn P w K mg base "unlike_under" 1 ["seed", "likes", "place"] (spunlike_under K) funlike_under fdunlike_under) : FnOk P w K mg base CX0 2 f fd ["seed", "likes", "place"] (spfits K) := by
  refine F.ok scfits (fun vs H Q E h => ?_) (fun cdv A outer s H vs Q E hr h => ?_)
  · first
      | (obtain ⟨_, rfl, _⟩ := h; rfl)
      | (obtain ⟨_, _, rfl, _⟩ := h; rfl)
      | (obtain ⟨_, _, _, rfl, _⟩ := h; rfl)
      | (obtain ⟨_, _, _, _, rfl, _⟩ := h; rfl)
      | (obtain ⟨_, _, _, _, _, rfl, _⟩ := h; rfl)
      | (obtain ⟨_, _, _, _, _, _, rfl, _⟩ := h; rfl)
      | (obtain ⟨_, _, _, _, _, _, _, rfl, _⟩ := h; rfl)
      | (obtain ⟨_, _, _, _, _, _, _, _, rfl, _⟩ := h; rfl)
      | (obtain ⟨_, _, _, _, _, _, _, _, _, rfl, _⟩ := h; rfl)
      | (obtain ⟨_, _, _, _, _, _, _, _, _, _, rfl, _⟩ := h; rfl)
      | (obtain ⟨_, _, _, _, _, _, _, _, _, _, _, rfl, _⟩ := h; rfl)
  · obtain ⟨sd, z, p, rfl, hsd, hLk, h3, q⟩ := h
    have h1 := hsd.one
    have h8 := hsd.most
    have es : ((S sd).length : Int) = sd.length := by rw [len_S]
    have ez : ((S z).length : Int) = z.length := by rw [len_S]
    have ls : (S sd).length ≤ sizeLine := hp_sz (by rw [len_S]; omega)
    have lz : (S z).length ≤ sizeLine := hp_sz (by rw [len_S]; omega)
    refine ⟨_, 
  (pss_cons (ps_if (PW.pt (pw_or (pt_cmpR op_lt (pv 2) pe_int (nomark _)) (pw_or1 (pt_cmpR op_gt (pe_op op_add (pv 2) (pe_callB call_len_str (by rfl) B.m_len PySem.boot_len (pa_cons (pv 0) pa_nil))) (pe_callB call_len_str (by rfl) B.m_len PySem.boot_len (pa_cons (pv 1) pa_nil)) (nomark _))))) 
    (pss_one (ps_ret pe_bl)) pss_nil) 
  (pss_one (ps_ret (pe_notT (pe_call Dunlike_under.ok hr (by rfl) Dunlike_under.g Dunlike_under.kp Dunlike_under.b .nil pass0 (pa_cons (pv 0) (pa_cons (pv 1) (pa_cons (pv 2) pa_nil)))))))), ?_⟩
    walk_at "vc"
    have no : ¬ (0 ≤ p ∧ p + sd.length ≤ z.length) → fitsB sd z p = false := fun hn => by
      cases hb : fitsB sd z p with
      | false => rfl
      | true =>
        have := (fitsB_iff h1).mp hb
        omega
    by_cases hp0 : p < 0
    · rw [decide_eq_true hp0]
      walk_at "vc"
      have := q H (Same.refl _)
      rw [no (by omega)] at this
      exact this
    rw [decide_eq_false hp0]
    walk_at "vc"
    by_cases hp1 : ((S z).length : Int) < p + ((S sd).length : Int)
    · rw [decide_eq_true hp1]
      walk_at "vc"
      have := q H (Same.refl _)
      rw [no (by omega)] at this
      exact this
    rw [decide_eq_false hp1]
    walk_at "vc"
    have ep : p = ((p.toNat : Nat) : Int) := by omega
    refine x_notT ?_
    walk_at "vc"
    refine ⟨sd, z, p.toNat, by rw [← ep]; rfl, by omega, by omega, by omega, fun D H' sm _ hD => ?_⟩
    refine ⟨!(ulL sd z p.toNat).isEmpty, .inl ⟨_, SqL.of hD, by rw [isEmpty_map]⟩, ?_⟩
    rw [Bool.not_not, ulL_fits h1 (by omega) (by omega)]
    exact q _ sm


/-- past the last place at which it lies within it doesn't fit -/
theorem any_short {sd z : List Nat} (h1 : 1 ≤ sd.length) : (List.range ((z.length : Int) - (sd.length : Int) + 1).toNat).any (fun p : Nat => fitsB sd z (p : Int)) = (List.range z.length).any (fun p : Nat => fitsB sd z (p : Int)) := by
  rw [Bool.eq_iff_iff, List.any_eq_true, List.any_eq_true]
  constructor
  · rintro ⟨p, hp, hf⟩
    have := List.mem_range.mp hp
    exact ⟨p, List.mem_range.mpr (by omega), hf⟩
  · rintro ⟨p, hp, hf⟩
    have := (fitsB_iff h1).mp hf
    exact ⟨p, List.mem_range.mpr (by omega), hf⟩
theorem okis_seeded {f : Addr} {fd : FuncData} {ffits : Addr} {fdfits : FuncData} (F : Fun K "is_seeded" "is_seeded" sis_seeded f fd) (B : Bl mg) (Dfits : Dn P w K mg base "fits" 2 ["seed", "likes", "place"] (spfits K) ffits fdfits) : FnOk P w K mg base CX0 3 f fd ["seeds", "likes"] (spis_seeded K) := by
  refine F.ok scis_seeded (fun vs H Q E h => ?_) (fun cdv A outer s H vs Q E hr h => ?_)
  · first
      | (obtain ⟨_, rfl, _⟩ := h; rfl)
      | (obtain ⟨_, _, rfl, _⟩ := h; rfl)
      | (obtain ⟨_, _, _, rfl, _⟩ := h; rfl)
      | (obtain ⟨_, _, _, _, rfl, _⟩ := h; rfl)
      | (obtain ⟨_, _, _, _, _, rfl, _⟩ := h; rfl)
      | (obtain ⟨_, _, _, _, _, _, rfl, _⟩ := h; rfl)
      | (obtain ⟨_, _, _, _, _, _, _, rfl, _⟩ := h; rfl)
      | (obtain ⟨_, _, _, _, _, _, _, _, rfl, _⟩ := h; rfl)
      | (obtain ⟨_, _, _, _, _, _, _, _, _, rfl, _⟩ := h; rfl)
      | (obtain ⟨_, _, _, _, _, _, _, _, _, _, rfl, _⟩ := h; rfl)
      | (obtain ⟨_, _, _, _, _, _, _, _, _, _, _, rfl, _⟩ := h; rfl)
  · obtain ⟨sp, sds, z, rfl, hsp, hsd, h1, h3, hLk, hz, q⟩ := h
    have ez : ((S z).length : Int) = z.length := by rw [len_S]
    have lz : (S z).length ≤ sizeLine := hp_sz (by rw [len_S]; omega)
    refine ⟨_, 
  (pss_cons (ps_for PassesOwn.never rfl (pi_list (pv 0)) (pg_name (i := 2) scis_seeded.nd rfl (.inl rfl)) 
    (pss_one (ps_for PassesOwn.never rfl (pi_range1 rfl B.m_range (pa_cons (pe_op op_add (pe_op op_sub (pe_callB call_len_str (by rfl) B.m_len PySem.boot_len (pa_cons (pv 1) pa_nil)) (pe_callB call_len_str (by rfl) B.m_len PySem.boot_len (pa_cons (pv 2) pa_nil))) pe_int) pa_nil)) (pg_name (i := 3) scis_seeded.nd rfl (.inl rfl)) 
      (pss_one (ps_if (pt_val (pe_call Dfits.ok hr (by rfl) Dfits.g Dfits.kp Dfits.b .nil pass0 (pa_cons (pv 2) (pa_cons (pv 1) (pa_cons (pv 3) pa_nil))))) 
        (pss_one (ps_ret pe_bl)) pss_nil))))) 
  (pss_one (ps_ret pe_bl))), ?_⟩
    walk_at "vc"
    refine x_iListi hsp ?_
    refine for_list (K := K) (a := sp) (xs := sds.map strV) (fun i σ H' => (∃ y2 y3, σ = [some (.ref sp), some (.str (S z)), y2, y3]) ∧ Same H H' ∧ ∀ j sd, j < i → sds[j]? = some sd → (List.range z.length).any (fun p : Nat => fitsB sd z (p : Int)) = false) ⟨⟨_, _, rfl⟩, Same.refl _, fun j sd h => by omega⟩ (fun i σ H' _ h => h.2.1.seq hsp) ?_ ?_
    · rintro i x σ H1 hx ⟨⟨y2, y3, rfl⟩, sm, hall⟩
      have hi : i < sds.length := by
        have := (List.getElem?_eq_some_iff.mp hx).1
        rw [List.length_map] at this
        exact this
      have ex : x = V.str (S sds[i]) := by
        rw [List.getElem?_map, List.getElem?_eq_getElem hi] at hx
        exact (Option.some.inj hx).symm
      subst ex
      have hm : sds[i] ∈ sds := List.getElem_mem hi
      have hsi : sds[i]? = some sds[i] := List.getElem?_eq_getElem hi
      have hl := hsd _ hm
      generalize hsde : sds[i] = sd at hm hsi hl
      have l1 := hl.one
      have l8 := hl.most
      have es : ((S sd).length : Int) = sd.length := by rw [len_S]
      have lsd : (S sd).length ≤ sizeLine := hp_sz (by rw [len_S]; omega)
      walk_at "vc"
      have en : (((S z).length : Int) - ((S sd).length : Int) + 1).toNat = ((z.length : Int) - (sd.length : Int) + 1).toNat := by rw [es, ez]
      rw [en]
      refine for_range (fun j σ H' => (∃ y3, σ = [some (.ref sp), some (.str (S z)), some (.str (S sd)), y3]) ∧ Same H H' ∧ ∀ p : Nat, p < j → fitsB sd z (p : Int) = false) ⟨⟨_, rfl⟩, sm, fun p h => by omega⟩ ?_ ?_
      · rintro j σ H2 hj ⟨⟨y3, rfl⟩, sm2, hall2⟩
        walk_at "vc"
        have e0 : (0 : Int) + (j : Int) = ((j : Nat) : Int) := Int.zero_add _
        refine ⟨sd, z, (j : Nat), by rw [e0]; rfl, hl, hLk, hz, fun H3 sm3 => ?_⟩
        walk_at "vc"
        refine ite2 (fun e => ?_) (fun e => ?_)
        · walk_at "vc"
          have := q _ (sm2.trans sm3)
          have et : seededB sds z = true := by
            unfold seededB
            exact List.any_eq_true.mpr ⟨sd, hm, by rw [← any_short l1]; exact List.any_eq_true.mpr ⟨j, List.mem_range.mpr hj, e⟩⟩
          rw [et] at this
          exact this
        · walk_at "vc"
          refine ⟨⟨_, rfl⟩, sm2.trans sm3, fun p hp => ?_⟩
          by_cases hpj : p = j
          · rw [hpj]; exact Bool.eq_false_iff.mpr e
          · exact hall2 p (by omega)
      · rintro σ H2 ⟨⟨y3, rfl⟩, sm2, hall2⟩
        walk_at "vc"
        refine ⟨⟨_, _, rfl⟩, sm2, fun k s hk hs => ?_⟩
        by_cases hki : k = i
        · subst hki
          have : s = sd := Option.some.inj (hs.symm.trans hsi)
          rw [this, ← any_short l1, List.any_eq_false]
          intro p hp he
          rw [hall2 p (List.mem_range.mp hp)] at he
          cases he
        · exact hall k s (by omega) hs
    · rintro σ H1 ⟨⟨y2, y3, rfl⟩, sm, hall⟩
      walk_at "vc"
      have := q _ sm
      have ef : seededB sds z = false := by
        unfold seededB
        rw [List.any_eq_false]
        intro sd hm he
        obtain ⟨j, hj⟩ := List.getElem?_of_mem hm
        have hjl := (List.getElem?_eq_some_iff.mp hj).1
        rw [hall j sd (by rw [List.length_map]; exact hjl) hj] at he
        cases he
      rw [ef] at this
      exact this


theorem ok_law_next {f : Addr} {fd : FuncData} (F : Fun K "_law_next" "_law_next" s_law_next f fd) (B : Bl mg) : FnOk P w K mg base CX0 1 f fd ["_law_h", "_law_many"] (sp_law_next K) := by
  refine F.ok sc_law_next (fun vs H Q E h => ?_) (fun cdv A outer s H vs Q E hr h => ?_)
  · first
      | (obtain ⟨_, rfl, _⟩ := h; rfl)
      | (obtain ⟨_, _, rfl, _⟩ := h; rfl)
      | (obtain ⟨_, _, _, rfl, _⟩ := h; rfl)
      | (obtain ⟨_, _, _, _, rfl, _⟩ := h; rfl)
      | (obtain ⟨_, _, _, _, _, rfl, _⟩ := h; rfl)
      | (obtain ⟨_, _, _, _, _, _, rfl, _⟩ := h; rfl)
      | (obtain ⟨_, _, _, _, _, _, _, rfl, _⟩ := h; rfl)
      | (obtain ⟨_, _, _, _, _, _, _, _, rfl, _⟩ := h; rfl)
      | (obtain ⟨_, _, _, _, _, _, _, _, _, rfl, _⟩ := h; rfl)
      | (obtain ⟨_, _, _, _, _, _, _, _, _, _, rfl, _⟩ := h; rfl)
      | (obtain ⟨_, _, _, _, _, _, _, _, _, _, _, rfl, _⟩ := h; rfl)
  · obtain ⟨a, b, m, rfl, ⟨nab, s0, i0, cs, ha, hb, hcs⟩, hm, hm2, q⟩ := h
    refine ⟨_, 
  (pss_cons (ps_set (i := 2) sc_law_next.nd rfl (.inl rfl) (pe_op op_mod (pe_ix ix_list (pv 0) pe_int (fun _ _ => rfl)) (pe_callB (call_max2 rfl) (by rfl) B.m_max (by decide +kernel) (pa_cons pe_int (pa_cons (pe_callB call_len_seq (by rfl) B.m_len PySem.boot_len (pa_cons (pe_ix ix_list (pv 0) pe_int (fun _ _ => rfl)) pa_nil)) pa_nil))))) 
  (pss_cons (ps_set (i := 3) sc_law_next.nd rfl (.inl rfl) (pe_ifExp (pt_cmpR (op_neD hr.units) (pe_ix ix_list (pv 0) pe_int (fun _ _ => rfl)) (pe_lst pa_nil) (nomark _)) (pe_ix ix_list (pe_ix ix_list (pv 0) pe_int (fun _ _ => rfl)) (pv 2) (fun _ _ => rfl)) pe_int)) 
  (pss_cons (ps_if (pt_cmpR op_ge (pv 3) (pe_op op_pow pe_int pe_int) (nomark _)) 
    (pss_cons (ps_asg (pe_op op_fdiv (pv 3) (pv 1)) (pg_sub (pe_ix ix_list (pv 0) pe_int (fun _ _ => rfl)) (pv 2) set_list)) 
    (pss_one (ps_ret (pe_op op_mod (pv 3) (pv 1))))) pss_nil) 
  (pss_cons (ps_asg (pe_op op_mod (pe_op op_add (pe_op op_add (pe_op op_mul (pe_ix ix_list (pv 0) pe_int (fun _ _ => rfl)) pe_int) (pe_op op_mul (pv 3) pe_int)) pe_int) pe_int) (pg_sub (pv 0) pe_int set_list)) 
  (pss_cons (ps_asg (pe_op op_add (pe_ix ix_list (pv 0) pe_int (fun _ _ => rfl)) pe_int) (pg_sub (pv 0) pe_int set_list)) 
  (pss_one (ps_ret (pe_op op_mod (pe_op op_fdiv (pe_ix ix_list (pv 0) pe_int (fun _ _ => rfl)) pe_int) (pv 1))))))))), ?_⟩
    walk_at "vc"
    refine ⟨by decide, fun p hp => ?_⟩
    have kp : Kp a b H (upd H p (.lst [])) := Kp.new hp
    have ha1 : upd H p (.lst []) a = some (HO.lst [V.int s0, V.ref b, V.int i0]) := by rw [upd_ne (ne_of_none ha hp)]; exact ha
    have hb1 : upd H p (.lst []) b = some (HO.lst (List.map V.int cs)) := by rw [upd_ne (ne_of_none hb hp)]; exact hb
    have hp1 : upd H p (.lst []) p = some (HO.lst []) := upd_same
    generalize upd H p (.lst []) = H1 at kp ha1 hb1 hp1
    refine ⟨.list (cs.map PyData.int), .list [], .lst (SqL.of hb1) (dp_ints cs), .lst (SqL.of hp1) .nil, shaped_ints cs, by decide +kernel, ?_⟩
    have hat : ∃ at_ : Int, (i0 % if ((cs.map V.int).length : Int) > 1 then ((cs.map V.int).length : Int) else 1) = at_ ∧ 0 ≤ at_ ∧ (cs ≠ [] → at_ < (cs.length : Int)) := by
      refine ⟨_, rfl, Int.emod_nonneg _ (by split <;> omega), fun hne => ?_⟩
      have hl : 0 < cs.length := List.length_pos_iff.mpr hne
      rw [List.length_map]
      by_cases h1 : (cs.length : Int) > 1
      · rw [if_pos h1]
        exact Int.emod_lt_of_pos _ (by omega)
      · rw [if_neg h1]
        have := Int.emod_lt_of_pos i0 (show (0 : Int) < 1 by omega)
        omega
    obtain ⟨at_, eat, hat0, hat1⟩ := hat
    rw [eat]
    rw [eqv_ints_nil]
    walk_at "vc"
    by_cases hne : cs = []
    · subst hne
      refine iteF ?_
      walk_at "vc"
      refine ite2 (fun e => absurd (of_decide_eq_true e) (by decide)) (fun e => ?_)
      walk_at "vc"
      refine q _ _ (Int.emod_nonneg _ (by omega)) (Int.emod_lt_of_pos _ hm) ⟨nab, _, _, [], upd_same, ?_, by decide⟩ (kp.trans (Kp.at_a.trans Kp.at_a))
      walk_at "hp"
    · have hb0 : (!cs.isEmpty) = true := by
        cases cs with
        | nil => exact absurd rfl hne
        | cons _ _ => rfl
      rw [hb0]
      refine iteT ?_
      have hl : at_.toNat < cs.length := by have := hat1 hne; omega
      have hix : atI (cs.map V.int) at_ = some (.int cs[at_.toNat]) := atI_of hat0 (ints_at hl)
      have hix2 : ixN (cs.map V.int).length at_ = some at_.toNat := ixN_of hat0 (by rw [List.length_map]; exact hat1 hne)
      walk_at "vc"
      refine ite2 (fun e => ?_) (fun e => ?_)
      · walk_at "vc"
        refine q _ _ (Int.emod_nonneg _ (by omega)) (Int.emod_lt_of_pos _ hm) ⟨nab, s0, i0, cs.set at_.toNat (cs[at_.toNat] / m), ?_, ?_, by rw [List.length_set]; exact hcs⟩ (kp.trans Kp.at_b)
        · walk_at "hp"
        · rw [← map_set_int]
          exact upd_same
      · walk_at "vc"
        refine q _ _ (Int.emod_nonneg _ (by omega)) (Int.emod_lt_of_pos _ hm) ⟨nab, _, _, cs, upd_same, ?_, hcs⟩ (kp.trans (Kp.at_a.trans Kp.at_a))
        walk_at "hp"


theorem ok_law_seed {f : Addr} {fd : FuncData} {f_law_next : Addr} {fd_law_next : FuncData} (F : Fun K "_law_seed" "_law_seed" s_law_seed f fd) (B : Bl mg) (D_law_next : Dn P w K mg base "_law_next" 1 ["_law_h", "_law_many"] (sp_law_next K) f_law_next fd_law_next) : FnOk P w K mg base CX0 2 f fd ["_law_h", "_law_most"] (sp_law_seed K) := by
  refine F.ok sc_law_seed (fun vs H Q E h => ?_) (fun cdv A outer s H vs Q E hr h => ?_)
  · first
      | (obtain ⟨_, rfl, _⟩ := h; rfl)
      | (obtain ⟨_, _, rfl, _⟩ := h; rfl)
      | (obtain ⟨_, _, _, rfl, _⟩ := h; rfl)
      | (obtain ⟨_, _, _, _, rfl, _⟩ := h; rfl)
      | (obtain ⟨_, _, _, _, _, rfl, _⟩ := h; rfl)
      | (obtain ⟨_, _, _, _, _, _, rfl, _⟩ := h; rfl)
      | (obtain ⟨_, _, _, _, _, _, _, rfl, _⟩ := h; rfl)
      | (obtain ⟨_, _, _, _, _, _, _, _, rfl, _⟩ := h; rfl)
      | (obtain ⟨_, _, _, _, _, _, _, _, _, rfl, _⟩ := h; rfl)
      | (obtain ⟨_, _, _, _, _, _, _, _, _, _, rfl, _⟩ := h; rfl)
      | (obtain ⟨_, _, _, _, _, _, _, _, _, _, _, rfl, _⟩ := h; rfl)
  · obtain ⟨a, b, m, rfl, hs, hm0, hm1, q⟩ := h
    refine ⟨_, 
  (pss_cons (ps_set (i := 2) sc_law_seed.nd rfl (.inl rfl) (pe_op op_add pe_int (pe_call D_law_next.ok hr (by rfl) D_law_next.g D_law_next.kp D_law_next.b .nil pass0 (pa_cons (pv 0) (pa_cons (pv 1) pa_nil))))) 
  (pss_cons (ps_if (pt_cmpR op_eq (pv 2) pe_int (nomark _)) 
    (pss_one (ps_ret pe_str)) pss_nil) 
  (pss_one (ps_ret (pe_op op_add_str (pe_op op_add_str pe_str (pe_join pe_str (pe_lc (own := [("_law_k", 3)]) (g := gName 3) (tt := tYes) rfl sc_law_seed.nd (pi_range1 rfl B.m_range (pa_cons (pe_op op_sub (pv 2) pe_int) pa_nil)) (blkOk_by (N := n_law_seed) (sc := defScope s_law_seed) (by decide +kernel)) (fun _ _ _ _ _ => (pg_name (i := 3) sc_law_seed.nd rfl (.inl rfl))) (fun _ _ _ _ _ => pts_nil) (fun _ _ _ _ _ => (pe_ix ix_str pe_str (pe_call D_law_next.ok hr (by rfl) D_law_next.g D_law_next.kp D_law_next.b .nil pass0 (pa_cons (pv 0) (pa_cons pe_int pa_nil))) (fun _ _ => rfl)))))) pe_str))))), ?_⟩
    walk_at "vc"
    refine ⟨a, b, (m : Nat), rfl, hs, by omega, by omega, fun r H1 r0 r1 hs1 k1 => ?_⟩
    walk_at "vc"
    refine ite2 (fun e => ?_) (fun e => ?_)
    · walk_at "vc"
      exact q [35] H1 ⟨Nat.le_refl _, hm0, fun c hc => .inl (List.mem_singleton.mp hc), rfl, rfl⟩ hs1 k1
    · have e1 : 1 + r ≠ 1 := fun h => e (decide_eq_true (by rw [h]))
      walk_at "vc"
      intro D hD
      have en : (1 + r - 2).toNat = (r - 1).toNat := by omega
      rw [en]
      refine lc_range (fun i H' => Dr a b H1 D (fun c => c = 35 ∨ c = 45) i H') (Dr.start hs1 hD) (fun i H' hi h => ?_) (fun H' h => ?_)
      · have hsd : Src H' a b := by obtain ⟨_, _, _, x, _⟩ := h; exact x
        walk_at "vc"
        refine ⟨rfl, ?_⟩
        walk_at "vc"
        refine ⟨a, b, 2, rfl, hsd, by omega, by omega, fun r' H3 r2 r3 hs3 k3 => ?_⟩
        have key : ∃ c : Nat, atI ("#-" : Str).cps.toList r' = some c ∧ (c = 35 ∨ c = 45) := by
          have : r' = 0 ∨ r' = 1 := by omega
          rcases this with rfl | rfl
          · exact ⟨35, by decide +kernel, .inl rfl⟩
          · exact ⟨45, by decide +kernel, .inr rfl⟩
        obtain ⟨c, ec, hc⟩ := key
        refine x_ixS (by decide +kernel) ec ?_
        exact h.step (c := c) hD hs1 (by omega) hs3 k3 hc
      · obtain ⟨cs, hcl, hok, hsd, kd, hDd⟩ := h
        refine x_join (ys := cs.map sg) (SqL.of (by rw [lst_map_signs]; exact hDd)) (by have e := signs_len cs; show ((List.map sg cs).map (·.length)).sum + (cs.map sg).length * ("" : Str).length ≤ _; omega) ?_
        rw [show Txt.join (Str.ofString "") (cs.map sg) = S cs from join_signs _]
        have e1 : (Str.ofString "#") = S [35] := rfl
        rw [e1]
        refine ⟨S [35], S cs, rfl, rfl, hp_sz (by rw [len_S, len_S]; show 1 + cs.length ≤ _; omega), ?_⟩
        rw [S_app]
        walk_at "vc"
        refine ⟨S ([35] ++ cs), S [35], rfl, rfl, hp_sz (by rw [len_S, len_S, List.length_append]; show 1 + cs.length + 1 ≤ _; omega), ?_⟩
        rw [S_app]
        refine q ([35] ++ cs ++ [35]) H' ⟨?_, ?_, fun c hc => ?_, rfl, ?_⟩ hsd (k1.trans kd)
        · rw [List.length_append]
          show 1 ≤ _ + 1
          omega
        · rw [List.length_append, List.length_append]
          show 1 + cs.length + 1 ≤ m
          omega
        · rcases List.mem_append.mp hc with z | z
          · rcases List.mem_append.mp z with z | z
            · exact .inl (List.mem_singleton.mp z)
            · exact hok c z
          · exact .inl (List.mem_singleton.mp z)
        · rw [List.getElem?_append_right (by simp)]
          simp


theorem ok_law_seeds {f : Addr} {fd : FuncData} {f_law_seed : Addr} {fd_law_seed : FuncData} {f_law_next : Addr} {fd_law_next : FuncData} (F : Fun K "_law_seeds" "_law_seeds" s_law_seeds f fd) (B : Bl mg) (D_law_seed : Dn P w K mg base "_law_seed" 2 ["_law_h", "_law_most"] (sp_law_seed K) f_law_seed fd_law_seed) (D_law_next : Dn P w K mg base "_law_next" 1 ["_law_h", "_law_many"] (sp_law_next K) f_law_next fd_law_next) : FnOk P w K mg base CX0 3 f fd ["_law_h", "_law_most"] (sp_law_seeds K) := by
  refine F.ok sc_law_seeds (fun vs H Q E h => ?_) (fun cdv A outer s H vs Q E hr h => ?_)
  · first
      | (obtain ⟨_, rfl, _⟩ := h; rfl)
      | (obtain ⟨_, _, rfl, _⟩ := h; rfl)
      | (obtain ⟨_, _, _, rfl, _⟩ := h; rfl)
      | (obtain ⟨_, _, _, _, rfl, _⟩ := h; rfl)
      | (obtain ⟨_, _, _, _, _, rfl, _⟩ := h; rfl)
      | (obtain ⟨_, _, _, _, _, _, rfl, _⟩ := h; rfl)
      | (obtain ⟨_, _, _, _, _, _, _, rfl, _⟩ := h; rfl)
      | (obtain ⟨_, _, _, _, _, _, _, _, rfl, _⟩ := h; rfl)
      | (obtain ⟨_, _, _, _, _, _, _, _, _, rfl, _⟩ := h; rfl)
      | (obtain ⟨_, _, _, _, _, _, _, _, _, _, rfl, _⟩ := h; rfl)
      | (obtain ⟨_, _, _, _, _, _, _, _, _, _, _, rfl, _⟩ := h; rfl)
  · obtain ⟨a, b, m, rfl, hs, hm0, hm1, q⟩ := h
    refine ⟨_, 
  (pss_one (ps_ret (pe_lc (own := [("_law_k", 2)]) (g := gName 2) (tt := tYes) rfl sc_law_seeds.nd (pi_range1 rfl B.m_range (pa_cons (pe_op op_add pe_int (pe_call D_law_next.ok (hr.mono (by decide)) (by rfl) D_law_next.g D_law_next.kp D_law_next.b .nil pass0 (pa_cons (pv 0) (pa_cons pe_int pa_nil)))) pa_nil)) (blkOk_by (N := n_law_seeds) (sc := defScope s_law_seeds) (by decide +kernel)) (fun _ _ _ _ _ => (pg_name (i := 2) sc_law_seeds.nd rfl (.inl rfl))) (fun _ _ _ _ _ => pts_nil) (fun _ _ _ _ _ => (pe_call D_law_seed.ok hr (by rfl) D_law_seed.g D_law_seed.kp D_law_seed.b .nil pass0 (pa_cons (pv 0) (pa_cons (pv 1) pa_nil))))))), ?_⟩
    walk_at "vc"
    refine ⟨a, b, 3, rfl, hs, by omega, by omega, fun r H1 r0 r1 hs1 k1 => ?_⟩
    walk_at "vc"
    intro D hD
    have na := hs1.ne_a hD
    have nb := hs1.ne_b hD
    refine lc_range (fun i H' => ∃ sds : List (List Nat), sds.length = i ∧ (∀ sd ∈ sds, Sd m sd) ∧ Src H' a b ∧ Kp a b H1 H' ∧ H' D = some (.lst (sds.map strV))) ⟨[], rfl, (fun c h => nomatch h), hs1.new hD, Kp.new hD, upd_same⟩ (fun i H' hi h => ?_) (fun H' h => ?_)
    · obtain ⟨sds, hl, hok, hsd, kd, hDd⟩ := h
      walk_at "vc"
      refine ⟨rfl, ?_⟩
      walk_at "vc"
      refine ⟨a, b, m, rfl, hsd, hm0, hm1, fun sd H2 hsd2 hs2 k2 => ?_⟩
      refine ⟨_, k2 D _ na nb hDd, by rw [List.length_map, hl]; exact Nat.lt_of_le_of_lt (by omega : i ≤ 1000) (by decide), sds ++ [sd], by rw [List.length_append, hl]; rfl, fun s hs' => ?_, hs2.upd na nb, fun p o h1 h2 e => ?_, ?_⟩
      · rcases List.mem_append.mp hs' with z | z
        · exact hok s z
        · rw [List.mem_singleton.mp z]
          exact hsd2
      · rw [upd_ne (ne_of_none e hD)]
        exact k2 p o h1 h2 (kd p o h1 h2 e)
      · rw [upd_same, List.map_append]
        rfl
    · obtain ⟨sds, hl, hok, hsd, kd, hDd⟩ := h
      have hD0 : H D = none := by
        cases e : H D with
        | none => rfl
        | some o =>
          have := k1 D o na nb e
          rw [hD] at this
          cases this
      exact q D sds H' hok (by omega) (by omega) hDd hD0 na nb hsd (k1.trans kd)


theorem ok_law_likes {f : Addr} {fd : FuncData} {f_law_next : Addr} {fd_law_next : FuncData} (F : Fun K "_law_likes" "_law_likes" s_law_likes f fd) (B : Bl mg) (D_law_next : Dn P w K mg base "_law_next" 1 ["_law_h", "_law_many"] (sp_law_next K) f_law_next fd_law_next) : FnOk P w K mg base CX0 2 f fd ["_law_h", "_law_most"] (sp_law_likes K) := by
  refine F.ok sc_law_likes (fun vs H Q E h => ?_) (fun cdv A outer s H vs Q E hr h => ?_)
  · first
      | (obtain ⟨_, rfl, _⟩ := h; rfl)
      | (obtain ⟨_, _, rfl, _⟩ := h; rfl)
      | (obtain ⟨_, _, _, rfl, _⟩ := h; rfl)
      | (obtain ⟨_, _, _, _, rfl, _⟩ := h; rfl)
      | (obtain ⟨_, _, _, _, _, rfl, _⟩ := h; rfl)
      | (obtain ⟨_, _, _, _, _, _, rfl, _⟩ := h; rfl)
      | (obtain ⟨_, _, _, _, _, _, _, rfl, _⟩ := h; rfl)
      | (obtain ⟨_, _, _, _, _, _, _, _, rfl, _⟩ := h; rfl)
      | (obtain ⟨_, _, _, _, _, _, _, _, _, rfl, _⟩ := h; rfl)
      | (obtain ⟨_, _, _, _, _, _, _, _, _, _, rfl, _⟩ := h; rfl)
      | (obtain ⟨_, _, _, _, _, _, _, _, _, _, _, rfl, _⟩ := h; rfl)
  · obtain ⟨a, b, m, rfl, hs, hm0, hm1, q⟩ := h
    refine ⟨_, 
  (pss_cons (ps_set (i := 2) sc_law_likes.nd rfl (.inr rfl) (pe_op op_add pe_int (pe_call D_law_next.ok hr (by rfl) D_law_next.g D_law_next.kp D_law_next.b .nil pass0 (pa_cons (pv 0) (pa_cons pe_int pa_nil))))) 
  (pss_one (ps_ret (pe_join pe_str (pe_lc (own := [("_law_k", 3)]) (g := gName 3) (tt := tYes) rfl sc_law_likes.nd (pi_range1 rfl B.m_range (pa_cons (pe_call D_law_next.ok hr (by rfl) D_law_next.g D_law_next.kp D_law_next.b .nil pass0 (pa_cons (pv 0) (pa_cons (pe_op op_add (pv 1) pe_int) pa_nil))) pa_nil)) (blkOk_by (N := n_law_likes) (sc := defScope s_law_likes) (by decide +kernel)) (fun _ _ _ _ _ => (pg_name (i := 3) sc_law_likes.nd rfl (.inl rfl))) (fun _ _ _ _ _ => pts_nil) (fun _ _ _ _ _ => (pe_ifExp (pt_cmpR op_eq (pe_call D_law_next.ok hr (by rfl) D_law_next.g D_law_next.kp D_law_next.b .nil pass0 (pa_cons (pv 0) (pa_cons (pe_op op_add (pv 2) pe_int) pa_nil))) pe_int (nomark _)) pe_str pe_str))))))), ?_⟩
    walk_at "vc"
    refine ⟨a, b, 5, rfl, hs, by omega, by omega, fun r H1 r0 r1 hs1 k1 => ?_⟩
    walk_at "vc"
    refine ⟨a, b, m + 1, rfl, hs1, by omega, by omega, fun r2 H2 r20 r21 hs2 k2 => ?_⟩
    walk_at "vc"
    intro D hD
    refine lc_range (fun i H' => Dr a b H2 D (fun c => c = 61 ∨ c = 47) i H') (Dr.start hs2 hD) (fun i H' hi h => ?_) (fun H' h => ?_)
    · have hsd : Src H' a b := by obtain ⟨_, _, _, x, _⟩ := h; exact x
      walk_at "vc"
      refine ⟨rfl, ?_⟩
      walk_at "vc"
      refine ⟨a, b, 1 + r + 1, rfl, hsd, by omega, by omega, fun r' H3 r2 r3 hs3 k3 => ?_⟩
      walk_at "vc"
      refine ite2 (fun e => ?_) (fun e => ?_)
      · walk_at "vc"
        exact h.step (c := 47) hD hs2 (by omega) hs3 k3 (.inr rfl)
      · walk_at "vc"
        exact h.step (c := 61) hD hs2 (by omega) hs3 k3 (.inl rfl)
    · obtain ⟨cs, hcl, hok, hsd, kd, hDd⟩ := h
      refine join_end (cs := cs) hDd (by omega) ?_
      exact q cs H' (by omega) hok hsd (k1.trans (k2.trans kd))


theorem ok_law_fits {f : Addr} {fd : FuncData} (F : Fun K "_law_fits" "_law_fits" s_law_fits f fd) (B : Bl mg) : FnOk P w K mg base CX0 1 f fd ["_law_seed_here", "_law_likes_here", "_law_place"] (sp_law_fits K) := by
  refine F.ok sc_law_fits (fun vs H Q E h => ?_) (fun cdv A outer s H vs Q E hr h => ?_)
  · first
      | (obtain ⟨_, rfl, _⟩ := h; rfl)
      | (obtain ⟨_, _, rfl, _⟩ := h; rfl)
      | (obtain ⟨_, _, _, rfl, _⟩ := h; rfl)
      | (obtain ⟨_, _, _, _, rfl, _⟩ := h; rfl)
      | (obtain ⟨_, _, _, _, _, rfl, _⟩ := h; rfl)
      | (obtain ⟨_, _, _, _, _, _, rfl, _⟩ := h; rfl)
      | (obtain ⟨_, _, _, _, _, _, _, rfl, _⟩ := h; rfl)
      | (obtain ⟨_, _, _, _, _, _, _, _, rfl, _⟩ := h; rfl)
      | (obtain ⟨_, _, _, _, _, _, _, _, _, rfl, _⟩ := h; rfl)
      | (obtain ⟨_, _, _, _, _, _, _, _, _, _, rfl, _⟩ := h; rfl)
      | (obtain ⟨_, _, _, _, _, _, _, _, _, _, _, rfl, _⟩ := h; rfl)
  · obtain ⟨sd, z, p, rfl, h1, h2, h3, q⟩ := h
    have es : ((S sd).length : Int) = sd.length := by rw [len_S]
    have ez : ((S z).length : Int) = z.length := by rw [len_S]
    have ls : (S sd).length ≤ sizeLine := hp_sz (by rw [len_S]; omega)
    have lz : (S z).length ≤ sizeLine := hp_sz (by rw [len_S]; omega)
    refine ⟨_, 
  (pss_cons (ps_if (PW.pt (pw_or (pt_cmpR op_lt (pv 2) pe_int (nomark _)) (pw_or1 (pt_cmpR op_gt (pe_op op_add (pv 2) (pe_callB call_len_str (by rfl) B.m_len PySem.boot_len (pa_cons (pv 0) pa_nil))) (pe_callB call_len_str (by rfl) B.m_len PySem.boot_len (pa_cons (pv 1) pa_nil)) (nomark _))))) 
    (pss_one (ps_ret pe_bl)) pss_nil) 
  (pss_one (ps_ret (pe_cmpR (op_eqD hr.units) (pe_lc (own := [("_law_k", 3)]) (g := gName 3) rfl sc_law_fits.nd (pi_range1 rfl B.m_range (pa_cons (pe_callB call_len_str (by rfl) B.m_len PySem.boot_len (pa_cons (pv 0) pa_nil)) pa_nil)) (blkOk_by (N := n_law_fits) (sc := defScope s_law_fits) (by decide +kernel)) (fun _ _ _ _ _ => (pg_name (i := 3) sc_law_fits.nd rfl (.inl rfl))) (fun _ _ _ _ _ => pts_one (PW.pt (pw_and (pt_cmpR op_eq (pe_ix ix_str (pv 0) (pv 3) (fun _ _ => rfl)) pe_str (nomark _)) (pw_and1 (pt_cmpR op_eq (pe_ix ix_str (pv 1) (pe_op op_add (pv 2) (pv 3)) (fun _ _ => rfl)) pe_str (nomark _)))))) (fun _ _ _ _ _ => (pv 3))) (pe_lst pa_nil) (nomark _))))), ?_⟩
    walk_at "vc"
    have no : ¬ (0 ≤ p ∧ p + sd.length ≤ z.length) → fitsB sd z p = false := fun hn => by
      cases hb : fitsB sd z p with
      | false => rfl
      | true =>
        have := (fitsB_iff h1).mp hb
        omega
    by_cases hp0 : p < 0
    · rw [decide_eq_true hp0]
      walk_at "vc"
      have := q H (Same.refl _)
      rw [no (by omega)] at this
      exact this
    rw [decide_eq_false hp0]
    walk_at "vc"
    by_cases hp1 : ((S z).length : Int) < p + ((S sd).length : Int)
    · rw [decide_eq_true hp1]
      walk_at "vc"
      have := q H (Same.refl _)
      rw [no (by omega)] at this
      exact this
    rw [decide_eq_false hp1]
    walk_at "vc"
    intro D hD
    have en : (((S sd).length : Nat) : Int).toNat = sd.length := by rw [len_S]; rfl
    rw [en]
    refine lc_range (fun i H' => Same H H' ∧ H' D = some (.lst (((List.range i).filter (fun k => decide (sd[k]? = some 35) && decide (z[p.toNat + k]? = some 47))).map fun p => V.int (p : Nat)))) ⟨same_upd hD, upd_same⟩ (fun i H' hi h => ?_) (fun H' h => ?_)
    · have hz : p.toNat + i < z.length := by omega
      have e0 : (0 : Int) + (i : Int) = ((i : Nat) : Int) := Int.zero_add _
      have e1 : p + ((i : Nat) : Int) = ((p.toNat + i : Nat) : Int) := by omega
      walk_at "vc"
      refine ⟨rfl, ?_⟩
      walk_at "vc"
      rw [e0]
      refine x_ixS ls (c := sd[i]) (atI_nat (List.getElem?_eq_getElem hi)) ?_
      walk_at "vc"
      rw [show (⟨#[sd[i]]⟩ : Str) = sg sd[i] from rfl, eq_sign sd[i] 35 (Str.ofString "#") rfl]
      refine ite2 (fun e => ?_) (fun e => ?_)
      · have e35 : sd[i] = 35 := of_decide_eq_true e
        walk_at "vc"
        rw [e1]
        refine x_ixS lz (c := z[p.toNat + i]) (atI_nat (List.getElem?_eq_getElem hz)) ?_
        walk_at "vc"
        rw [show (⟨#[z[p.toNat + i]]⟩ : Str) = sg z[p.toNat + i] from rfl, eq_sign z[p.toNat + i] 47 (Str.ofString "/") rfl]
        by_cases e47 : z[p.toNat + i] = 47
        · rw [decide_eq_true e47]
          walk_at "vc"
          exact flt_yes hD h.1 h.2 (by omega) (by rw [List.getElem?_eq_getElem hi, List.getElem?_eq_getElem hz, e35, e47]; rfl) rfl
        · rw [decide_eq_false e47]
          walk_at "vc"
          refine flt_no h.1 h.2 ?_
          rw [List.getElem?_eq_getElem hz]
          simp [e47]
      · have e35 : ¬ sd[i] = 35 := fun h => e (decide_eq_true h)
        walk_at "vc"
        refine flt_no h.1 h.2 ?_
        rw [List.getElem?_eq_getElem hi]
        simp [e35]
    · walk_at "vc"
      refine ⟨by decide, fun p3 hp3 => ?_⟩
      have hD1 := h.2
      rw [map_int_nat] at hD1
      refine eqD_nil (by rw [upd_ne (ne_of_none hD1 hp3)]; exact hD1) upd_same ?_
      have eb : (((List.range sd.length).filter (fun k => decide (sd[k]? = some 35) && decide (z[p.toNat + k]? = some 47))).map fun p => ((p : Nat) : Int)).isEmpty = fitsB sd z p := by
        rw [isEmpty_map]
        have hiff : ((List.range sd.length).filter (fun k => decide (sd[k]? = some 35) && decide (z[p.toNat + k]? = some 47))).isEmpty = true ↔ fitsB sd z p = true := by
          rw [range_filter_empty, fitsB_iff h1]
          refine ⟨fun hh => ⟨by omega, by omega, fun k hk hc => hh k hk ?_⟩, fun hh k hk hc => hh.2.2 k hk ?_⟩
          · rw [decide_eq_true hc.1, decide_eq_true hc.2]
            rfl
          · simpa using hc
        cases hb : fitsB sd z p with
        | true => exact hiff.mpr hb
        | false =>
          cases hc : ((List.range sd.length).filter (fun k => decide (sd[k]? = some 35) && decide (z[p.toNat + k]? = some 47))).isEmpty with
          | false => rfl
          | true =>
            rw [hiff.mp hc] at hb
            cases hb
      rw [eb]
      exact q _ (h.1.trans (same_upd hp3))


theorem ok_law_seeded {f : Addr} {fd : FuncData} {f_law_fits : Addr} {fd_law_fits : FuncData} (F : Fun K "_law_seeded" "_law_seeded" s_law_seeded f fd) (B : Bl mg) (D_law_fits : Dn P w K mg base "_law_fits" 1 ["_law_seed_here", "_law_likes_here", "_law_place"] (sp_law_fits K) f_law_fits fd_law_fits) : FnOk P w K mg base CX0 2 f fd ["_law_seeds_here", "_law_likes_here"] (sp_law_seeded K) := by
  refine F.ok sc_law_seeded (fun vs H Q E h => ?_) (fun cdv A outer s H vs Q E hr h => ?_)
  · first
      | (obtain ⟨_, rfl, _⟩ := h; rfl)
      | (obtain ⟨_, _, rfl, _⟩ := h; rfl)
      | (obtain ⟨_, _, _, rfl, _⟩ := h; rfl)
      | (obtain ⟨_, _, _, _, rfl, _⟩ := h; rfl)
      | (obtain ⟨_, _, _, _, _, rfl, _⟩ := h; rfl)
      | (obtain ⟨_, _, _, _, _, _, rfl, _⟩ := h; rfl)
      | (obtain ⟨_, _, _, _, _, _, _, rfl, _⟩ := h; rfl)
      | (obtain ⟨_, _, _, _, _, _, _, _, rfl, _⟩ := h; rfl)
      | (obtain ⟨_, _, _, _, _, _, _, _, _, rfl, _⟩ := h; rfl)
      | (obtain ⟨_, _, _, _, _, _, _, _, _, _, rfl, _⟩ := h; rfl)
      | (obtain ⟨_, _, _, _, _, _, _, _, _, _, _, rfl, _⟩ := h; rfl)
  · obtain ⟨sp, sds, z, rfl, hsp, hsd, hz, q⟩ := h
    have ez : ((S z).length : Int) = z.length := by rw [len_S]
    have lz : (S z).length ≤ sizeLine := hp_sz (by rw [len_S]; omega)
    refine ⟨_, 
  (pss_cons (ps_for PassesOwn.never rfl (pi_list (pv 0)) (pg_name (i := 2) sc_law_seeded.nd rfl (.inr rfl)) 
    (pss_one (ps_if (pt_cmpR (op_neD hr.units) (pe_lc (own := [("_law_place", 3)]) (g := gName 3) rfl sc_law_seeded.nd (pi_range1 rfl B.m_range (pa_cons (pe_callB call_len_str (by rfl) B.m_len PySem.boot_len (pa_cons (pv 1) pa_nil)) pa_nil)) (blkOk_by (N := n_law_seeded) (sc := defScope s_law_seeded) (by decide +kernel)) (fun _ _ _ _ _ => (pg_name (i := 3) sc_law_seeded.nd rfl (.inl rfl))) (fun _ _ _ _ _ => pts_one (pt_val (pe_call D_law_fits.ok hr (by rfl) D_law_fits.g D_law_fits.kp D_law_fits.b .nil pass0 (pa_cons (pv 2) (pa_cons (pv 1) (pa_cons (pv 3) pa_nil)))))) (fun _ _ _ _ _ => (pv 3))) (pe_lst pa_nil) (nomark _)) 
      (pss_one (ps_ret pe_bl)) pss_nil))) 
  (pss_one (ps_ret pe_bl))), ?_⟩
    walk_at "vc"
    refine x_iListi hsp ?_
    refine for_list (K := K) (a := sp) (xs := sds.map strV) (fun i σ H' => (∃ y2 y3, σ = [some (.ref sp), some (.str (S z)), y2, y3]) ∧ Same H H' ∧ ∀ j sd, j < i → sds[j]? = some sd → (List.range z.length).any (fun p : Nat => fitsB sd z (p : Int)) = false) ⟨⟨_, _, rfl⟩, Same.refl _, fun j sd h => by omega⟩ (fun i σ H' _ h => h.2.1.seq hsp) ?_ ?_
    · rintro i x σ H1 hx ⟨⟨y2, y3, rfl⟩, sm, hall⟩
      have hi : i < sds.length := by
        have := (List.getElem?_eq_some_iff.mp hx).1
        rw [List.length_map] at this
        exact this
      have ex : x = strV sds[i] := by
        rw [List.getElem?_map, List.getElem?_eq_getElem hi] at hx
        exact (Option.some.inj hx).symm
      subst ex
      have hm : sds[i] ∈ sds := List.getElem_mem hi
      have hsi : sds[i]? = some sds[i] := List.getElem?_eq_getElem hi
      have hl := hsd _ hm
      generalize hsde : sds[i] = sd at hm hsi hl
      walk_at "vc"
      intro D hD
      have en : (((S z).length : Nat) : Int).toNat = z.length := by rw [len_S]; rfl
      rw [en]
      refine lc_range (fun j H' => Same H1 H' ∧ H' D = some (.lst (((List.range j).filter (fun p : Nat => fitsB sd z (p : Int))).map fun p => V.int (p : Nat)))) ⟨same_upd hD, upd_same⟩ (fun j H' hj h => ?_) (fun H' h => ?_)
      · have e0 : (0 : Int) + (j : Int) = ((j : Nat) : Int) := Int.zero_add _
        walk_at "vc"
        refine ⟨rfl, ?_⟩
        walk_at "vc"
        refine ⟨sd, z, (j : Nat), by rw [e0]; rfl, hl.1, hl.2, hz, fun H2 sm2 => ?_⟩
        walk_at "vc"
        refine ite2 (fun e => ?_) (fun e => ?_)
        · walk_at "vc"
          exact flt_yes hD (h.1.trans sm2) (sm2 _ _ h.2) (by omega) e (by rw [e0])
        · exact flt_no (h.1.trans sm2) (sm2 _ _ h.2) e
      · walk_at "vc"
        refine ⟨by decide, fun p3 hp3 => ?_⟩
        have hD1 := h.2
        rw [map_int_nat] at hD1
        refine neD_nil (by rw [upd_ne (ne_of_none hD1 hp3)]; exact hD1) upd_same ?_
        rw [isEmpty_map]
        have sm3 := sm.trans (h.1.trans (same_upd (o := .lst []) hp3))
        have hany : (!((List.range z.length).filter (fun p : Nat => fitsB sd z (p : Int))).isEmpty) = (List.range z.length).any (fun p : Nat => fitsB sd z (p : Int)) := by
          exact filter_any _ _
        rw [hany]
        walk_at "vc"
        refine ite2 (fun e => ?_) (fun e => ?_)
        · walk_at "vc"
          have := q _ sm3
          have et : seededB sds z = true := by
            unfold seededB
            exact List.any_eq_true.mpr ⟨sd, hm, e⟩
          rw [et] at this
          exact this
        · walk_at "vc"
          refine ⟨⟨_, _, rfl⟩, sm3, fun k s hk hs => ?_⟩
          by_cases hki : k = i
          · subst hki
            have : s = sd := Option.some.inj (hs.symm.trans hsi)
            rw [this]
            exact Bool.eq_false_iff.mpr e
          · exact hall k s (by omega) hs
    · rintro σ H1 ⟨⟨y2, y3, rfl⟩, sm, hall⟩
      walk_at "vc"
      have := q _ sm
      have ef : seededB sds z = false := by
        unfold seededB
        rw [List.any_eq_false]
        intro sd hm he
        obtain ⟨j, hj⟩ := List.getElem?_of_mem hm
        have hjl := (List.getElem?_eq_some_iff.mp hj).1
        rw [hall j sd (by rw [List.length_map]; exact hjl) hj] at he
        cases he
      rw [ef] at this
      exact this


theorem same_step {f : Addr} {fd : FuncData} (F : Fun K "_law_same" "_law_same" s_law_same f fd) (B : Bl mg) (n : Nat) (DD : Dn P w K mg base "_law_same" n ["_law_found", "_law_due"] (sp_sameN n K) f fd) : FnOk P w K mg base CX0 (n + 1) f fd ["_law_found", "_law_due"] (sp_sameN (n + 1) K) := by
  refine F.ok sc_law_same (fun vs H Q E h => ?_) (fun cdv A outer s H vs Q E hr h => ?_)
  · obtain ⟨_, _, _, rfl, _⟩ := h
    rfl
  · obtain ⟨x, y, d, rfl, hx, hy, gd, hdep, q⟩ := h
    refine ⟨_, 
  (pss_cons (ps_if (pt_val (pe_callB call_isiT (by rfl) B.m_isinstance (by decide +kernel) (pa_cons (pv 1) (pa_cons (pe_tup (pa_cons (pe_bltn (v := .ty "list") (by rfl) B.m_list (by decide +kernel) rfl) (pa_cons (pe_bltn (v := .ty "tuple") (by rfl) B.m_tuple (by decide +kernel) rfl) pa_nil))) pa_nil)))) 
    (pss_cons (ps_if (PW.pt (pw_or (pt_cmpR op_ne (pe_callB call_isi (by rfl) B.m_isinstance (by decide +kernel) (pa_cons (pv 0) (pa_cons (pe_bltn (v := .ty "list") (by rfl) B.m_list (by decide +kernel) rfl) pa_nil))) (pe_callB call_isi (by rfl) B.m_isinstance (by decide +kernel) (pa_cons (pv 1) (pa_cons (pe_bltn (v := .ty "list") (by rfl) B.m_list (by decide +kernel) rfl) pa_nil))) (nomark _)) (pw_or1 (pt_cmpR op_ne (pe_callB call_isi (by rfl) B.m_isinstance (by decide +kernel) (pa_cons (pv 0) (pa_cons (pe_bltn (v := .ty "tuple") (by rfl) B.m_tuple (by decide +kernel) rfl) pa_nil))) (pe_callB call_isi (by rfl) B.m_isinstance (by decide +kernel) (pa_cons (pv 1) (pa_cons (pe_bltn (v := .ty "tuple") (by rfl) B.m_tuple (by decide +kernel) rfl) pa_nil))) (nomark _))))) 
      (pss_one (ps_ret pe_bl)) pss_nil) 
    (pss_cons (ps_if (pt_cmpR op_ne (pe_callB call_len_seq (by rfl) B.m_len PySem.boot_len (pa_cons (pv 0) pa_nil)) (pe_callB call_len_seq (by rfl) B.m_len PySem.boot_len (pa_cons (pv 1) pa_nil)) (nomark _)) 
      (pss_one (ps_ret pe_bl)) pss_nil) 
    (pss_cons (ps_for PassesOwn.never rfl (pi_range1 rfl B.m_range (pa_cons (pe_callB call_len_seq (by rfl) B.m_len PySem.boot_len (pa_cons (pv 1) pa_nil)) pa_nil)) (pg_name (i := 2) sc_law_same.nd rfl (.inl rfl)) 
      (pss_one (ps_if (pt_not (pt_val (pe_call DD.ok hr (by rfl) DD.g DD.kp DD.b .nil pass0 (pa_cons (pe_ix ix_seq (pv 0) (pv 2) (fun _ _ => rfl)) (pa_cons (pe_ix ix_seq (pv 1) (pv 2) (fun _ _ => rfl)) pa_nil))))) 
        (pss_one (ps_ret pe_bl)) pss_nil))) 
    (pss_one (ps_ret pe_bl))))) pss_nil) 
  (pss_cons (ps_if (pt_val (pe_callB call_isi (by rfl) B.m_isinstance (by decide +kernel) (pa_cons (pv 1) (pa_cons (pe_bltn (v := .ty "str") (by rfl) B.m_str (by decide +kernel) rfl) pa_nil)))) 
    (pss_one (ps_ret (pe_and (pe_callB call_isi (by rfl) B.m_isinstance (by decide +kernel) (pa_cons (pv 0) (pa_cons (pe_bltn (v := .ty "str") (by rfl) B.m_str (by decide +kernel) rfl) pa_nil))) (pe_one (pe_cmpR op_eq (pv 0) (pv 1) (nomark _)))))) pss_nil) 
  (pss_one (ps_ret (pe_and (pe_callB call_isi (by rfl) B.m_isinstance (by decide +kernel) (pa_cons (pv 0) (pa_cons (pe_bltn (v := .ty "int") (by rfl) B.m_int (by decide +kernel) rfl) pa_nil))) (pe_and (pe_cmpR op_eq (pe_callB call_isi (by rfl) B.m_isinstance (by decide +kernel) (pa_cons (pv 0) (pa_cons (pe_bltn (v := .ty "bool") (by rfl) B.m_bool (by decide +kernel) rfl) pa_nil))) (pe_callB call_isi (by rfl) B.m_isinstance (by decide +kernel) (pa_cons (pv 1) (pa_cons (pe_bltn (v := .ty "bool") (by rfl) B.m_bool (by decide +kernel) rfl) pa_nil))) (nomark _)) (pe_one (pe_cmpR op_eq (pv 0) (pv 1) (nomark _))))))))), ?_⟩
    walk_at "vc"
    refine ⟨show 2 ≤ sizeLine by decide, fun p hp => ?_⟩
    have sm0 := same_upd (o := HO.tup [V.ty "list", V.ty "tuple"]) hp
    have hp1 : upd H p (HO.tup [V.ty "list", V.ty "tuple"]) p = some (HO.tup [V.ty "list", V.ty "tuple"]) := upd_same
    generalize upd H p (HO.tup [V.ty "list", V.ty "tuple"]) = H1 at sm0 hp1
    have hx1 := Dp_same sm0 d x hx
    have hy1 := Dp_same sm0 d y hy
    have tx := dp_ty hx1
    have ty := dp_ty hy1
    rcases seq_view hx1 hy1 gd with ⟨i, rfl, rfl, et⟩ | ⟨z, rfl, rfl, et⟩ | ⟨b, rfl, rfl, et⟩ | ⟨ds, px, py, xs, ys, b1, b2, rfl, rfl, sx, sy, ax, ay, hlen, hgd, hd, k1, k2, kb⟩
    · rw [et] at tx ty
      walk_at "vc"
      refine x_isiLT (b := false) hp1 ty (kit_lt (kit_ty (r := false) (by decide +kernel)) (kit_ty (r := false) (by decide +kernel))) ?_
      walk_at "vc"
      walk_at "vc"
      refine x_isi (n := "str") ty (kit_ty (r := false) (by decide +kernel)) ?_
      walk_at "vc"
      walk_at "vc"
      refine x_isi (n := "int") tx (kit_ty (r := true) (by decide +kernel)) ?_
      walk_at "vc"
      walk_at "vc"
      refine x_isi (n := "bool") tx (kit_ty (r := false) (by decide +kernel)) ?_
      walk_at "vc"
      refine x_isi (n := "bool") ty (kit_ty (r := false) (by decide +kernel)) ?_
      walk_at "vc"
      rw [decide_eq_true rfl]
      walk_at "vc"
      rw [decide_eq_true rfl]
      exact q _ sm0
    · rw [et] at tx ty
      walk_at "vc"
      refine x_isiLT (b := false) hp1 ty (kit_lt (kit_ty (r := false) (by decide +kernel)) (kit_ty (r := false) (by decide +kernel))) ?_
      walk_at "vc"
      walk_at "vc"
      refine x_isi (n := "str") ty (kit_ty (r := true) (by decide +kernel)) ?_
      walk_at "vc"
      walk_at "vc"
      refine x_isi (n := "str") tx (kit_ty (r := true) (by decide +kernel)) ?_
      walk_at "vc"
      rw [decide_eq_true rfl]
      exact q _ sm0
    · rw [et] at tx ty
      walk_at "vc"
      refine x_isiLT (b := false) hp1 ty (kit_lt (kit_ty (r := false) (by decide +kernel)) (kit_ty (r := false) (by decide +kernel))) ?_
      walk_at "vc"
      walk_at "vc"
      refine x_isi (n := "str") ty (kit_ty (r := false) (by decide +kernel)) ?_
      walk_at "vc"
      walk_at "vc"
      refine x_isi (n := "int") tx (kit_ty (r := true) (by decide +kernel)) ?_
      walk_at "vc"
      walk_at "vc"
      refine x_isi (n := "bool") tx (kit_ty (r := true) (by decide +kernel)) ?_
      walk_at "vc"
      refine x_isi (n := "bool") ty (kit_ty (r := true) (by decide +kernel)) ?_
      walk_at "vc"
      rw [decide_eq_true rfl]
      walk_at "vc"
      rw [decide_eq_true rfl]
      exact q _ sm0
    · walk_at "vc"
      refine x_isiLT hp1 ty (kit_lt k1 k2) ?_
      rw [kb]
      walk_at "vc"
      walk_at "vc"
      refine x_isi tx k1 ?_
      walk_at "vc"
      refine x_isi ty k1 ?_
      walk_at "vc"
      rw [decide_eq_true rfl]
      walk_at "vc"
      walk_at "vc"
      refine x_isi tx k2 ?_
      walk_at "vc"
      refine x_isi ty k2 ?_
      walk_at "vc"
      rw [decide_eq_true rfl]
      walk_at "vc"
      have lx := DpAll_len ax
      have ly := DpAll_len ay
      rw [lx, ly, decide_eq_true rfl]
      walk_at "vc"
      have en : ((ds.length : Nat) : Int).toNat = ds.length := rfl
      rw [ly, en]
      refine for_range (fun i σ H' => (∃ y3, σ = [some (.ref px), some (.ref py), y3]) ∧ Same H1 H') ⟨⟨_, rfl⟩, Same.refl _⟩ ?_ ?_
      · rintro i σ H2 hi ⟨⟨y3, rfl⟩, sm⟩
        obtain ⟨vx, d1, ex, ed1, dx⟩ := DpAll_get i ax hi
        obtain ⟨vy, d2, ey, ed2, dy⟩ := DpAll_get i ay hi
        have e12 : d1 = d2 := Option.some.inj (ed1.symm.trans ed2)
        subst e12
        have hm : d1 ∈ ds := List.mem_of_getElem? ed1
        walk_at "vc"
        have e0 : 0 + (i : Int) = ((i : Nat) : Int) := Int.zero_add _
        rw [e0]
        refine x_ixQ (Sq_same sm sx) (atI_nat ex) ?_
        walk_at "vc"
        refine x_ixQ (Sq_same sm sy) (atI_nat ey) ?_
        walk_at "vc"
        refine ⟨vx, vy, d1, rfl, Dp_same sm _ _ dx, Dp_same sm _ _ dy, hgd d1 hm, by have := depth_mem hm; omega, fun H3 sm3 => ?_⟩
        walk_at "vc"
        exact ⟨⟨_, rfl⟩, sm.trans sm3⟩
      · rintro σ H2 ⟨⟨y3, rfl⟩, sm⟩
        walk_at "vc"
        exact q _ (sm0.trans sm)
theorem ok_law_same {f : Addr} {fd : FuncData} (F : Fun K "_law_same" "_law_same" s_law_same f fd) (B : Bl mg) (g : mg "_law_same" = some (.ref f)) (b : Binds K fd ["_law_found", "_law_due"] []) : FnOk P w K mg base CX0 12 f fd ["_law_found", "_law_due"] (sp_law_same K) := by
  have h : ∀ n, FnOk P w K mg base CX0 n f fd ["_law_found", "_law_due"] (sp_sameN n K) := by
    intro n
    induction n with
    | zero => exact fn_never fun vs H Q E ⟨_, _, _, _, _, _, _, h, _⟩ => by omega
    | succ n ih => exact same_step F B n ⟨ih, g, F.kp, b⟩
  exact h 12


theorem oklaw {f : Addr} {fd : FuncData} {f_law_seeds : Addr} {fd_law_seeds : FuncData} {f_law_likes : Addr} {fd_law_likes : FuncData} {ffits : Addr} {fdfits : FuncData} {fis_seeded : Addr} {fdis_seeded : FuncData} {f_law_same : Addr} {fd_law_same : FuncData} {f_law_seeded : Addr} {fd_law_seeded : FuncData} {f_law_fits : Addr} {fd_law_fits : FuncData} (F : Fun K "law" "law" slaw f fd) (B : Bl mg) (D_law_seeds : Dn P w K mg base "_law_seeds" 3 ["_law_h", "_law_most"] (sp_law_seeds K) f_law_seeds fd_law_seeds) (D_law_likes : Dn P w K mg base "_law_likes" 2 ["_law_h", "_law_most"] (sp_law_likes K) f_law_likes fd_law_likes) (Dfits : Dn P w K mg base "fits" 2 ["seed", "likes", "place"] (spfits K) ffits fdfits) (Dis_seeded : Dn P w K mg base "is_seeded" 3 ["seeds", "likes"] (spis_seeded K) fis_seeded fdis_seeded) (D_law_same : Dn P w K mg base "_law_same" 12 ["_law_found", "_law_due"] (sp_law_same K) f_law_same fd_law_same) (D_law_seeded : Dn P w K mg base "_law_seeded" 2 ["_law_seeds_here", "_law_likes_here"] (sp_law_seeded K) f_law_seeded fd_law_seeded) (D_law_fits : Dn P w K mg base "_law_fits" 1 ["_law_seed_here", "_law_likes_here", "_law_place"] (sp_law_fits K) f_law_fits fd_law_fits) : FnOk P w K mg base CX0 13 f fd ["_law_script"] (splaw K) := by
  refine F.ok sclaw (fun vs H Q E h => ?_) (fun cdv A outer s H vs Q E hr h => ?_)
  · first
      | (obtain ⟨_, rfl, _⟩ := h; rfl)
      | (obtain ⟨_, _, rfl, _⟩ := h; rfl)
      | (obtain ⟨_, _, _, rfl, _⟩ := h; rfl)
      | (obtain ⟨_, _, _, _, rfl, _⟩ := h; rfl)
      | (obtain ⟨_, _, _, _, _, rfl, _⟩ := h; rfl)
      | (obtain ⟨_, _, _, _, _, _, rfl, _⟩ := h; rfl)
      | (obtain ⟨_, _, _, _, _, _, _, rfl, _⟩ := h; rfl)
      | (obtain ⟨_, _, _, _, _, _, _, _, rfl, _⟩ := h; rfl)
      | (obtain ⟨_, _, _, _, _, _, _, _, _, rfl, _⟩ := h; rfl)
      | (obtain ⟨_, _, _, _, _, _, _, _, _, _, rfl, _⟩ := h; rfl)
      | (obtain ⟨_, _, _, _, _, _, _, _, _, _, _, rfl, _⟩ := h; rfl)
  · obtain ⟨a0, ns, rfl, hS, hlen, q⟩ := h
    refine ⟨_, 
  (pss_cons (ps_set (i := 1) sclaw.nd rfl (.inl rfl) (pe_lst (pa_cons pe_int (pa_cons (pe_callTy call_list_of (by rfl) B.m_list (by decide +kernel) (pa_cons (pv 0) pa_nil)) (pa_cons pe_int pa_nil))))) 
  (pss_cons (ps_for PassesOwn.never rfl (pi_range1 rfl B.m_range (pa_cons pe_int pa_nil)) (pg_name (i := 2) sclaw.nd rfl (.inl rfl)) 
    (pss_cons (ps_set (i := 3) sclaw.nd rfl (.inl rfl) (pe_call D_law_seeds.ok (hr.mono (by decide)) (by rfl) D_law_seeds.g D_law_seeds.kp D_law_seeds.b .nil pass0 (pa_cons (pv 1) (pa_cons pe_int pa_nil)))) 
    (pss_cons (ps_set (i := 4) sclaw.nd rfl (.inl rfl) (pe_call D_law_likes.ok (hr.mono (by decide)) (by rfl) D_law_likes.g D_law_likes.kp D_law_likes.b .nil pass0 (pa_cons (pv 1) (pa_cons pe_int pa_nil)))) 
    (pss_cons (ps_set (i := 5) sclaw.nd rfl (.inl rfl) (pe_callTy call_list_of (by rfl) B.m_list (by decide +kernel) (pa_cons (pv 3) pa_nil))) 
    (pss_cons (ps_for PassesOwn.never rfl (pi_list (pv 3)) (pg_name (i := 6) sclaw.nd rfl (.inl rfl)) 
      (pss_one (ps_for PassesOwn.never rfl (pi_range2 rfl B.m_range (pa_cons (pe_un un_neg pe_int) (pa_cons (pe_op op_add (pe_callB call_len_str (by rfl) B.m_len PySem.boot_len (pa_cons (pv 4) pa_nil)) pe_int) pa_nil))) (pg_name (i := 7) sclaw.nd rfl (.inl rfl)) 
        (pss_one (ps_if (pt_not (pt_val (pe_call D_law_same.ok hr (by rfl) D_law_same.g D_law_same.kp D_law_same.b .nil pass0 (pa_cons (pe_call Dfits.ok (hr.mono (by decide)) (by rfl) Dfits.g Dfits.kp Dfits.b .nil pass0 (pa_cons (pv 6) (pa_cons (pv 4) (pa_cons (pv 7) pa_nil)))) (pa_cons (pe_call D_law_fits.ok (hr.mono (by decide)) (by rfl) D_law_fits.g D_law_fits.kp D_law_fits.b .nil pass0 (pa_cons (pv 6) (pa_cons (pv 4) (pa_cons (pv 7) pa_nil)))) pa_nil))))) 
          (pss_one (ps_ret pe_bl)) pss_nil))))) 
    (pss_one (ps_if (PW.pt (pw_or (pt_not (pt_val (pe_call D_law_same.ok hr (by rfl) D_law_same.g D_law_same.kp D_law_same.b .nil pass0 (pa_cons (pe_call Dis_seeded.ok (hr.mono (by decide)) (by rfl) Dis_seeded.g Dis_seeded.kp Dis_seeded.b .nil pass0 (pa_cons (pv 5) (pa_cons (pv 4) pa_nil))) (pa_cons (pe_call D_law_seeded.ok (hr.mono (by decide)) (by rfl) D_law_seeded.g D_law_seeded.kp D_law_seeded.b .nil pass0 (pa_cons (pv 3) (pa_cons (pv 4) pa_nil))) pa_nil))))) (pw_or1 (pt_cmpR (op_neD hr.units) (pv 5) (pv 3) (nomark _))))) 
      (pss_one (ps_ret pe_bl)) pss_nil))))))) 
  (pss_one (ps_ret (pe_and (pe_cmpR op_isBl (pe_call Dfits.ok (hr.mono (by decide)) (by rfl) Dfits.g Dfits.kp Dfits.b .nil pass0 (pa_cons pe_str (pa_cons pe_str (pa_cons pe_int pa_nil)))) pe_bl (nomark _)) (pe_one (pe_cmpR op_isBl (pe_call Dis_seeded.ok (hr.mono (by decide)) (by rfl) Dis_seeded.g Dis_seeded.kp Dis_seeded.b .nil pass0 (pa_cons (pe_lst (pa_cons pe_str pa_nil)) (pa_cons pe_str pa_nil))) pe_bl (nomark _)))))))), ?_⟩
    walk_at "vc"
    intro b hb
    walk_at "vc"
    refine ⟨show 3 ≤ sizeLine by decide, fun a ha => ?_⟩
    have nab : a ≠ b := fun e => by
      rw [e, upd_same] at ha
      cases ha
    have hs0 : Src (upd (upd H b (.lst (ns.map V.int))) a (.lst [.int 23, .ref b, .int 0])) a b := ⟨nab, 23, 0, ns, upd_same, by rw [upd_ne nab.symm, upd_same], hlen⟩
    generalize upd (upd H b (.lst (ns.map V.int))) a (.lst [.int 23, .ref b, .int 0]) = H0 at hs0
    walk_at "vc"
    refine for_range (fun i σ H' => (∃ y2 y3 y4 y5 y6 y7, σ = [some (.ref a0), some (.ref a), y2, y3, y4, y5, y6, y7]) ∧ Src H' a b) ⟨⟨_, _, _, _, _, _, rfl⟩, hs0⟩ ?_ ?_
    · rintro i σ H1 hi ⟨⟨y2, y3, y4, y5, y6, y7, rfl⟩, hs1⟩
      walk_at "vc"
      refine ⟨a, b, 8, rfl, hs1, by omega, by omega, fun sp sds H2 hsd h1 h3 hsp hsp0 npa npb hs2 k2 => ?_⟩
      walk_at "vc"
      refine ⟨a, b, 30, rfl, hs2, by omega, by omega, fun z H3 hz hLk hs3 k3 => ?_⟩
      have hsp3 := k3 sp _ npa npb hsp
      have hzl : z.length ≤ 30 := by omega
      have ezl : ((S z).length : Int) = (z.length : Int) := by rw [len_S]
      walk_at "vc"
      intro hd hhd
      have nhp : hd ≠ sp := fun e => by
        rw [e, hsp3] at hhd
        cases hhd
      have sm4 : Same H3 (upd H3 hd (.lst (sds.map strV))) := same_upd hhd
      have hhd4 : upd H3 hd (.lst (sds.map strV)) hd = some (.lst (sds.map strV)) := upd_same
      have hs4 := hs3.new (o := .lst (sds.map strV)) hhd
      generalize upd H3 hd (.lst (sds.map strV)) = H4 at sm4 hhd4 hs4
      have hsp4 := sm4 _ _ hsp3
      walk_at "vc"
      refine x_iListi (SqL.of hsp4) ?_
      refine for_list (K := K) (a := sp) (xs := sds.map strV) (fun j σ H' => (∃ y6 y7, σ = [some (.ref a0), some (.ref a), some (.int (0 + (i : Int))), some (.ref sp), some (.str (S z)), some (.ref hd), y6, y7]) ∧ Same H4 H') ⟨⟨_, _, rfl⟩, Same.refl _⟩ (fun j σ H' _ h => h.2.seq (SqL.of hsp4)) ?_ ?_
      · rintro j x σ H5 hx ⟨⟨y6, y7, rfl⟩, sm5⟩
        have hj : j < sds.length := by
          have := (List.getElem?_eq_some_iff.mp hx).1
          rw [List.length_map] at this
          exact this
        have ex : x = strV sds[j] := by
          rw [List.getElem?_map, List.getElem?_eq_getElem hj] at hx
          exact (Option.some.inj hx).symm
        subst ex
        have hm : sds[j] ∈ sds := List.getElem_mem hj
        have hsdj := hsd _ hm
        generalize sds[j] = sd at hsdj
        walk_at "vc"
        refine for_range (fun p σ H' => (∃ y7, σ = [some (.ref a0), some (.ref a), some (.int (0 + (i : Int))), some (.ref sp), some (.str (S z)), some (.ref hd), some (strV sd), y7]) ∧ Same H4 H') ⟨⟨_, rfl⟩, sm5⟩ ?_ ?_
        · rintro p σ H6 hp ⟨⟨y7, rfl⟩, sm6⟩
          walk_at "vc"
          refine ⟨sd, z, _, rfl, hsdj, hLk, by omega, fun H7 sm7 => ?_⟩
          walk_at "vc"
          refine ⟨sd, z, _, rfl, hsdj.one, Nat.le_trans hsdj.most (by omega), by omega, fun H8 sm8 => ?_⟩
          walk_at "vc"
          refine ⟨_, _, .bool _, rfl, .bl _, .bl _, .bl _, by simp only [PyData.depth]; omega, fun H9 sm9 => ?_⟩
          walk_at "vc"
          exact ⟨⟨_, rfl⟩, sm6.trans (sm7.trans (sm8.trans sm9))⟩
        · rintro σ H6 ⟨⟨y7, rfl⟩, sm6⟩
          exact ⟨⟨_, _, rfl⟩, sm6⟩
      · rintro σ H5 ⟨⟨y6, y7, rfl⟩, sm5⟩
        walk_at "vc"
        refine ⟨hd, sds, z, rfl, SqL.of (sm5 _ _ hhd4), hsd, h1, h3, hLk, by omega, fun H6 sm6 => ?_⟩
        have sm46 := sm5.trans sm6
        walk_at "vc"
        refine ⟨sp, sds, z, rfl, SqL.of (sm46 _ _ hsp4), fun sd h => ⟨(hsd sd h).one, Nat.le_trans (hsd sd h).most (by omega)⟩, by omega, fun H7 sm7 => ?_⟩
        have sm47 := sm46.trans sm7
        walk_at "vc"
        refine ⟨_, _, .bool _, rfl, .bl _, .bl _, .bl _, by simp only [PyData.depth]; omega, fun H8 sm8 => ?_⟩
        have sm48 := sm47.trans sm8
        walk_at "vc"
        refine ne_strs_same (Cd.sds hsd) (SqL.of (sm48 _ _ hhd4)) (SqL.of (sm48 _ _ hsp4)) ?_
        walk_at "vc"
        exact ⟨⟨_, _, _, _, _, _, rfl⟩, Src_same hs4 sm48⟩
    · rintro σ H1 ⟨⟨y2, y3, y4, y5, y6, y7, rfl⟩, hs1⟩
      have hone : Sd 8 [35] := ⟨by decide, by decide, fun c hc => .inl (List.mem_singleton.mp hc), rfl, rfl⟩
      walk_at "vc"
      refine ⟨[35], [], 0, rfl, hone, (fun c hc => nomatch hc), by decide, fun H2 sm2 => ?_⟩
      walk_at "vc"
      refine x_isBl ?_
      rw [show fitsB [35] [] 0 = false from by decide +kernel]
      walk_at "vc"
      refine ⟨by decide, fun lp hlp => ?_⟩
      walk_at "vc"
      refine ⟨lp, [[35]], [], rfl, SqL.of upd_same, (fun sd h => by rw [List.mem_singleton.mp h]; exact hone), by decide, by decide, (fun c hc => nomatch hc), by decide, fun H3 sm3 => ?_⟩
      walk_at "vc"
      refine x_isBl ?_
      rw [show seededB [[35]] [] = false from by decide +kernel]
      exact q H3

end
theorem all_mk {l : PySem.W.OpenLaw} {w : World} {K : PySem.W.Frag} {h : Heap} {mg : Str → Option Value} {fa : Addr} (X : K.In h) (G : h.Ns mainGlobals mg) (hfa : mg "law" = some (.ref fa))
    {od0 an0 : Option Addr} {sl0 : Array (Option Value)} {oc0 kV0 dc0 pm0 cd0 ct0 : Value} {g0 : Addr} {od1 an1 : Option Addr} {sl1 : Array (Option Value)} {oc1 kV1 dc1 pm1 cd1 ct1 : Value} {g1 : Addr} {od2 an2 : Option Addr} {sl2 : Array (Option Value)} {oc2 kV2 dc2 pm2 cd2 ct2 : Value} {g2 : Addr} {od3 an3 : Option Addr} {sl3 : Array (Option Value)} {oc3 kV3 dc3 pm3 cd3 ct3 : Value} {g3 : Addr} {od4 an4 : Option Addr} {sl4 : Array (Option Value)} {oc4 kV4 dc4 pm4 cd4 ct4 : Value} {g4 : Addr} {od5 an5 : Option Addr} {sl5 : Array (Option Value)} {oc5 kV5 dc5 pm5 cd5 ct5 : Value} {g5 : Addr} {od6 an6 : Option Addr} {sl6 : Array (Option Value)} {oc6 kV6 dc6 pm6 cd6 ct6 : Value} {g6 : Addr} {od7 an7 : Option Addr} {sl7 : Array (Option Value)} {oc7 kV7 dc7 pm7 cd7 ct7 : Value} {g7 : Addr} {od8 an8 : Option Addr} {sl8 : Array (Option Value)} {oc8 kV8 dc8 pm8 cd8 ct8 : Value} {g8 : Addr} {od9 an9 : Option Addr} {sl9 : Array (Option Value)} {oc9 kV9 dc9 pm9 cd9 ct9 : Value} {g9 : Addr} {od10 an10 : Option Addr} {sl10 : Array (Option Value)} {oc10 kV10 dc10 pm10 cd10 ct10 : Value} {g10 : Addr} {t_PICK : Tok} {t_UNLIKE : Tok}
    (a0 : PySem.W.nsIn K mainGlobals "unlike_under" = some (some (.ref g0))) (l0 : K.lookup g0 = some ⟨oc0, od0, .func (PySem.W.fnOf "unlike_under" "unlike_under" (defArgs sunlike_under) (defBody sunlike_under) (defScope sunlike_under) .none kV0 dc0 pm0 an0 cd0 ct0), sl0⟩) (c0 : PySem.W.codeIn K cd0 "unlike_under" = true) (k0 : PySem.W.keepIn K (.ref g0) = true) (a1 : PySem.W.nsIn K mainGlobals "fits" = some (some (.ref g1))) (l1 : K.lookup g1 = some ⟨oc1, od1, .func (PySem.W.fnOf "fits" "fits" (defArgs sfits) (defBody sfits) (defScope sfits) .none kV1 dc1 pm1 an1 cd1 ct1), sl1⟩) (c1 : PySem.W.codeIn K cd1 "fits" = true) (k1 : PySem.W.keepIn K (.ref g1) = true) (a2 : PySem.W.nsIn K mainGlobals "is_seeded" = some (some (.ref g2))) (l2 : K.lookup g2 = some ⟨oc2, od2, .func (PySem.W.fnOf "is_seeded" "is_seeded" (defArgs sis_seeded) (defBody sis_seeded) (defScope sis_seeded) .none kV2 dc2 pm2 an2 cd2 ct2), sl2⟩) (c2 : PySem.W.codeIn K cd2 "is_seeded" = true) (k2 : PySem.W.keepIn K (.ref g2) = true) (a3 : PySem.W.nsIn K mainGlobals "_law_next" = some (some (.ref g3))) (l3 : K.lookup g3 = some ⟨oc3, od3, .func (PySem.W.fnOf "_law_next" "_law_next" (defArgs s_law_next) (defBody s_law_next) (defScope s_law_next) .none kV3 dc3 pm3 an3 cd3 ct3), sl3⟩) (c3 : PySem.W.codeIn K cd3 "_law_next" = true) (k3 : PySem.W.keepIn K (.ref g3) = true) (a4 : PySem.W.nsIn K mainGlobals "_law_seed" = some (some (.ref g4))) (l4 : K.lookup g4 = some ⟨oc4, od4, .func (PySem.W.fnOf "_law_seed" "_law_seed" (defArgs s_law_seed) (defBody s_law_seed) (defScope s_law_seed) .none kV4 dc4 pm4 an4 cd4 ct4), sl4⟩) (c4 : PySem.W.codeIn K cd4 "_law_seed" = true) (k4 : PySem.W.keepIn K (.ref g4) = true) (a5 : PySem.W.nsIn K mainGlobals "_law_seeds" = some (some (.ref g5))) (l5 : K.lookup g5 = some ⟨oc5, od5, .func (PySem.W.fnOf "_law_seeds" "_law_seeds" (defArgs s_law_seeds) (defBody s_law_seeds) (defScope s_law_seeds) .none kV5 dc5 pm5 an5 cd5 ct5), sl5⟩) (c5 : PySem.W.codeIn K cd5 "_law_seeds" = true) (k5 : PySem.W.keepIn K (.ref g5) = true) (a6 : PySem.W.nsIn K mainGlobals "_law_likes" = some (some (.ref g6))) (l6 : K.lookup g6 = some ⟨oc6, od6, .func (PySem.W.fnOf "_law_likes" "_law_likes" (defArgs s_law_likes) (defBody s_law_likes) (defScope s_law_likes) .none kV6 dc6 pm6 an6 cd6 ct6), sl6⟩) (c6 : PySem.W.codeIn K cd6 "_law_likes" = true) (k6 : PySem.W.keepIn K (.ref g6) = true) (a7 : PySem.W.nsIn K mainGlobals "_law_fits" = some (some (.ref g7))) (l7 : K.lookup g7 = some ⟨oc7, od7, .func (PySem.W.fnOf "_law_fits" "_law_fits" (defArgs s_law_fits) (defBody s_law_fits) (defScope s_law_fits) .none kV7 dc7 pm7 an7 cd7 ct7), sl7⟩) (c7 : PySem.W.codeIn K cd7 "_law_fits" = true) (k7 : PySem.W.keepIn K (.ref g7) = true) (a8 : PySem.W.nsIn K mainGlobals "_law_seeded" = some (some (.ref g8))) (l8 : K.lookup g8 = some ⟨oc8, od8, .func (PySem.W.fnOf "_law_seeded" "_law_seeded" (defArgs s_law_seeded) (defBody s_law_seeded) (defScope s_law_seeded) .none kV8 dc8 pm8 an8 cd8 ct8), sl8⟩) (c8 : PySem.W.codeIn K cd8 "_law_seeded" = true) (k8 : PySem.W.keepIn K (.ref g8) = true) (a9 : PySem.W.nsIn K mainGlobals "_law_same" = some (some (.ref g9))) (l9 : K.lookup g9 = some ⟨oc9, od9, .func (PySem.W.fnOf "_law_same" "_law_same" (defArgs s_law_same) (defBody s_law_same) (defScope s_law_same) .none kV9 dc9 pm9 an9 cd9 ct9), sl9⟩) (c9 : PySem.W.codeIn K cd9 "_law_same" = true) (k9 : PySem.W.keepIn K (.ref g9) = true) (a10 : PySem.W.nsIn K mainGlobals "law" = some (some (.ref g10))) (l10 : K.lookup g10 = some ⟨oc10, od10, .func (PySem.W.fnOf "law" "law" (defArgs slaw) (defBody slaw) (defScope slaw) .none kV10 dc10 pm10 an10 cd10 ct10), sl10⟩) (c10 : PySem.W.codeIn K cd10 "law" = true) (k10 : PySem.W.keepIn K (.ref g10) = true) (z_enumerate : PySem.W.nsIn K mainGlobals "enumerate" = some none) (z_len : PySem.W.nsIn K mainGlobals "len" = some none) (z_range : PySem.W.nsIn K mainGlobals "range" = some none) (z_max : PySem.W.nsIn K mainGlobals "max" = some none) (z_isinstance : PySem.W.nsIn K mainGlobals "isinstance" = some none) (z_str : PySem.W.nsIn K mainGlobals "str" = some none) (z_list : PySem.W.nsIn K mainGlobals "list" = some none) (z_tuple : PySem.W.nsIn K mainGlobals "tuple" = some none) (z_int : PySem.W.nsIn K mainGlobals "int" = some none) (z_bool : PySem.W.nsIn K mainGlobals "bool" = some none) (y_PICK : PySem.W.nsIn K mainGlobals "PICK" = some (some (Value.str "#" t_PICK))) (y_UNLIKE : PySem.W.nsIn K mainGlobals "UNLIKE" = some (some (Value.str "/" t_UNLIKE))) :
    ∃ fd : FuncData, (∀ (s : Shared) (v : Value), BindsTo s fd ⟨[v], []⟩ [("_law_script", v)]) ∧ ∀ base : Heap, K.In base → base.Ns mainGlobals mg → FnOk l.prog w K mg base CX0 13 fa fd ["_law_script"] (splaw K) := by
  have e := hfa.symm.trans (PySem.W.mg_of X G a10)
  cases e
  have F0 := fun_mk (st := sunlike_under) l0 c0 k0
  have F1 := fun_mk (st := sfits) l1 c1 k1
  have F2 := fun_mk (st := sis_seeded) l2 c2 k2
  have F3 := fun_mk (st := s_law_next) l3 c3 k3
  have F4 := fun_mk (st := s_law_seed) l4 c4 k4
  have F5 := fun_mk (st := s_law_seeds) l5 c5 k5
  have F6 := fun_mk (st := s_law_likes) l6 c6 k6
  have F7 := fun_mk (st := s_law_fits) l7 c7 k7
  have F8 := fun_mk (st := s_law_seeded) l8 c8 k8
  have F9 := fun_mk (st := s_law_same) l9 c9 k9
  have F10 := fun_mk (st := slaw) l10 c10 k10
  have b0 := F0.binds (ps := ["seed", "likes", "place"]) fun _ _ _ _ _ _ us hl => match us, hl with | [_, _, _], _ => rfl
  have b1 := F1.binds (ps := ["seed", "likes", "place"]) fun _ _ _ _ _ _ us hl => match us, hl with | [_, _, _], _ => rfl
  have b2 := F2.binds (ps := ["seeds", "likes"]) fun _ _ _ _ _ _ us hl => match us, hl with | [_, _], _ => rfl
  have b3 := F3.binds (ps := ["_law_h", "_law_many"]) fun _ _ _ _ _ _ us hl => match us, hl with | [_, _], _ => rfl
  have b4 := F4.binds (ps := ["_law_h", "_law_most"]) fun _ _ _ _ _ _ us hl => match us, hl with | [_, _], _ => rfl
  have b5 := F5.binds (ps := ["_law_h", "_law_most"]) fun _ _ _ _ _ _ us hl => match us, hl with | [_, _], _ => rfl
  have b6 := F6.binds (ps := ["_law_h", "_law_most"]) fun _ _ _ _ _ _ us hl => match us, hl with | [_, _], _ => rfl
  have b7 := F7.binds (ps := ["_law_seed_here", "_law_likes_here", "_law_place"]) fun _ _ _ _ _ _ us hl => match us, hl with | [_, _, _], _ => rfl
  have b8 := F8.binds (ps := ["_law_seeds_here", "_law_likes_here"]) fun _ _ _ _ _ _ us hl => match us, hl with | [_, _], _ => rfl
  have b9 := F9.binds (ps := ["_law_found", "_law_due"]) fun _ _ _ _ _ _ us hl => match us, hl with | [_, _], _ => rfl
  have B : Bl mg := ⟨PySem.W.mg_none_of X G z_enumerate, PySem.W.mg_none_of X G z_len, PySem.W.mg_none_of X G z_range, PySem.W.mg_none_of X G z_max, PySem.W.mg_none_of X G z_isinstance, PySem.W.mg_none_of X G z_str, PySem.W.mg_none_of X G z_list, PySem.W.mg_none_of X G z_tuple, PySem.W.mg_none_of X G z_int, PySem.W.mg_none_of X G z_bool⟩
  have C : Cs mg _ _ := ⟨⟨⟨_, rfl⟩, PySem.W.mg_of X G y_PICK⟩, ⟨⟨_, rfl⟩, PySem.W.mg_of X G y_UNLIKE⟩⟩
  refine ⟨PySem.W.fnOf "law" "law" (defArgs slaw) (defBody slaw) (defScope slaw) .none kV10 dc10 pm10 an10 cd10 ct10, fun s v => .of_eq rfl, fun base _ _ => ?_⟩
  have Dunlike_under : Dn l.prog w K mg base "unlike_under" 1 ["seed", "likes", "place"] (spunlike_under K) g0 _ := ⟨okunlike_under F0 B C, PySem.W.mg_of X G a0, F0.kp, b0⟩
  have Dfits : Dn l.prog w K mg base "fits" 2 ["seed", "likes", "place"] (spfits K) g1 _ := ⟨okfits F1 B Dunlike_under, PySem.W.mg_of X G a1, F1.kp, b1⟩
  have Dis_seeded : Dn l.prog w K mg base "is_seeded" 3 ["seeds", "likes"] (spis_seeded K) g2 _ := ⟨okis_seeded F2 B Dfits, PySem.W.mg_of X G a2, F2.kp, b2⟩
  have D_law_next : Dn l.prog w K mg base "_law_next" 1 ["_law_h", "_law_many"] (sp_law_next K) g3 _ := ⟨ok_law_next F3 B, PySem.W.mg_of X G a3, F3.kp, b3⟩
  have D_law_seed : Dn l.prog w K mg base "_law_seed" 2 ["_law_h", "_law_most"] (sp_law_seed K) g4 _ := ⟨ok_law_seed F4 B D_law_next, PySem.W.mg_of X G a4, F4.kp, b4⟩
  have D_law_seeds : Dn l.prog w K mg base "_law_seeds" 3 ["_law_h", "_law_most"] (sp_law_seeds K) g5 _ := ⟨ok_law_seeds F5 B D_law_seed D_law_next, PySem.W.mg_of X G a5, F5.kp, b5⟩
  have D_law_likes : Dn l.prog w K mg base "_law_likes" 2 ["_law_h", "_law_most"] (sp_law_likes K) g6 _ := ⟨ok_law_likes F6 B D_law_next, PySem.W.mg_of X G a6, F6.kp, b6⟩
  have D_law_fits : Dn l.prog w K mg base "_law_fits" 1 ["_law_seed_here", "_law_likes_here", "_law_place"] (sp_law_fits K) g7 _ := ⟨ok_law_fits F7 B, PySem.W.mg_of X G a7, F7.kp, b7⟩
  have D_law_seeded : Dn l.prog w K mg base "_law_seeded" 2 ["_law_seeds_here", "_law_likes_here"] (sp_law_seeded K) g8 _ := ⟨ok_law_seeded F8 B D_law_fits, PySem.W.mg_of X G a8, F8.kp, b8⟩
  have D_law_same : Dn l.prog w K mg base "_law_same" 12 ["_law_found", "_law_due"] (sp_law_same K) g9 _ := ⟨ok_law_same F9 B (PySem.W.mg_of X G a9) b9, PySem.W.mg_of X G a9, F9.kp, b9⟩
  exact oklaw F10 B D_law_seeds D_law_likes Dfits Dis_seeded D_law_same D_law_seeded D_law_fits
end Sr
open PySem PySem.W PyProof.Rows
set_option maxHeartbeats 0 in
theorem PySem.Challenge.cw_seedreach_k05_where_seeds_fit_holds : PySem.Challenge.rw_seedreach_k05_where_seeds_fit.Holds := by
  w_on; o_law; k_head; (case hw => w_witness2)
  k_fill
  refine L2.walk_of (l := PySem.Challenge.rw_seedreach_k05_where_seeds_fit) (n := 63) (k := 13) (x := "_law_script") (CX := fun _ => L2.CX0) (sp := fun w => Sr.splaw _) rfl (by decide) rfl ⟨rfl, by decide, by decide⟩ (fun w h Y => PySem.W.kIn_of Y) ?F (fun _ _ a ns hl _ hS => ⟨a, ns, rfl, hS, hl, fun _ => rfl⟩) (fun _ _ _ _ _ h => h)
  case F =>
    intro w mg fa h KX G hmg
    refine' Sr.all_mk KX G hmg ?a0 ?l0 ?c0 ?k0 ?a1 ?l1 ?c1 ?k1 ?a2 ?l2 ?c2 ?k2 ?a3 ?l3 ?c3 ?k3 ?a4 ?l4 ?c4 ?k4 ?a5 ?l5 ?c5 ?k5 ?a6 ?l6 ?c6 ?k6 ?a7 ?l7 ?c7 ?k7 ?a8 ?l8 ?c8 ?k8 ?a9 ?l9 ?c9 ?k9 ?a10 ?l10 ?c10 ?k10 ?z_enumerate ?z_len ?z_range ?z_max ?z_isinstance ?z_str ?z_list ?z_tuple ?z_int ?z_bool ?y_PICK ?y_UNLIKE
    (case a0 => k_is)
    (case l0 => k_is)
    (case c0 => k_is)
    (case k0 => k_is)
    (case a1 => k_is)
    (case l1 => k_is)
    (case c1 => k_is)
    (case k1 => k_is)
    (case a2 => k_is)
    (case l2 => k_is)
    (case c2 => k_is)
    (case k2 => k_is)
    (case a3 => k_is)
    (case l3 => k_is)
    (case c3 => k_is)
    (case k3 => k_is)
    (case a4 => k_is)
    (case l4 => k_is)
    (case c4 => k_is)
    (case k4 => k_is)
    (case a5 => k_is)
    (case l5 => k_is)
    (case c5 => k_is)
    (case k5 => k_is)
    (case a6 => k_is)
    (case l6 => k_is)
    (case c6 => k_is)
    (case k6 => k_is)
    (case a7 => k_is)
    (case l7 => k_is)
    (case c7 => k_is)
    (case k7 => k_is)
    (case a8 => k_is)
    (case l8 => k_is)
    (case c8 => k_is)
    (case k8 => k_is)
    (case a9 => k_is)
    (case l9 => k_is)
    (case c9 => k_is)
    (case k9 => k_is)
    (case a10 => k_is)
    (case l10 => k_is)
    (case c10 => k_is)
    (case k10 => k_is)
    (case z_enumerate => k_is)
    (case z_len => k_is)
    (case z_range => k_is)
    (case z_max => k_is)
    (case z_isinstance => k_is)
    (case z_str => k_is)
    (case z_list => k_is)
    (case z_tuple => k_is)
    (case z_int => k_is)
    (case z_bool => k_is)
    (case y_PICK => k_is)
    (case y_UNLIKE => k_is)
