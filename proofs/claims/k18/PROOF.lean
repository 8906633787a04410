import PyProof.Rows.All
import Wide.All
import OpenK.AllK
import Wide.FinOn
import HandS.ForMost
import HandS.IsInst
import HandS.Walk
import HandS.TupSets
import KE.SortData
import HandS.SetTxt0
import HandS.Style
import KE.KRevSl
import PySem.Challenge.RW_seedreach_k18_bound_of_two_rows
set_option Elab.async false
set_option linter.all false
set_option maxRecDepth 100000
set_option maxHeartbeats 4000000
namespace L2
open PySem PySem.Spec PyProof.Rows
/-! ### readings, one step a lemma -/
section
variable {σ : St} {H : Hp} {Q : VK} {i j : Int} {n : Nat} {v : V} {ta tb tc te : TE} {K : PySem.W.Frag} {a p : Addr} {xs ys : List V} {z z' : Str}
theorem x_var (h : σ[n]? = some (some v)) (q : Q v H) : tVar n σ H Q := ⟨v, h, q⟩
theorem x_c (q : Q v H) : tC v σ H Q := q
theorem x_op {r : R2} (q : ta σ H fun x H1 => tb σ H1 fun y H2 => r x y H2 Q) : tOp r ta tb σ H Q := q
theorem x_un {r : V → Hp → VK → Prop} (q : ta σ H fun x H1 => r x H1 Q) : tUn r ta σ H Q := q
theorem x_rI {C : Int → Int → Prop} {g : Int → Int → V} (h : C i j) (q : Q (g i j) H) : rI C g (.int i) (.int j) H Q := ⟨i, j, rfl, rfl, h, q⟩
theorem x_rI0 {g : Int → Int → V} (q : Q (g i j) H) : rI0 g (.int i) (.int j) H Q := ⟨i, j, rfl, rfl, q⟩
theorem x_rU {g : Int → V} (q : Q (g i) H) : rU g (.int i) H Q := ⟨i, rfl, q⟩
theorem x_rEq {x y : V} (h : scal x y = true) (q : Q (.bl (decide (x = y))) H) : rEq x y H Q := ⟨h, q⟩
theorem x_rNe {x y : V} (h : scal x y = true) (q : Q (.bl (!decide (x = y))) H) : rNe x y H Q := ⟨h, q⟩
theorem x_test {t : TE} {R : Bool → Hp → Prop} (q : t σ H fun x H' => ∃ k, x = .bl k ∧ R k H') : tTest t σ H R := q
theorem x_b {t : TE} {R : Bool → Hp → Prop} (q : t σ H fun x H' => ∃ k, x = .bl k ∧ R k H') : tB t σ H R := q
theorem x_bl {b : Bool} {R : Bool → Prop} (q : R b) : ∃ k, V.bl b = V.bl k ∧ R k := ⟨b, rfl, q⟩
theorem x_ifE {t : TT} (q : t σ H fun c H1 => if c = true then ta σ H1 Q else tb σ H1 Q) : tIf t ta tb σ H Q := q
theorem x_ifS {t : TT} {u1 u2 : TS} {D : Ends} (q : t σ H fun c H1 => if c = true then u1 D σ H1 else u2 D σ H1) : tIfS t u1 u2 D σ H := q
theorem x_and {t u : TT} {R : Bool → Hp → Prop} (q : t σ H fun c H1 => if c = true then u σ H1 R else R false H1) : tAnd t u σ H R := q
theorem x_or {t u : TT} {R : Bool → Hp → Prop} (q : t σ H fun c H1 => if c = true then R true H1 else u σ H1 R) : tOr t u σ H R := q
theorem x_not {t : TT} {R : Bool → Hp → Prop} (q : t σ H fun c H1 => R (!c) H1) : tNot t σ H R := q
theorem x_notV (q : ta σ H fun x H1 => ∃ c, x = .bl c ∧ Q (.bl (!c)) H1) : tNotV ta σ H Q := q
theorem x_andV (q : ta σ H fun x H1 => ∃ c, x = .bl c ∧ if c = true then tb σ H1 Q else Q (.bl false) H1) : tAndV ta tb σ H Q := q
theorem x_orV (q : ta σ H fun x H1 => ∃ c, x = .bl c ∧ if c = true then Q (.bl true) H1 else tb σ H1 Q) : tOrV ta tb σ H Q := q
theorem x_cons {tr : TA} {R : List V → Hp → Prop} (q : ta σ H fun x H1 => tr σ H1 fun xs H2 => R (x :: xs) H2) : tCons ta tr σ H R := q
theorem x_nil {R : List V → Hp → Prop} (q : R [] H) : tNil σ H R := q
theorem x_tup {t : TA} (q : t σ H fun xs H1 => xs.length ≤ sizeLine ∧ ∀ p, H1 p = none → Q (.ref p) (upd H1 p (.tup xs))) : tTup t σ H Q := q
theorem x_lst {t : TA} (q : t σ H fun xs H1 => xs.length ≤ sizeLine ∧ ∀ p, H1 p = none → Q (.ref p) (upd H1 p (.lst xs))) : tLst t σ H Q := q
theorem x_cb {r : List V → Hp → VK → Prop} {t : TA} (q : t σ H fun vs H1 => r vs H1 Q) : tCB r t σ H Q := q
theorem x_call {sp : Sp} {dvs : List V} {E : XK} {t : TA} (q : t σ H fun vs H1 => sp (vs ++ dvs) H1 Q E) : tCall sp dvs E t σ H Q := q
theorem x_ixL (h : SqL K H p xs) (e : atI xs i = some v) (q : Q v H) : rIxL K (.ref p) (.int i) H Q := ⟨p, xs, i, v, rfl, rfl, h, e, q⟩
theorem x_ixT (h : SqT K H p xs) (e : atI xs i = some v) (q : Q v H) : rIxT K (.ref p) (.int i) H Q := ⟨p, xs, i, v, rfl, rfl, h, e, q⟩
theorem x_ixS {c : Nat} (h : z.length ≤ sizeLine) (e : atI z.cps.toList i = some c) (q : Q (.str ⟨#[c]⟩) H) : rIxS (.str z) (.int i) H Q := ⟨z, i, c, rfl, rfl, h, e, q⟩
theorem x_lenL {R : List V → Prop} (h : SqL K H p ys ∨ SqT K H p ys) (q : R ys) : ∃ (p' : Addr) (ys : List V), [V.ref p] = [V.ref p'] ∧ (SqL K H p' ys ∨ SqT K H p' ys) ∧ R ys := ⟨p, ys, rfl, h, q⟩
theorem x_lenS {R : Str → Prop} (h : z.length ≤ sizeLine) (q : R z) : ∃ z', [V.str z] = [V.str z'] ∧ z'.length ≤ sizeLine ∧ R z' := ⟨z, rfl, h, q⟩
theorem x_two {R : Int → Int → Prop} (q : R i j) : ∃ i' j', [V.int i, V.int j] = [V.int i', V.int j'] ∧ R i' j' := ⟨i, j, rfl, q⟩
theorem x_intB {R : Int → Prop} {S : Bool → Prop} {k : Bool} (q : S k) : (∃ i, [V.bl k] = [V.int i] ∧ R i) ∨ ∃ k', [V.bl k] = [V.bl k'] ∧ S k' := .inr ⟨k, rfl, q⟩
theorem x_addS {R : Str → Str → Prop} (h : z.length + z'.length ≤ sizeLine) (q : R z z') : ∃ i j, V.str z = V.str i ∧ V.str z' = V.str j ∧ i.length + j.length ≤ sizeLine ∧ R i j := ⟨z, z', rfl, rfl, h, q⟩
theorem x_chain {r r' : R2} (q : ta σ H fun x H1 => tb σ H1 fun y H2 => r x y H2 fun z H3 => ∃ k, z = .bl k ∧ if k = true then tc σ H3 fun w H4 => r' y w H4 Q else Q (.bl false) H3) : tChain r r' ta tb tc σ H Q := q
theorem x_seq {t u : TS} {D : Ends} (q : t { D with nx := u D } σ H) : tSeq t u D σ H := q
theorem x_next {D : Ends} (q : D.nx σ H) : tNext D σ H := q
theorem x_asg {g : TG} {D : Ends} (q : te σ H fun x H1 => g x σ H1 D.nx) : tAsg te g D σ H := q
theorem x_name {R : St → Hp → Prop} (q : R (σ.set n (some v)) H) : gName n v σ H R := q
theorem x_drop {D : Ends} (q : te σ H fun _ H1 => D.nx σ H1) : tDrop te D σ H := q
theorem x_ret {D : Ends} (q : te σ H D.rt) : tRet te D σ H := q
theorem x_gTup {t : TGs} {R : St → Hp → Prop} (h : SqT K H a xs) (hl : xs.length = n) (q : t xs σ H R) : gTup K n t (.ref a) σ H R := ⟨a, xs, rfl, h, hl, q⟩
theorem x_gCons {t : TG} {u : TGs} {vs : List V} {R : St → Hp → Prop} (q : t v σ H fun σ' H' => u vs σ' H' R) : gCons t u (v :: vs) σ H R := ⟨v, vs, rfl, q⟩
theorem x_gNil {R : St → Hp → Prop} (q : R σ H) : gNil [] σ H R := ⟨rfl, q⟩
theorem x_gSub {to ti : TE} {t : TSet} {R : St → Hp → Prop} (q : to σ H fun o H1 => ti σ H1 fun i H2 => t o i v H2 fun H3 => R σ H3) : gSub to ti t v σ H R := q
theorem x_setL {k : Nat} {R : Hp → Prop} (h : H p = some (.lst xs)) (e : ixN xs.length i = some k) (q : R (upd H p (.lst (xs.set k v)))) : rSetL (.ref p) (.int i) v H R := ⟨p, xs, i, k, rfl, rfl, h, e, q⟩
theorem x_bm {T : String} {r : V → List V → Hp → VK → Prop} {to : TE} {t : TA} (q : to σ H fun x H1 => tyV K T x H1 ∧ t σ H1 fun xs H2 => r x xs H2 Q) : tBM K T r to t σ H Q := q
theorem x_m1 {r : V → List V → Hp → VK → Prop} {to : TE} (q : to σ H fun x H1 => (∃ a, x = .str a) ∧ te σ H1 fun y H2 => r x [y] H2 Q) : tM1 r to te σ H Q := q
theorem x_m1s {R : Prop} (q : R) : (∃ a, V.str z = V.str a) ∧ R := ⟨⟨z, rfl⟩, q⟩
theorem x_sl {r : V → Option Int → Option Int → Hp → VK → Prop} {tl th : TO} (q : te σ H fun x H1 => tl σ H1 fun l H2 => th σ H2 fun u H3 => r x l u H3 Q) : tSl r te tl th σ H Q := q
theorem x_noPart {R : Option Int → Hp → Prop} (q : R none H) : tNoPart σ H R := q
theorem x_part {R : Option Int → Hp → Prop} (q : te σ H fun x H1 => ∃ i, x = .int i ∧ R (some i) H1) : tPart te σ H R := q
theorem x_parti {R : Int → Prop} (q : R i) : ∃ i', V.int i = V.int i' ∧ R i' := ⟨i, rfl, q⟩
theorem x_slS {lo hi : Option Int} (h : z.length ≤ sizeLine) (q : Q (.str (cutS z lo hi)) H) : rSlS (.str z) lo hi H Q := ⟨z, rfl, h, q⟩
theorem x_rng1 {t : TA} {R : It → Hp → Prop} (q : t σ H fun vs H1 => ∃ j : Int, vs = [.int j] ∧ -(2 ^ 62) ≤ j ∧ j < 2 ^ 62 ∧ R (Itr 0 j.toNat) H1) : iRng1 t σ H R := q
theorem x_rng1i {R : Int → Prop} (h1 : -(2 ^ 62) ≤ i) (h2 : i < 2 ^ 62) (q : R i) : ∃ j : Int, [V.int i] = [V.int j] ∧ -(2 ^ 62) ≤ j ∧ j < 2 ^ 62 ∧ R j := ⟨i, rfl, h1, h2, q⟩
theorem x_rng2 {t : TA} {R : It → Hp → Prop} (q : t σ H fun vs H1 => ∃ i j : Int, vs = [.int i, .int j] ∧ (-(2 ^ 62) ≤ i ∧ i < 2 ^ 62 ∧ -(2 ^ 62) ≤ j ∧ j < 2 ^ 62) ∧ R (Itr i (j - i).toNat) H1) : iRng2 t σ H R := q
theorem x_rng2i {R : Int → Int → Prop} (h : -(2 ^ 62) ≤ i ∧ i < 2 ^ 62 ∧ -(2 ^ 62) ≤ j ∧ j < 2 ^ 62) (q : R i j) : ∃ i' j' : Int, [V.int i, V.int j] = [V.int i', V.int j'] ∧ (-(2 ^ 62) ≤ i' ∧ i' < 2 ^ 62 ∧ -(2 ^ 62) ≤ j' ∧ j' < 2 ^ 62) ∧ R i' j' := ⟨i, j, rfl, h, q⟩
theorem x_lcR {g : TG} {tt : TT} {vs : List Nat} {wi : TI} (q : wi σ H fun J H1 => ∀ D, H1 D = none → ∃ W : Nat → Nat → Hp → Prop, (∃ m, W 0 m (upd H1 D (.lst []))) ∧ ∀ i m H, W i m H →
  (J.stop i H ∧ Q (.ref D) H) ∨ (J.go i H ∧ ∃ Nx : Hp → Prop, (∀ H', Nx H' → ∃ m', m' < m ∧ W (i + 1) m' H') ∧ ∀ x H', J.yld i H x H' → g x (wipe σ vs) H' fun σ2 H2 => wipe σ2 vs = wipe σ vs ∧ tt σ2 H2 fun b H3 =>
    if b = true then te σ2 H3 fun y H4 => ∃ acc, H4 D = some (.lst acc) ∧ acc.length < sizeLine ∧ Nx (upd H4 D (.lst (acc ++ [y]))) else Nx H3)) : tLc wi g tt te vs σ H Q := q
theorem x_yes {R : Bool → Hp → Prop} (q : R true H) : tYes σ H R := q
theorem x_iList {R : It → Hp → Prop} {tl : TE} (q : tl σ H fun x H1 => ∃ a, x = .ref a ∧ (∃ xs, SqL K H1 a xs) ∧ R (Itl K a) H1) : iList K tl σ H R := q
theorem x_iListi {R : Addr → Prop} (h : SqL K H a xs) (q : R a) : ∃ a', V.ref a = V.ref a' ∧ (∃ xs, SqL K H a' xs) ∧ R a' := ⟨a, rfl, ⟨xs, h⟩, q⟩
theorem x_iStr {R : It → Hp → Prop} (q : te σ H fun v H1 => ∃ x, v = .str x ∧ R (Its x) H1) : iStr te σ H R := q
theorem x_iStri {R : Str → Prop} (q : R z) : ∃ z', V.str z = V.str z' ∧ R z' := ⟨z, rfl, q⟩
theorem x_for {wi : TI} {g : TG} {tb : TS} {D : Ends} (q : wi σ H fun J H1 => ∃ W : Nat → Nat → St → Hp → Prop, (∃ m, W 0 m σ H1) ∧ ∀ i m σ H, W i m σ H →
    ((J.stop i H ∧ D.nx σ H) ∨ (J.go i H ∧ ∃ N : St → Hp → Prop, (∀ σ' H', N σ' H' → ∃ m', m' < m ∧ W (i + 1) m' σ' H') ∧ ∀ x H', J.yld i H x H' → g x σ H' fun σ2 H2 => tb { D with nx := N, ct := N, bk := D.nx } σ2 H2))) : tFor wi g tb D σ H := q
theorem x_append (h : H p = some (.lst xs)) (hl : xs.length < sizeLine) (q : Q .non (upd H p (.lst (xs ++ [v])))) : rAppend (.ref p) [v] H Q := ⟨p, xs, v, rfl, rfl, h, hl, q⟩
theorem x_s1 {R : Str → Str → Prop} (q : R z z') : ∃ a b, V.str z = V.str a ∧ [V.str z'] = [V.str b] ∧ R a b := ⟨z, z', rfl, rfl, q⟩
theorem x_aug {te : TE} {ti : TIp} {D : Ends} {x : V} (h : σ[n]? = some (some x)) (q : te σ H fun y H1 => ti x y H1 fun z H2 => D.nx (σ.set n (some z)) H2) : tAug n te ti D σ H := ⟨x, h, q⟩
theorem x_ipI {f : Int → Int → Int} (q : Q (.int (f i j)) H) : ipI f (.int i) (.int j) H Q := ⟨i, j, rfl, rfl, q⟩
theorem x_enumS {R : Str → Prop} (q : R z) : ∃ x, [V.str z] = [V.str x] ∧ R x := ⟨z, rfl, q⟩
theorem x_par {k : Nat} {t : TA} {D : Ends} (q : t σ H fun vs H1 => ∃ v w, vs = [v, w] ∧ D.nx ((σ.set n (some v)).set k (some w)) H1) : tPar n k t D σ H := q
theorem x_parv {R : V → V → Prop} {v' : V} (q : R v v') : ∃ x y, [v, v'] = [x, y] ∧ R x y := ⟨v, v', rfl, q⟩
theorem x_rIntB {R : Int → Prop} {S : Bool → Prop} (q : R i) : (∃ j, [V.int i] = [V.int j] ∧ R j) ∨ ∃ k, [V.int i] = [V.bl k] ∧ S k := .inl ⟨i, rfl, q⟩
theorem x_join {ys : List Str} {R : Str → List Str → Prop} (h : SqL K H p (ys.map V.str)) (hl : (ys.map (·.length)).sum + ys.length * z.length ≤ 16777216) (q : R z ys) :
    ∃ a p', ∃ ys : List Str, V.str z = V.str a ∧ [V.ref p] = [V.ref p'] ∧ (SqL K H p' (ys.map V.str) ∨ SqT K H p' (ys.map V.str)) ∧ (ys.map (·.length)).sum + ys.length * a.length ≤ 16777216 ∧ R a ys := ⟨z, p, ys, rfl, rfl, .inl h, hl, q⟩
end
theorem x_cutE {te : TE} {σ : St} {H : Hp} {Q : VK} (P : V → Hp → Prop) (h1 : ∀ Q' : VK, (∀ v H', P v H' → Q' v H') → te σ H Q') (h2 : ∀ v H', P v H' → Q v H') : te σ H Q := h1 Q h2
theorem x_cutS {t : TS} {D : Ends} {σ : St} {H : Hp} (P : St → Hp → Prop) (h1 : ∀ nx : St → Hp → Prop, (∀ σ' H', P σ' H' → nx σ' H') → t { D with nx := nx } σ H) (h2 : ∀ σ' H', P σ' H' → D.nx σ' H') : t D σ H := h1 D.nx h2
theorem x_iteNT {A B : Prop} (q : B) : if (!true) = true then A else B := q
theorem x_iteNF {A B : Prop} (q : A) : if (!false) = true then A else B := q
theorem x_iteFe {c : Bool} {A B : Prop} (h : c = false) (q : B) : if c = true then A else B := by
  rw [h]
  exact q
theorem x_iteTe {c : Bool} {A B : Prop} (h : c = true) (q : A) : if c = true then A else B := by
  rw [h]
  exact q
theorem hp_sz {n : Nat} (h : n ≤ 1000000) : n ≤ sizeLine := Nat.le_trans h (by decide)
end L2

namespace Sr
open PySem PySem.Spec PyProof.Rows L2
/-! ### the source of draws: a list [s, cells, i] at a, its cells at b -/
def Src (H : Hp) (a b : Addr) : Prop := a ≠ b ∧ ∃ (s i : Int) (cs : List Int), H a = some (.lst [.int s, .ref b, .int i]) ∧ H b = some (.lst (cs.map V.int)) ∧ cs.length ≤ 63
/-- all that is tracked but the source stands as it was -/
def Kp (a b : Addr) (H H' : Hp) : Prop := ∀ p o, p ≠ a → p ≠ b → H p = some o → H' p = some o
theorem Kp.refl {a b : Addr} (H : Hp) : Kp a b H H := fun _ _ _ _ h => h
theorem Kp.trans {a b : Addr} {H H1 H2 : Hp} (x : Kp a b H H1) (y : Kp a b H1 H2) : Kp a b H H2 := fun p o h1 h2 h => y p o h1 h2 (x p o h1 h2 h)
theorem Kp.of {a b : Addr} {H H' : Hp} (x : Same H H') : Kp a b H H' := fun p o _ _ h => x p o h
theorem Kp.new {a b p : Addr} {H : Hp} {o : HO} (h : H p = none) : Kp a b H (upd H p o) := fun q u _ _ e => by
  rw [upd_ne (ne_of_none e h)]
  exact e
theorem Kp.at_a {a b : Addr} {H : Hp} {o : HO} : Kp a b H (upd H a o) := fun q u n _ e => by
  rw [upd_ne n]
  exact e
theorem Kp.at_b {a b : Addr} {H : Hp} {o : HO} : Kp a b H (upd H b o) := fun q u _ n e => by
  rw [upd_ne n]
  exact e
theorem Src.new {a b p : Addr} {H : Hp} {o : HO} (x : Src H a b) (h : H p = none) : Src (upd H p o) a b := by
  obtain ⟨n, s, i, cs, h1, h2, h3⟩ := x
  exact ⟨n, s, i, cs, by rw [upd_ne (ne_of_none h1 h)]; exact h1, by rw [upd_ne (ne_of_none h2 h)]; exact h2, h3⟩
/-- an object that is no list of ints and no list that begins so stands apart -/
theorem same_upd {H : Hp} {p : Addr} {o : HO} (h : H p = none) : Same H (upd H p o) := fun b x e => by
  rw [upd_ne (ne_of_none e h)]
  exact e
theorem Src_same {a b : Addr} {H H' : Hp} (x : Src H a b) (e : Same H H') : Src H' a b := by
  obtain ⟨n, s, i, cs, h1, h2, h3⟩ := x
  exact ⟨n, s, i, cs, e _ _ h1, e _ _ h2, h3⟩
theorem atI_of {α : Type} {xs : List α} {i : Int} {v : α} (h0 : 0 ≤ i) (h : xs[i.toNat]? = some v) : atI xs i = some v := by
  have e : i = ((i.toNat : Nat) : Int) := by omega
  rw [e]
  exact atI_nat h
theorem ixN_of {n : Nat} {i : Int} (h0 : 0 ≤ i) (h : i < n) : ixN n i = some i.toNat := by
  unfold ixN
  rw [if_pos h0, if_pos h]
theorem eqv_ints_nil : ∀ cs : List Int, PyData.eqv (.list (cs.map PyData.int)) (.list []) = cs.isEmpty
  | [] => by decide +kernel
  | c :: cs => by
    show PyData.eqv (.list (PyData.int c :: cs.map PyData.int)) (.list []) = false
    simp [PyData.eqv, PyData.eqvAll]
theorem dp_ints {K : PySem.W.Frag} {H : Hp} : ∀ cs : List Int, DpAll K H (cs.map V.int) (cs.map PyData.int)
  | [] => .nil
  | c :: cs => .cons (.int c) (dp_ints cs)
theorem lay_ints : ∀ cs : List Int, PyData.canLayAll0 (cs.map PyData.int) = true
  | [] => by simp [PyData.canLayAll0]
  | c :: cs => by
    have h := lay_ints cs
    simp [PyData.canLayAll0, PyData.canLay0] at h ⊢
    exact h
theorem depth_ints : ∀ cs : List Int, PyData.depthAll (cs.map PyData.int) ≤ 1
  | [] => by simp [PyData.depthAll]
  | c :: cs => by
    have h := depth_ints cs
    simp [PyData.depthAll, PyData.depth] at h ⊢
    omega
theorem shaped_ints (cs : List Int) : SeqAt.shaped (.list (cs.map PyData.int)) = true := by
  unfold SeqAt.shaped
  rw [Bool.and_eq_true]
  refine ⟨lay_ints cs, decide_eq_true ?_⟩
  have h := depth_ints cs
  simp only [PyData.depth]
  omega
theorem ints_at {cs : List Int} {j : Nat} (h : j < cs.length) : (cs.map V.int)[j]? = some (.int cs[j]) := by
  rw [List.getElem?_map, List.getElem?_eq_getElem h]
  rfl
theorem map_set_int (cs : List Int) (j : Nat) (x : Int) : (cs.map V.int).set j (.int x) = (cs.set j x).map V.int := by
  rw [List.map_set]
end Sr

namespace Sr
open PySem PySem.Spec PyProof.Rows L2
open TL (tl)
/-! ### texts by their codes -/
/-- the text of these codes -/
def S (l : List Nat) : Str := ⟨l.toArray⟩
theorem tl_S (l : List Nat) : tl (S l) = l := rfl
theorem S_tl (z : Str) : S (tl z) = z := TL.mk_tl z
theorem S_inj {l m : List Nat} (h : S l = S m) : l = m := congrArg tl h
theorem len_S (l : List Nat) : (S l).length = l.length := by rw [TL.len_tl, tl_S]
theorem S_app (l m : List Nat) : S l ++ S m = S (l ++ m) := TL.ext_tl (by rw [TL.tl_append, tl_S, tl_S, tl_S])
def sg (c : Nat) : Str := ⟨#[c]⟩
theorem sg_S (c : Nat) : sg c = S [c] := rfl
theorem joinL_nil : ∀ ps : List (List Nat), TL.joinL [] ps = ps.flatten
  | [] => rfl
  | [p] => by simp [TL.joinL]
  | p :: q :: r => by
    show p ++ ([] ++ TL.joinL [] (q :: r)) = _
    rw [joinL_nil (q :: r)]
    simp
theorem join_signs (cs : List Nat) : Txt.join "" (cs.map sg) = S cs := by
  refine TL.ext_tl ?_
  rw [TL.join_eq, TL.tl_join, show tl ("" : Str) = [] from rfl, joinL_nil, tl_S, List.map_map]
  induction cs with
  | nil => rfl
  | cons c cs ih =>
    rw [List.map_cons, List.flatten_cons, ih]
    rfl
theorem signs_len (cs : List Nat) : ((cs.map sg).map (·.length)).sum + (cs.map sg).length * ("" : Str).length = cs.length := by
  rw [show ("" : Str).length = 0 from rfl, Nat.mul_zero, Nat.add_zero]
  induction cs with
  | nil => rfl
  | cons c cs ih =>
    rw [List.map_cons, List.map_cons, List.sum_cons, ih, List.length_cons]
    show 1 + cs.length = _
    omega
theorem spl_len (c : Nat) : ∀ (l acc : List Nat), (TL.spl [c] 0 acc l).length = l.count c + 1
  | [], acc => by simp [TL.spl]
  | d :: r, acc => by
    have e : TL.spl [c] 0 acc (d :: r) = if TL.pre [c] (d :: r) = true then acc :: TL.spl [c] 0 [] r else TL.spl [c] 0 (acc ++ [d]) r := rfl
    rw [e]
    by_cases h : d = c
    · subst h
      rw [if_pos (by simp [TL.pre]), List.length_cons, spl_len d r [], List.count_cons_self]
    · have hp : ¬ TL.pre [c] (d :: r) = true := by simp [TL.pre, h]
      rw [if_neg hp, spl_len c r _, List.count_cons_of_ne h]
theorem parts_len (x : Str) (n : Nat) : ∀ (cuts : List Nat) (a : Nat), (StrLaws.partsFrom x n a cuts).length = cuts.length + 1
  | [], _ => rfl
  | c :: r, a => by
    show (_ :: StrLaws.partsFrom x n (c + n) r).length = _
    rw [List.length_cons, parts_len x n r, List.length_cons]
theorem count_sign (z : Str) (c : Nat) : Txt.count z (sg c) = (((tl z).count c : Nat) : Int) := by
  have hy : tl (sg c) ≠ [] := by
    show [c] ≠ []
    simp
  obtain ⟨f, g, hn⟩ := StrLaws.occ_tight z (sg c) (by show 1 ≤ 1; exact Nat.le_refl _)
  have key := congrArg List.length (TL.parts_spl hy _ 0 f (Nat.zero_le _) g hn)
  rw [List.length_map, parts_len, List.drop_zero, show tl (sg c) = [c] from rfl, spl_len] at key
  show ((Builtin.Str.occurrences z (sg c) 0 z.length (z.length + 1)).length : Int) = _
  omega
/-- the worth of likes -/
def wor (g l : Int) : List Nat → Int
  | [] => 0
  | c :: r => (if c = 61 then g else -l) + wor g l r
theorem wor_app (g l : Int) : ∀ a b, wor g l (a ++ b) = wor g l a + wor g l b
  | [], b => by simp [wor]
  | c :: a, b => by
    show (if c = 61 then g else -l) + wor g l (a ++ b) = (if c = 61 then g else -l) + wor g l a + wor g l b
    rw [wor_app g l a b]
    omega
theorem wor_take (g l : Int) {z : List Nat} {i : Nat} (h : i < z.length) : wor g l (z.take (i + 1)) = wor g l (z.take i) + (if z[i] = 61 then g else -l) := by
  rw [List.take_succ_eq_append_getElem h, wor_app]
  show _ + ((if z[i] = 61 then g else -l) + 0) = _
  omega
/-- likes: a text of 61 and 47 alone -/
def Lk (z : List Nat) : Prop := ∀ c ∈ z, c = 61 ∨ c = 47
theorem wor_count (g l : Int) : ∀ {z : List Nat}, Lk z → g * ((z.count 61 : Nat) : Int) - l * ((z.count 47 : Nat) : Int) = wor g l z
  | [], _ => by simp [wor]
  | c :: r, h => by
    have ih := wor_count g l (z := r) fun d hd => h d (List.mem_cons_of_mem _ hd)
    show _ = (if c = 61 then g else -l) + wor g l r
    rcases h c (List.mem_cons_self ..) with e | e
    · subst e
      rw [List.count_cons_self, List.count_cons_of_ne (by decide), if_pos rfl, ← ih, Int.natCast_add, Int.mul_add]
      simp
      omega
    · subst e
      rw [List.count_cons_self, List.count_cons_of_ne (by decide), if_neg (by decide), ← ih, Int.natCast_add, Int.mul_add]
      simp
      omega
/-- the places of a lane -/
def onl (n : Nat) (d : Int) (p : Nat) : Bool := decide (0 ≤ (p : Int) + d) && decide ((p : Int) + d < (n : Int))
def plc (m n : Nat) (d : Int) : List Nat := (List.range m).filter (onl n d)
def bgn (d : Int) : Nat := (-d).toNat
def lkn (m n : Nat) (d : Int) : Nat := (min (m : Int) ((n : Int) - d) - (bgn d : Int)).toNat
theorem plc_eq (n : Nat) (d : Int) : ∀ m, plc m n d = (List.range (lkn m n d)).map (bgn d + ·)
  | 0 => by
    have h : lkn 0 n d = 0 := by unfold lkn bgn; omega
    rw [h]
    rfl
  | m + 1 => by
    have ih := plc_eq n d m
    unfold plc at ih ⊢
    rw [List.range_succ, List.filter_append, ih]
    by_cases h : onl n d m = true
    · have h' : 0 ≤ (m : Int) + d ∧ (m : Int) + d < n := by
        unfold onl at h
        simpa using h
      have e : lkn (m + 1) n d = lkn m n d + 1 := by unfold lkn bgn; omega
      have e2 : m = bgn d + lkn m n d := by unfold lkn bgn; omega
      rw [e, List.range_succ, List.map_append, List.filter_cons, if_pos h]
      show _ ++ [m] = _ ++ [bgn d + lkn m n d]
      rw [← e2]
    · have h' : ¬ (0 ≤ (m : Int) + d ∧ (m : Int) + d < n) := by
        unfold onl at h
        simpa using h
      have e : lkn (m + 1) n d = lkn m n d := by unfold lkn bgn; omega
      rw [e, List.filter_cons, if_neg h]
      simp
/-- the like at a place -/
def lk1 (o t : List Nat) (d : Int) (p : Nat) : Nat := if o[p]? = t[((p : Int) + d).toNat]? then 61 else 47
def likL (o t : List Nat) (d : Int) : List Nat := (plc o.length t.length d).map (lk1 o t d)
theorem likL_Lk (o t : List Nat) (d : Int) : Lk (likL o t d) := fun c h => by
  obtain ⟨p, _, rfl⟩ := List.mem_map.mp h
  unfold lk1
  split
  · exact .inl rfl
  · exact .inr rfl
theorem plc_len (m n : Nat) (d : Int) : (plc m n d).length = lkn m n d := by
  rw [plc_eq, List.length_map, List.length_range]
theorem likL_len (o t : List Nat) (d : Int) : (likL o t d).length = lkn o.length t.length d := by
  unfold likL
  rw [List.length_map, plc_len]
theorem lkn_le (m n : Nat) (d : Int) : lkn m n d ≤ m := by unfold lkn bgn; omega
theorem likL_le (o t : List Nat) (d : Int) : (likL o t d).length ≤ o.length := by rw [likL_len]; exact lkn_le _ _ _
theorem likL_eq (o t : List Nat) (d : Int) : likL o t d = (List.range (lkn o.length t.length d)).map fun i => lk1 o t d (bgn d + i) := by
  unfold likL
  rw [plc_eq, List.map_map]
  rfl
/-- the drawn letters -/
def letL (t n : Nat) : List Nat := (List.range n).map fun k => 97 + (t + 7 * k) % 26
theorem letL_len (t n : Nat) : (letL t n).length = n := by unfold letL; rw [List.length_map, List.length_range]
theorem pv_step {H2 H : Hp} {D : Addr} {f : Nat → V} {i : Nat} {y : V} (hn : H2 D = none) (sm : Same H2 H) (hD : H D = some (.lst ((List.range i).map f))) (hi : i ≤ 1000000) (hy : y = f i) :
    ∃ acc, H D = some (.lst acc) ∧ acc.length < sizeLine ∧ (Same H2 (upd H D (.lst (acc ++ [y]))) ∧ upd H D (.lst (acc ++ [y])) D = some (.lst ((List.range (i + 1)).map f))) := by
  refine ⟨_, hD, ?_, fun b o e => ?_, ?_⟩
  · rw [List.length_map, List.length_range]
    exact Nat.lt_of_le_of_lt hi (by decide)
  · rw [upd_ne (ne_of_none e hn)]
    exact sm b o e
  · rw [upd_same, hy, List.range_succ, List.map_append]
    rfl
theorem lst_map_signs (cs : List Nat) : (cs.map sg).map V.str = cs.map fun c => V.str (sg c) := by rw [List.map_map]; rfl
/-- the end of ''.join of signs -/
theorem join_end {K : PySem.W.Frag} {H : Hp} {p : Addr} {cs : List Nat} {Q : VK} (h : H p = some (.lst (cs.map fun c => V.str (sg c)))) (hl : cs.length ≤ 1000000) (q : Q (.str (S cs)) H) :
    ∃ a p', ∃ ys : List Str, V.str (Str.ofString "") = V.str a ∧ [V.ref p] = [V.ref p'] ∧ (SqL K H p' (ys.map V.str) ∨ SqT K H p' (ys.map V.str)) ∧ (ys.map (·.length)).sum + ys.length * a.length ≤ 16777216 ∧ Q (V.str (Txt.join a ys)) H := by
  refine ⟨_, p, cs.map sg, rfl, rfl, .inl (SqL.of ?_), ?_, ?_⟩
  · rw [lst_map_signs]
    exact h
  · have e := signs_len cs
    show ((cs.map sg).map (·.length)).sum + (cs.map sg).length * ("" : Str).length ≤ 16777216
    rw [e]
    omega
  · have e := join_signs cs
    show Q (V.str (Txt.join "" (cs.map sg))) H
    rw [e]
    exact q
/-- what a comprehension of drawn signs keeps -/
def Dr (a b : Addr) (H0 : Hp) (D : Addr) (ok : Nat → Prop) (i : Nat) (H : Hp) : Prop := ∃ cs : List Nat, cs.length = i ∧ (∀ c ∈ cs, ok c) ∧ Src H a b ∧ Kp a b H0 H ∧ H D = some (.lst (cs.map fun c => V.str (sg c)))
theorem Dr.start {a b : Addr} {H0 : Hp} {D : Addr} {ok : Nat → Prop} (hs : Src H0 a b) (hn : H0 D = none) : Dr a b H0 D ok 0 (upd H0 D (.lst [])) :=
  ⟨[], rfl, (fun c h => nomatch h), hs.new hn, Kp.new hn, upd_same⟩
theorem Src.ne_a {a b D : Addr} {H : Hp} (h : Src H a b) (hn : H D = none) : D ≠ a := by
  obtain ⟨_, _, _, _, h1, _⟩ := h
  exact (ne_of_none h1 hn).symm
theorem Src.ne_b {a b D : Addr} {H : Hp} (h : Src H a b) (hn : H D = none) : D ≠ b := by
  obtain ⟨_, _, _, _, _, h1, _⟩ := h
  exact (ne_of_none h1 hn).symm
theorem Src.upd {a b D : Addr} {H : Hp} {o : HO} (h : Src H a b) (na : D ≠ a) (nb : D ≠ b) : Src (upd H D o) a b := by
  obtain ⟨n, s, i, cs, h1, h2, h3⟩ := h
  exact ⟨n, s, i, cs, by rw [upd_ne na.symm]; exact h1, by rw [upd_ne nb.symm]; exact h2, h3⟩
/-- a turn: the element drew in between (H to H'), then its sign is appended -/
theorem Dr.step {a b : Addr} {H0 H H' : Hp} {D : Addr} {ok : Nat → Prop} {i c : Nat} (hn : H0 D = none) (hs0 : Src H0 a b) (h : Dr a b H0 D ok i H) (hi : i ≤ 1000000) (hs : Src H' a b) (k : Kp a b H H') (hc : ok c) :
    ∃ acc, H' D = some (.lst acc) ∧ acc.length < sizeLine ∧ Dr a b H0 D ok (i + 1) (L2.upd H' D (.lst (acc ++ [V.str (sg c)]))) := by
  obtain ⟨cs, hl, hok, _, k0, hD⟩ := h
  have na := hs0.ne_a hn
  have nb := hs0.ne_b hn
  refine ⟨_, k D _ na nb hD, ?_, cs ++ [c], ?_, ?_, hs.upd na nb, fun p o h1 h2 e => ?_, ?_⟩
  · rw [List.length_map, hl]
    exact Nat.lt_of_le_of_lt hi (by decide)
  · rw [List.length_append, hl]
    rfl
  · intro d hd
    rcases List.mem_append.mp hd with h1 | h1
    · exact hok d h1
    · rw [List.mem_singleton.mp h1]
      exact hc
  · rw [upd_ne (ne_of_none e hn)]
    exact k p o h1 h2 (k0 p o h1 h2 e)
  · rw [upd_same, List.map_append]
    rfl
end Sr
namespace Sr
open PySem PySem.Spec PyProof.Rows L2
/-! ### data that the law compares -/
inductive Gd : PyData → Prop where
  | int (i : Int) : Gd (.int i)
  | str (x : Str) : Gd (.str x)
  | bl (b : Bool) : Gd (.bool b)
  | lst (ds : List PyData) (hl : ds.length ≤ 100000) (h : ∀ d ∈ ds, Gd d) : Gd (.list ds)
  | tup (ds : List PyData) (hl : ds.length ≤ 100000) (h : ∀ d ∈ ds, Gd d) : Gd (.tuple ds)
theorem SqT_same {K : PySem.W.Frag} {H H' : Hp} {a : Addr} {xs : List V} (e : Same H H') (h : SqT K H a xs) : SqT K H' a xs := by
  rcases h with (h | ⟨o, h⟩) | h
  · exact .inl (.inl (e _ _ h))
  · exact .inl (.inr ⟨o, e _ _ h⟩)
  · exact .inr h
section
variable {K : PySem.W.Frag} {H H' : Hp}
mutual
theorem Dp_same (e : Same H H') : ∀ (d : PyData) (v : V), Dp K H v d → Dp K H' v d
  | .none, _, h => by cases h; exact .non
  | .bool b, _, h => by cases h; exact .bl b
  | .int i, _, h => by cases h; exact .int i
  | .str x, _, h => by cases h; exact .str x
  | .list ds, _, h => by
    cases h with
    | lst hs ha => exact .lst (e.seq hs) (DpAll_same e ds _ ha)
  | .tuple ds, _, h => by
    cases h with
    | tup hs ha => exact .tup (SqT_same e hs) (DpAll_same e ds _ ha)
  | .dict _, _, h => by cases h
theorem DpAll_same (e : Same H H') : ∀ (ds : List PyData) (vs : List V), DpAll K H vs ds → DpAll K H' vs ds
  | [], _, h => by cases h; exact .nil
  | d :: ds, _, h => by
    cases h with
    | cons h1 h2 => exact .cons (Dp_same e d _ h1) (DpAll_same e ds _ h2)
end
theorem DpAll_len : ∀ {ds : List PyData} {vs : List V}, DpAll K H vs ds → vs.length = ds.length
  | [], _, h => by cases h; rfl
  | d :: ds, _, h => by
    cases h with
    | cons h1 h2 => rw [List.length_cons, List.length_cons, DpAll_len h2]
theorem DpAll_get : ∀ {ds : List PyData} {vs : List V} (i : Nat), DpAll K H vs ds → i < ds.length → ∃ v d, vs[i]? = some v ∧ ds[i]? = some d ∧ Dp K H v d
  | [], _, i, h, hi => by simp at hi
  | d :: ds, _, 0, h, hi => by
    cases h with
    | cons h1 h2 => exact ⟨_, _, rfl, rfl, h1⟩
  | d :: ds, _, i + 1, h, hi => by
    cases h with
    | cons h1 h2 =>
      obtain ⟨v, d', e1, e2, h3⟩ := DpAll_get i h2 (by simpa using hi)
      exact ⟨v, d', e1, e2, h3⟩
def tname : PyData → String
  | .none => "NoneType"
  | .bool _ => "bool"
  | .int _ => "int"
  | .str _ => "str"
  | .list _ => "list"
  | .tuple _ => "tuple"
  | .dict _ => "dict"
theorem dp_ty {v : V} {d : PyData} (h : Dp K H v d) : TyX K H v (.type (tname d)) := by
  cases h with
  | non => exact .base .non
  | bl b => exact .base (.bl b)
  | int i => exact .base (.int i)
  | str x => exact .base (.str x)
  | lst hs _ =>
    rcases hs with (h | ⟨o, h⟩) | ⟨o, its, n, h1, h2, _⟩
    · exact .base (.lst h)
    · exact .base (.frz h)
    · exact .kList h1 h2
  | tup hs _ =>
    rcases hs with (h | ⟨o, h⟩) | ⟨o, its, n, h1, h2, _⟩
    · exact .base (.tup h)
    · exact .fTuple h
    · exact .kTuple h1 h2
theorem kit_lt {tn : String} {b1 b2 : Bool} (h1 : PySem.W.kitOne K (.type tn) (.type "list") = some b1) (h2 : PySem.W.kitOne K (.type tn) (.type "tuple") = some b2) :
    PySem.W.kitAny K (.type tn) [.type "list", .type "tuple"] = some (b1 || b2) :=
  kitAny_cons h1 (fun e => kitAny_cons h2 (fun e2 => by rw [e, e2]; exact kitAny_nil) fun e2 => by rw [e2, Bool.or_true]) fun e => by rw [e, Bool.true_or]
/-- a def that is never called where its promise asks the impossible -/
theorem fn_never {P : Program} {w : World} {mg : Str → Option Value} {base : Heap} {CX : CXT} {k : Nat} {f : Addr} {fd : FuncData} {ps : List Str} {sp : Sp} (h : ∀ vs H Q E, ¬ sp vs H Q E) : FnOk P w K mg base CX k f fd ps sp :=
  ⟨fun vs H Q E z => (h vs H Q E z).elim, fun _ _ _ _ _ _ _ _ _ _ _ _ _ z => (h _ _ _ _ z).elim⟩
theorem x_ixQ {p : Addr} {xs : List V} {i : Int} {v : V} {Q : VK} (h : SqL K H p xs ∨ SqT K H p xs) (e : atI xs i = some v) (q : Q v H) : rIx K (.ref p) (.int i) H Q := by
  rcases h with h | h
  · exact .inl ⟨p, xs, i, v, rfl, rfl, h, e, q⟩
  · exact .inr (.inl ⟨p, xs, i, v, rfl, rfl, h, e, q⟩)
theorem x_isi {x : V} {n tn : String} {b : Bool} {Q : VK} (ht : TyX K H x (.type tn)) (k : PySem.W.kitOne K (.type tn) (.type n) = some b) (q : Q (.bl b) H) : rIsi K [x, .ty n] H Q :=
  ⟨x, .ty n, _, _, b, rfl, .ty n, ht, k, q⟩
theorem x_isiLT {x : V} {tn : String} {p : Addr} {b : Bool} {Q : VK} (hp : H p = some (.tup [.ty "list", .ty "tuple"])) (ht : TyX K H x (.type tn)) (k : PySem.W.kitAny K (.type tn) [.type "list", .type "tuple"] = some b) (q : Q (.bl b) H) : rIsiT K [x, .ref p] H Q :=
  ⟨x, p, _, _, _, b, rfl, hp, .cons (.ty _) (.cons (.ty _) .nil), ht, k, q⟩
theorem TyX_same (e : Same H H') {v : V} {d : PyData} (h : Dp K H v d) : TyX K H' v (.type (tname d)) := dp_ty (Dp_same e d v h)
theorem depth_mem : ∀ {ds : List PyData} {d : PyData}, d ∈ ds → d.depth ≤ PyData.depthAll ds
  | x :: xs, d, h => by
    simp only [PyData.depthAll]
    rcases List.mem_cons.mp h with e | e
    · subst e
      exact Nat.le_max_left _ _
    · exact Nat.le_trans (depth_mem e) (Nat.le_max_right _ _)
end
end Sr
namespace Sr
open PySem PySem.Spec PyProof.Rows L2
theorem cutS_take (z : List Nat) (k : Nat) : cutS (S z) none (some (k : Int)) = S (z.take k) := by
  unfold cutS
  have e0 : HT.sIx (S z).length 0 none = 0 := rfl
  have e1 : HT.sIx (S z).length (S z).length (some (k : Int)) = min k (S z).length := HT.sIx_nat _ _ _
  rw [e0, e1, List.drop_zero, Nat.sub_zero, len_S]
  show S (z.take (min k z.length)) = _
  congr 1
  by_cases h : k ≤ z.length
  · rw [Nat.min_eq_left h]
  · rw [Nat.min_eq_right (by omega), List.take_of_length_le (Nat.le_refl _), List.take_of_length_le (by omega)]
theorem cutS_drop (z : List Nat) (k : Nat) : cutS (S z) (some (k : Int)) none = S (z.drop k) := by
  unfold cutS
  have e0 : HT.sIx (S z).length 0 (some (k : Int)) = min k (S z).length := HT.sIx_nat _ _ _
  have e1 : HT.sIx (S z).length (S z).length none = (S z).length := rfl
  rw [e0, e1, len_S]
  show S ((z.drop (min k z.length)).take (z.length - min k z.length)) = _
  congr 1
  by_cases h : k ≤ z.length
  · rw [Nat.min_eq_left h]
    exact List.take_of_length_le (by rw [List.length_drop]; exact Nat.le_refl _)
  · rw [Nat.min_eq_right (by omega), List.drop_eq_nil_of_le (Nat.le_refl _), List.drop_eq_nil_of_le (by omega)]
    simp
theorem cutS_cut (z : List Nat) (i j : Nat) (h : j ≤ z.length) : cutS (S z) (some (i : Int)) (some (j : Int)) = S ((z.drop i).take (j - i)) := by
  unfold cutS
  have e0 : HT.sIx (S z).length 0 (some (i : Int)) = min i (S z).length := HT.sIx_nat _ _ _
  have e1 : HT.sIx (S z).length (S z).length (some (j : Int)) = min j (S z).length := HT.sIx_nat _ _ _
  rw [e0, e1, len_S, Nat.min_eq_left h]
  show S ((z.drop (min i z.length)).take (j - min i z.length)) = _
  congr 1
  by_cases h2 : i ≤ z.length
  · rw [Nat.min_eq_left h2]
  · rw [Nat.min_eq_right (by omega), List.drop_eq_nil_of_le (Nat.le_refl _), List.drop_eq_nil_of_le (by omega)]
    simp
end Sr
namespace Sr
open PySem PySem.Spec PyProof.Rows L2
theorem seq_view {K : PySem.W.Frag} {H : Hp} {x y : V} {d : PyData} (hx : Dp K H x d) (hy : Dp K H y d) (g : Gd d) :
    (∃ i, x = .int i ∧ y = .int i ∧ tname d = "int") ∨ (∃ z, x = .str z ∧ y = .str z ∧ tname d = "str") ∨ (∃ b, x = .bl b ∧ y = .bl b ∧ tname d = "bool") ∨
    ∃ (ds : List PyData) (px py : Addr) (xs ys : List V) (b1 b2 : Bool), x = .ref px ∧ y = .ref py ∧ (SqL K H px xs ∨ SqT K H px xs) ∧ (SqL K H py ys ∨ SqT K H py ys) ∧ DpAll K H xs ds ∧ DpAll K H ys ds ∧ ds.length ≤ 100000 ∧ (∀ d ∈ ds, Gd d) ∧
      d.depth = PyData.depthAll ds + 1 ∧ PySem.W.kitOne K (.type (tname d)) (.type "list") = some b1 ∧ PySem.W.kitOne K (.type (tname d)) (.type "tuple") = some b2 ∧ (b1 || b2) = true := by
  cases g with
  | int i =>
    cases hx
    cases hy
    exact .inl ⟨i, rfl, rfl, rfl⟩
  | str z =>
    cases hx
    cases hy
    exact .inr (.inl ⟨z, rfl, rfl, rfl⟩)
  | bl b =>
    cases hx
    cases hy
    exact .inr (.inr (.inl ⟨b, rfl, rfl, rfl⟩))
  | lst ds hl h =>
    cases hx with
    | lst h1 h2 =>
      cases hy with
      | lst h3 h4 => exact .inr (.inr (.inr ⟨ds, _, _, _, _, true, false, rfl, rfl, .inl h1, .inl h3, h2, h4, hl, h, by simp only [PyData.depth], kit_ty (a := "list") (by decide +kernel), kit_ty (a := "list") (by decide +kernel), rfl⟩))
  | tup ds hl h =>
    cases hx with
    | tup h1 h2 =>
      cases hy with
      | tup h3 h4 => exact .inr (.inr (.inr ⟨ds, _, _, _, _, false, true, rfl, rfl, .inr h1, .inr h3, h2, h4, hl, h, by simp only [PyData.depth], kit_ty (a := "tuple") (by decide +kernel), kit_ty (a := "tuple") (by decide +kernel), rfl⟩))
theorem Sq_same {K : PySem.W.Frag} {H H' : Hp} {a : Addr} {xs : List V} (e : Same H H') (h : SqL K H a xs ∨ SqT K H a xs) : SqL K H' a xs ∨ SqT K H' a xs := h.elim (fun h => .inl (e.seq h)) fun h => .inr (SqT_same e h)
end Sr

namespace L2
open PySem PySem.Spec PyProof.Rows
/-! ### del xs[a:], by the model's own list.__delitem__ -/
section
variable {prog : Program} {w : World} {A : Around} {E : Value → Shared → Prop} {s : Shared}
theorem cut_zip {p : Nat → Bool} {a : Nat} : ∀ (l : List Value) (i : Nat), (∀ k, i ≤ k → k < i + l.length → p k = decide (a ≤ k)) → (l.zipIdx i).filterMap (fun (x, k) => if p k then none else some x) = l.take (a - i)
  | [], i, _ => by simp
  | x :: l, i, h => by
    rw [List.zipIdx_cons, List.filterMap_cons]
    have ih := cut_zip (p := p) (a := a) l (i + 1) fun k h1 h2 => h k (by omega) (by rw [List.length_cons]; omega)
    have h0 := h i (Nat.le_refl _) (by rw [List.length_cons]; omega)
    by_cases hai : a ≤ i
    · rw [decide_eq_true hai] at h0
      simp only [h0, if_true]
      rw [ih, show a - (i + 1) = 0 by omega, show a - i = 0 by omega]
      simp
    · rw [decide_eq_false hai] at h0
      simp only [h0, Bool.false_eq_true, if_false]
      rw [ih, show a - i = (a - (i + 1)) + 1 by omega, List.take_succ_cons]
theorem bounds_from {a n : Nat} (h : a ≤ n) : sliceBounds (some (a : Int)) none none n = ((a : Int), (n : Int), 1) := by
  simp only [sliceBounds, Option.getD_none]
  have h1 : ¬ ((a : Int) < 0) := by omega
  simp only [h1, if_false, show (1 : Int) > 0 by decide, if_true]
  congr 1
  omega
set_option maxRecDepth 100000 in
theorem delItem_from {l sl : Addr} {items : Array Value} {n : Nat} {vl : Value} {a : Nat} {Q : Unit → Shared → Prop}
    (e : s.heap.get? l = some { cls := .type "list", data := .seq items n }) (hs : s.heap.IsSliceOf sl vl .none .none) (pl : IsPart vl (some (a : Int))) (ha : a ≤ items.size)
    (hsz : items.size ≤ sizeLine) (h : ∀ f : Array Value → Array Value, f items = (items.toList.take a).toArray → Q () { s with heap := s.heap.update l (Obj.mapSeq f) }) :
    wpAny (model prog w) A (delItem (.ref l) (.ref sl)) Q E s := by
  have hl : s.heap.IsList l items := PySem.IsL.isList e
  obtain ⟨os, hos, hcs, hds⟩ := id hs
  have hTs : s.TypeIs (.ref sl) "slice" := ⟨os, hos, hcs⟩
  have hstep : ¬ ((rawPart none == rawInt 0) = true) := Bool.false_ne_true
  refine wpAny_delItem_slot hl.typeIs (by decide) F.slot_list_delitem (wpAny_call_entry F.slot_list_delitem hl.typeIs F.entry_list_delitem ?_ (F.args_list_delitem_2 _ _))
  show wpAny _ _ (Builtin.List.listSubscript? (.ref sl) >>= _) _ _ s
  refine wpAny_bind ?_
  unfold Builtin.List.listSubscript?
  refine wpAny_bind (wpAny_specialOf hTs slice_no_index ?_)
  simp only [Option.isNone_none, if_true]
  refine wpAny_pure ?_
  show wpAny _ _ (typeOf (.ref sl) >>= _) _ _ s
  refine wpAny_bind (wpAny_typeOf hTs ?_)
  rw [if_neg (by decide)]
  rw [listSliceParts_eq]
  refine wpAny_bind (wpAny_bind (wpAny_field hos hds (x := .none) rfl (wpAny_bind (wpAny_listPart .none ?_))))
  rw [if_neg hstep]
  refine wpAny_bind (wpAny_field hos hds (x := vl) rfl (wpAny_bind (wpAny_listPart pl ?_)))
  refine wpAny_bind (wpAny_field hos hds (x := .none) rfl (wpAny_bind (wpAny_listPart .none (wpAny_pure ?_))))
  unfold Builtin.List.listItems
  refine wpAny_bind (wpAny_bind (wpAny_seqItems e rfl (wpAny_pure ?_)))
  refine wpAny_bind (wpAny_of_eq ((sliceIndices_raw (some (a : Int)) none none items.size (by simp)).trans (congrArg (pure : Int × Int × Int → Sem (Int × Int × Int)) (bounds_from ha))) ?_)
  refine wpAny_bind (wpAny_rule ?_)
  have key : ∀ (p : Nat → Bool) (f : Array Value → Array Value), (∀ k, k < items.size → p k = decide (a ≤ k)) → (∀ xs, f xs = (xs.toList.zipIdx.filterMap fun (x, k) => if p k then none else some x).toArray) → f items = (items.toList.take a).toArray := fun p f hp hf => by
    rw [hf, cut_zip (a := a) items.toList 0 fun k _ h2 => hp k (by simpa using h2)]
    rfl
  have sz : ∀ f : Array Value → Array Value, f items = (items.toList.take a).toArray → (f items).size ≤ sizeLine + 1 := fun f hf => by
    rw [hf, List.size_toArray, List.length_take, Array.length_toList]
    omega
  have pk : ∀ k, k < items.size → (if (1 : Int) > 0 then decide ((a : Int) ≤ (k : Int)) && decide ((k : Int) < (items.size : Int)) && (((k : Int) - (a : Int)) % 1 == 0) else decide ((items.size : Int) < (k : Int)) && decide ((k : Int) ≤ (a : Int)) && (((a : Int) - (k : Int)) % (-1) == 0)) = decide (a ≤ k) := fun k hk => by
    rw [if_pos (by decide), Int.emod_one, decide_eq_true (show (k : Int) < (items.size : Int) by omega), Bool.and_true]
    simp
  have fk : (fun xs : Array Value => (xs.toList.zipIdx.filterMap fun (x, k) => if (if (1 : Int) > 0 then decide ((a : Int) ≤ (k : Int)) && decide ((k : Int) < (items.size : Int)) && (((k : Int) - (a : Int)) % 1 == 0) else decide ((items.size : Int) < (k : Int)) && decide ((k : Int) ≤ (a : Int)) && (((a : Int) - (k : Int)) % (-1) == 0)) then none else some x).toArray) items = (items.toList.take a).toArray := key (fun k : Nat => (if (1 : Int) > 0 then decide ((a : Int) ≤ (k : Int)) && decide ((k : Int) < (items.size : Int)) && (((k : Int) - (a : Int)) % 1 == 0) else decide ((items.size : Int) < (k : Int)) && decide ((k : Int) ≤ (a : Int)) && (((a : Int) - (k : Int)) % (-1) == 0))) _ pk (fun xs => rfl)
  generalize hf0 : (fun xs : Array Value => (xs.toList.zipIdx.filterMap fun (x, k) => if (if (1 : Int) > 0 then decide ((a : Int) ≤ (k : Int)) && decide ((k : Int) < (items.size : Int)) && (((k : Int) - (a : Int)) % 1 == 0) else decide ((items.size : Int) < (k : Int)) && decide ((k : Int) ≤ (a : Int)) && (((a : Int) - (k : Int)) % (-1) == 0)) then none else some x).toArray) = f0 at fk
  refine wpAny_bind (wpAny_updateSeq (hz := hsz) (_hz' := by have z := sz f0 fk; subst hf0; exact z) e rfl ?_)
  refine wpAny_bind (wpAny_letGo ?_)
  exact wpAny_pure ⟨.none, rfl, by have z := h f0 fk; subst hf0; exact z⟩
end
end L2
namespace L2
open PySem PySem.Spec PyProof.Rows
section
variable {X : Cx}
/-- del xs[a:] -/
def tDelFrom (to tl : TE) : TS := fun D σ H => to σ H fun x H1 => tl σ H1 fun y H2 => ∃ (l : Addr) (xs : List V) (a : Nat), x = .ref l ∧ y = .int (a : Nat) ∧ H2 l = some (.lst xs) ∧ a ≤ xs.length ∧ D.nx σ (upd H2 l (.lst (xs.take a)))
theorem ps_delFrom {o lo : Expr} {to tl : TE} {tpos p2 pos : Pos} (ho : PE X o to) (hl : PE X lo tl) : PS X (.Delete [.Subscript o (.Slice (some lo) none none p2) tpos] pos) (tDelFrom to tl) := by
  refine ⟨fun pins s σ H D I h => ?_⟩
  refine wpAny_Delete (wpAny_deleteEach_cons (wpAny_delete_Subscript (thn (ho.run pins s σ H _ I h) fun u s1 ⟨x, H1, I1, rx, q1⟩ => ?_)))
  refine wpAny_Slice ?_
  rw [evalPart_some, evalPart_none]
  refine thn (hl.run pins s1 σ H1 _ I1 q1) fun vl s2 ⟨y, H2, I2, ry, q2⟩ => ?_
  refine wpAny_pure ?_
  refine wpAny_pure ?_
  obtain ⟨l, xs, a, ex, ey, hH, ha, q⟩ := q2
  subst ex
  subst ey
  cases (show u = Value.ref l from rx)
  obtain ⟨t, rfl⟩ := (show ∃ t, vl = Value.int (a : Nat) t from ry)
  have I3 : Inv X pins σ H2 { s2 with heap := s2.heap.push { cls := .type "slice", data := .fields #[.int (a : Nat) t, .none, .none] } } := I2.kept (t' := s2.toks) fun b ob z => Heap.get?_push_of_some _ z
  obtain ⟨z, its, n, r, hlen, e⟩ := I3.lstM hH
  refine delItem_from (a := a) e (Heap.IsSliceOf.new ..) (.int _ _) (by rw [List.size_toArray]; omega) (by rw [List.size_toArray]; omega) fun f hf => ?_
  refine wpAny_deleteEach_nil ⟨σ, _, ?_, q⟩
  refine I3.lset (its' := its.take a) (t' := s2.toks) hH e ?_ (r.take a) ?_
  · rw [hf]
  · rw [List.length_take]
    omega
end
/-! ### enumerate(text) -/
def Ities (x : Str) : It :=
  ⟨fun i _ => i < x.cps.size, fun i H v H' => ∃ T c, v = .ref T ∧ H T = none ∧ x.cps[i]? = some c ∧ H' = upd H T (.tup [.int (i : Nat), .str ⟨#[c]⟩]), fun i _ => i = x.cps.size⟩
theorem turn_enumS {P : Program} {w : World} {K : PySem.W.Frag} {elts : List Expr} {kk : Nat} {tpos : Pos} (x : Str) (t : Tok) (e it : Addr) (ty : String) (hty : ty = "str_ascii_iterator" ∨ ty = "str_iterator") :
    Turn P w K (.Tuple elts kk tpos) (Ities x) [e, it] e (fun i h => (∃ old, IsEnum h e it ((i : Nat) : Int) old) ∧ h.IsStrIter it ty x t i ∧ e ≠ it) where
  mem := by simp
  obj := fun i h st b hb => by
    obtain ⟨⟨old, he⟩, ⟨o, ho, hc, hd⟩, _⟩ := st
    have e' : b = e ∨ b = it := by simpa using hb
    rcases e' with z | z
    · rw [z]; exact ⟨_, he, fun v q => nomatch q⟩
    · rw [z]; exact ⟨o, ho, fun v q => by rw [hd] at q; cases q⟩
  keep := fun i h h' st k => let ⟨⟨old, he⟩, ⟨o, ho, r⟩, hne⟩ := st; ⟨⟨old, k e (by simp) _ he⟩, ⟨o, k it (by simp) o ho, r⟩, hne⟩
  item := by
    intro X hP hw hK hc i pins s σ H E I hf st hg
    subst hP hw hK
    obtain ⟨⟨old, he⟩, hit, hne⟩ := st
    have hel : e < s.heap.objs.size := Heap.lt_size he
    have hil : it < s.heap.objs.size := by obtain ⟨_, q, _⟩ := hit; exact Heap.lt_size q
    have W : Draws X.prog X.w X.A.in1 it [it] x.cps.size (fun i v => ∃ c u, x.cps[i]? = some c ∧ v = .str ⟨#[c]⟩ u) (fun i h => h.IsStrIter it ty x t i) := by
      rcases hty with q | q
      · rw [q]; exact Draws.strAscii (A := X.A.in1) (show X.A.in1.handled = none from I.ok.hd hc) it x t
      · rw [q]; exact Draws.strWide (A := X.A.in1) (show X.A.in1.handled = none from I.ok.hd hc) it x t
    refine wpAny_pyNext_enum_itemD W he hit hg hne (by simpa using hne) fun v h' tk hv ho hit' hT hsz hk => ?_
    obtain ⟨c, u, hcx, rfl⟩ := hv
    refine ⟨_, rfl, wpAny_letOwnedTupleGo_enum (s := { s with heap := h', toks := tk + 1 }) ho fun h'' he' sb => ?_⟩
    have hT2 : h''.get? s.heap.objs.size = some { cls := .type "tuple", data := .seq #[.int i tk, .str ⟨#[c]⟩ u] } := (sb.2 _ (Nat.ne_of_gt hel)).trans hT
    have new : ObjOk X.prog X.w (upd H s.heap.objs.size (.tup [.int (i : Nat), .str ⟨#[c]⟩])) h'' s.heap.objs.size (.tup [.int (i : Nat), .str ⟨#[c]⟩]) :=
      ⟨by show 2 ≤ sizeLine; decide, [.int i tk, .str ⟨#[c]⟩ u], .cons ⟨_, rfl⟩ (.cons ⟨_, rfl⟩ .nil), ⟨_, hT2, rfl, _, rfl⟩⟩
    have I1 : Inv X pins σ (upd H s.heap.objs.size (.tup [.int (i : Nat), .str ⟨#[c]⟩])) { s with heap := h'', toks := tk + 1 } :=
      I.turnedNew (ch := [e, it]) (fun b ob hb q => (sb.2 b (fun z => hb (by simp [z]))).trans (hk b ob (fun z => hb (by simp [z])) (fun z => hb (by simp [z])) q)) hf (Nat.le_refl _) new
    refine ⟨.ref s.heap.objs.size, _, I1, rfl, ⟨_, c, rfl, I.hok.fresh (Nat.le_refl _), hcx, rfl⟩, ⟨⟨.str ⟨#[c]⟩ u, ?_⟩, ?_, hne⟩, fun b hb => ?_⟩
    · have e1 : ((i + 1 : Nat) : Int) = (i : Int) + 1 := by omega
      rw [e1]; exact he'
    · obtain ⟨o, ho2, r⟩ := hit'
      exact ⟨o, (sb.2 it (Ne.symm hne)).trans ho2, r⟩
    · have hb' : b < s.heap.objs.size := by
        have e' : b = e ∨ b = it := by simpa using hb
        rcases e' with z | z
        · rw [z]; exact hel
        · rw [z]; exact hil
      rw [upd_ne (Nat.ne_of_lt hb')]
      exact (hf b hb).1
  done := by
    intro X hP hw hK hc i pins s σ H E I hf st hg
    subst hP hw hK
    obtain ⟨⟨old, he⟩, hit, hne⟩ := st
    have hg' : i = x.cps.size := hg
    subst hg'
    have W : Draws X.prog X.w X.A.in1 it [it] x.cps.size (fun i v => ∃ c u, x.cps[i]? = some c ∧ v = .str ⟨#[c]⟩ u) (fun i h => h.IsStrIter it ty x t i) := by
      rcases hty with q | q
      · rw [q]; exact Draws.strAscii (A := X.A.in1) (show X.A.in1.handled = none from I.ok.hd hc) it x t
      · rw [q]; exact Draws.strWide (A := X.A.in1) (show X.A.in1.handled = none from I.ok.hd hc) it x t
    obtain ⟨f0, f1, f2, f3, f4, f5⟩ := hf it (by simp)
    exact wpAny_pyNext_enum_endD W he hit fun h' eb => ⟨rfl, I.turned (t' := s.toks) (fun b o hb q => eb b o hb q) f0 f1 f3 f4 f5⟩
  self := fun A i s Q E st h => let ⟨⟨_, he⟩, _⟩ := st; wpAny_pyIter_enum he h
def iEnumS (ta : TA) : TI := fun σ H R => ta σ H fun vs H1 => ∃ x, vs = [.str x] ∧ R (Ities x) H1
theorem pi_enumS {X : Cx} {e : Expr} {ta : TA} {p pos tpos : Pos} {elts : List Expr} {kk : Nat} (hg : Gl X "enumerate") (hm : X.mg "enumerate" = none) (ha : PA X [e] ta) (hs : starEach [e] X.env = [(false, eval e X.env)] := by rfl) :
    PI X (.Tuple elts kk tpos) (.Call (.Name "enumerate" p) [e] [] pos) (iEnumS ta) := by
  refine ⟨fun pins s σ H R I h => ?_⟩
  refine Call_ (ld_blt I hg hm boot_enumerate (PyProof.Rows.callWith_type1 (thn (ha.run pos pins s σ H _ I h) fun us s1 ⟨vs, H1, I1, r1, q1⟩ => ?_) hs rfl))
  obtain ⟨x, ex, q⟩ := q1
  subst ex
  cases r1 with
  | cons r rr =>
    cases rr
    obtain ⟨t, rfl⟩ := r
    refine call_enumerate_str fun h' he hit hsz hk => wpAny_pyIter_enum he ?_
    have I2 : Inv X pins σ H1 { s1 with heap := h' } := I1.kept (t' := s1.toks) hk
    have hty : strIterType x = "str_ascii_iterator" ∨ strIterType x = "str_iterator" := by
      unfold strIterType
      split
      · exact .inl rfl
      · exact .inr rfl
    refine ⟨s1.heap.objs.size + 1, [s1.heap.objs.size + 1, s1.heap.objs.size], _, _, H1, rfl, I2, turn_enumS x t (s1.heap.objs.size + 1) s1.heap.objs.size _ hty, ⟨⟨.none, he⟩, hit, Nat.succ_ne_self _⟩, fun b hb => ?_, q⟩
    have e' : b = s1.heap.objs.size + 1 ∨ b = s1.heap.objs.size := by simpa using hb
    have hle : s1.heap.objs.size ≤ b := by
      rcases e' with z | z
      · rw [z]; exact Nat.le_add_right _ _
      · rw [z]; exact Nat.le_refl _
    exact I1.fpOk hle (I1.hok.fresh hle)
theorem walk_enumS {x : Str} : Walk (Ities x) x.cps.size (fun _ => True) (fun i H v H' => ∃ T c, v = .ref T ∧ H T = none ∧ x.cps[i]? = some c ∧ H' = upd H T (.tup [.int (i : Nat), .str ⟨#[c]⟩])) :=
  ⟨fun _ _ hi _ => hi, fun _ _ => rfl, fun _ _ _ _ _ _ y => y⟩
end L2
namespace L2
open PySem PySem.Spec PyProof.Rows
theorem x_del {to tl : TE} {D : Ends} {σ : St} {H : Hp} (q : to σ H fun x H1 => tl σ H1 fun y H2 => ∃ (l : Addr) (xs : List V) (a : Nat), x = .ref l ∧ y = .int (a : Nat) ∧ H2 l = some (.lst xs) ∧ a ≤ xs.length ∧ D.nx σ (upd H2 l (.lst (xs.take a)))) : tDelFrom to tl D σ H := q
theorem x_iEnumS {t : TA} {σ : St} {H : Hp} {R : It → Hp → Prop} (q : t σ H fun vs H1 => ∃ x, vs = [.str x] ∧ R (Ities x) H1) : iEnumS t σ H R := q
theorem x_delFrom {p : Addr} {xs : List V} {i : Int} {k : Nat} {H : Hp} {R : Addr → List V → Nat → Prop} (h : H p = some (.lst xs)) (e : i = (k : Int)) (hk : k ≤ xs.length) (q : R p xs k) :
    ∃ (l : Addr) (xs : List V) (a : Nat), V.ref p = .ref l ∧ V.int i = .int (a : Nat) ∧ H l = some (.lst xs) ∧ a ≤ xs.length ∧ R l xs a := ⟨p, xs, k, rfl, by rw [e], h, hk, q⟩
end L2
namespace L2
open PySem PySem.Spec PyProof.Rows
/-! ### a test of three comparisons in a row -/
section
variable {X : Cx} {a b c d : Expr} {ta tb tc td : TE} {pos : Pos}
def tChain3 (r r' r'' : R2) (ta tb tc td : TE) : TT := fun σ H R => ta σ H fun x H1 => tb σ H1 fun y H2 => r x y H2 fun z H3 => ∃ k, z = .bl k ∧
  (if k = true then tc σ H3 fun w' H4 => r' y w' H4 fun z2 H5 => ∃ k2, z2 = .bl k2 ∧ (if k2 = true then td σ H5 fun v' H6 => r'' w' v' H6 fun z3 H7 => ∃ k3, z3 = .bl k3 ∧ R k3 H7 else R false H5) else R false H3)
theorem pt_chain3 {op op' op'' : CmpOp} {r r' r'' : R2} (ho : OpR X (compareOp op) r) (ho' : OpR X (compareOp op') r') (ho'' : OpR X (compareOp op'') r'') (ha : PE X a ta) (hb : PE X b tb) (hc : PE X c tc) (hd : PE X d td)
    (hm : lastMarks [op, op', op''] [b, c, d] = false := by with_unfolding_all rfl) : PT X (.Compare a [op, op', op''] [b, c, d] pos) (tChain3 r r' r'' ta tb tc td) := by
  refine ⟨fun pins s σ H Q I h => ?_⟩
  refine isTrue_chain (thn (ha.run pins s σ H _ I h) fun v s1 ⟨x, H1, I1, r1, q1⟩ => test_link (thn (hb.run pins s1 σ H1 _ I1 q1) fun u s2 ⟨y, H2, I2, r2, q2⟩ =>
    thn (ho pins s2 σ H2 x y v u _ I2 r1 r2 q2) fun d s3 ⟨z, H3, I3, r3, k, e, q3⟩ => ?_)) hm
  subst e
  cases r3
  refine wpAny_truthy_bool ?_
  cases k with
  | false => exact ite_ff ⟨H3, I3, q3⟩
  | true =>
    refine ite_tt (test_link (thn (hc.run pins s3 σ H3 _ I3 q3) fun w' s4 ⟨z', H4, I4, r4, q4⟩ => thn (ho' pins s4 σ H4 y z' u w' _ I4 r2 r4 q4) fun d' s5 ⟨z2, H5, I5, r5, k2, e2, q5⟩ => ?_))
    subst e2
    cases r5
    refine wpAny_truthy_bool ?_
    cases k2 with
    | false => exact ite_ff ⟨H5, I5, q5⟩
    | true =>
      refine ite_tt (test_last (thn (hd.run pins s5 σ H5 _ I5 q5) fun v' s6 ⟨z4, H6, I6, r6, q6⟩ => thn (ho'' pins s6 σ H6 z' z4 w' v' _ I6 r4 r6 q6) fun d2 s7 ⟨z5, H7, I7, r7, k3, e3, q7⟩ => ?_))
      subst e3
      cases r7
      exact wpAny_truthy_bool ⟨H7, I7, q7⟩
theorem x_chain3 {r r' r'' : R2} {σ : St} {H : Hp} {R : Bool → Hp → Prop} (q : ta σ H fun x H1 => tb σ H1 fun y H2 => r x y H2 fun z H3 => ∃ k, z = .bl k ∧
  (if k = true then tc σ H3 fun w' H4 => r' y w' H4 fun z2 H5 => ∃ k2, z2 = .bl k2 ∧ (if k2 = true then td σ H5 fun v' H6 => r'' w' v' H6 fun z3 H7 => ∃ k3, z3 = .bl k3 ∧ R k3 H7 else R false H5) else R false H3)) : tChain3 r r' r'' ta tb tc td σ H R := q
end
end L2

namespace Sr
/-! ### stretches by levels -/
/-- (b, e) stands by itself: the level at b is lower, at e higher, than every other one between -/
def St (s : Nat → Int) (b e : Nat) : Prop := b < e ∧ (∀ j, b < j → j ≤ e → s b < s j) ∧ (∀ j, b ≤ j → j < e → s j < s e)
def Ripe (s : Nat → Int) (n b e : Nat) : Prop := St s b e ∧ e ≤ n ∧ ∀ b' e', St s b' e' → e' ≤ n → b' ≤ b → e ≤ e' → b' = b ∧ e' = e
def Apt (p q : Nat × Nat) : Prop := p.2 ≤ q.1
structure RL (s : Nat → Int) (n : Nat) (L : List (Nat × Nat)) : Prop where
  ripe : ∀ p ∈ L, Ripe s n p.1 p.2
  all : ∀ b e, Ripe s n b e → (b, e) ∈ L
  apt : L.Pairwise Apt
section
variable {s : Nat → Int}
theorem argmax_first (s : Nat → Int) (b : Nat) : ∀ k : Nat, ∃ m, b ≤ m ∧ m ≤ b + k ∧ (∀ j, b ≤ j → j < m → s j < s m) ∧ ∀ j, b ≤ j → j ≤ b + k → s j ≤ s m
  | 0 => ⟨b, Nat.le_refl _, Nat.le_refl _, fun j h1 h2 => by omega, fun j h1 h2 => by
    have : j = b := by omega
    subst this
    exact Int.le_refl _⟩
  | k + 1 => by
    obtain ⟨m, h1, h2, h3, h4⟩ := argmax_first s b k
    by_cases h : s m < s (b + (k + 1))
    · refine ⟨b + (k + 1), by omega, Nat.le_refl _, fun j j1 j2 => ?_, fun j j1 j2 => ?_⟩
      · have := h4 j j1 (by omega)
        omega
      · by_cases hj : j = b + (k + 1)
        · subst hj
          exact Int.le_refl _
        · have := h4 j j1 (by omega)
          omega
    · refine ⟨m, h1, by omega, h3, fun j j1 j2 => ?_⟩
      by_cases hj : j = b + (k + 1)
      · subst hj
        omega
      · exact h4 j j1 (by omega)
theorem argmin_last (s : Nat → Int) (b : Nat) : ∀ k : Nat, ∃ m, b ≤ m ∧ m ≤ b + k ∧ (∀ j, m < j → j ≤ b + k → s m < s j) ∧ ∀ j, b ≤ j → j ≤ b + k → s m ≤ s j
  | 0 => ⟨b, Nat.le_refl _, Nat.le_refl _, fun j h1 h2 => by omega, fun j h1 h2 => by
    have : j = b := by omega
    subst this
    exact Int.le_refl _⟩
  | k + 1 => by
    obtain ⟨m, h1, h2, h3, h4⟩ := argmin_last s b k
    by_cases h : s (b + (k + 1)) ≤ s m
    · refine ⟨b + (k + 1), by omega, Nat.le_refl _, fun j j1 j2 => by omega, fun j j1 j2 => ?_⟩
      by_cases hj : j = b + (k + 1)
      · subst hj
        exact Int.le_refl _
      · have := h4 j j1 (by omega)
        omega
    · refine ⟨m, h1, by omega, fun j j1 j2 => ?_, fun j j1 j2 => ?_⟩
      · by_cases hj : j = b + (k + 1)
        · subst hj
          omega
        · exact h3 j j1 (by omega)
      · by_cases hj : j = b + (k + 1)
        · subst hj
          omega
        · exact h4 j j1 (by omega)
theorem ripe_of {n : Nat} : ∀ (k b e : Nat), n - (e - b) ≤ k → St s b e → e ≤ n → ∃ b' e', Ripe s n b' e' ∧ b' ≤ b ∧ e ≤ e' := by
  intro k
  induction k with
  | zero =>
    intro b e hk h he
    refine ⟨b, e, ⟨h, he, fun b' e' h' he' h1 h2 => ?_⟩, Nat.le_refl _, Nat.le_refl _⟩
    have := h.1
    have := h'.1
    omega
  | succ k ih =>
    intro b e hk h he
    by_cases hr : Ripe s n b e
    · exact ⟨b, e, hr, Nat.le_refl _, Nat.le_refl _⟩
    · have : ∃ b' e', St s b' e' ∧ e' ≤ n ∧ b' ≤ b ∧ e ≤ e' ∧ ¬ (b' = b ∧ e' = e) := by
        apply Classical.byContradiction
        intro hc
        exact hr ⟨h, he, fun b' e' h1 h2 h3 h4 => Classical.byContradiction fun hn => hc ⟨b', e', h1, h2, h3, h4, hn⟩⟩
      obtain ⟨b', e', h1, h2, h3, h4, h5⟩ := this
      have := h.1
      obtain ⟨b2, e2, r, h6, h7⟩ := ih b' e' (by omega) h1 h2
      exact ⟨b2, e2, r, by omega, by omega⟩
theorem ripe_over {n b e : Nat} (h : St s b e) (he : e ≤ n) : ∃ b' e', Ripe s n b' e' ∧ b' ≤ b ∧ e ≤ e' := ripe_of _ b e (Nat.le_refl _) h he
theorem St.join {b1 e1 b2 e2 : Nat} (h1 : St s b1 e1) (h2 : St s b2 e2) (hb : b1 ≤ b2) (hm : b2 < e1) (he : e1 ≤ e2) : St s b1 e2 := by
  have l12 : s b1 ≤ s b2 := by
    by_cases h : b1 = b2
    · subst h
      exact Int.le_refl _
    · have := h1.2.1 b2 (by omega) (by omega)
      omega
  have g12 : s e1 ≤ s e2 := by
    by_cases h : e1 = e2
    · subst h
      exact Int.le_refl _
    · have := h2.2.2 e1 (by omega) (by omega)
      omega
  refine ⟨by have := h2.1; omega, fun j j1 j2 => ?_, fun j j1 j2 => ?_⟩
  · by_cases h : j ≤ e1
    · exact h1.2.1 j j1 h
    · have := h2.2.1 j (by omega) j2
      omega
  · by_cases h : b2 ≤ j
    · exact h2.2.2 j h j2
    · have := h1.2.2 j j1 (by omega)
      omega
theorem ripe_apart {n b1 e1 b2 e2 : Nat} (h1 : Ripe s n b1 e1) (h2 : Ripe s n b2 e2) (hb : b1 ≤ b2) : (b1 = b2 ∧ e1 = e2) ∨ e1 ≤ b2 := by
  by_cases hm : e1 ≤ b2
  · exact .inr hm
  · left
    by_cases he : e1 ≤ e2
    · have j := h1.1.join h2.1 hb (by omega) he
      have k1 := h1.2.2 b1 e2 j h2.2.1 (Nat.le_refl _) he
      have k2 := h2.2.2 b1 e2 j h2.2.1 hb (Nat.le_refl _)
      exact ⟨k2.1, k1.2.symm⟩
    · have k2 := h2.2.2 b1 e1 h1.1 h1.2.1 hb (by omega)
      exact k2
/-- a beginning b of a stretch that ends behind the like pair at i; R: what is ripe ahead of b -/
structure Cand (s : Nat → Int) (i b : Nat) (R : List (Nat × Nat)) : Prop where
  st : St s b (i + 1)
  ripe : ∀ p ∈ R, Ripe s i p.1 p.2 ∧ p.2 ≤ b
  all : ∀ b' e', Ripe s i b' e' → e' ≤ b → (b', e') ∈ R
  cut : ∀ b' e', Ripe s i b' e' → e' ≤ b ∨ b ≤ b'
  apt : R.Pairwise Apt
theorem Cand.start {i : Nat} {L : List (Nat × Nat)} (h : RL s i L) (hi : s i < s (i + 1)) : Cand s i i L where
  st := ⟨by omega, fun j j1 j2 => by
    have : j = i + 1 := by omega
    subst this
    exact hi, fun j j1 j2 => by
    have : j = i := by omega
    subst this
    exact hi⟩
  ripe := fun p hp => ⟨h.ripe p hp, (h.ripe p hp).2.1⟩
  all := fun b' e' r _ => h.all b' e' r
  cut := fun b' e' r => .inl r.2.1
  apt := h.apt
theorem Cand.le {i b : Nat} {R : List (Nat × Nat)} (h : Cand s i b R) : b ≤ i := by
  have := h.st.1
  omega
theorem mem_split {R1 R2 : List (Nat × Nat)} {q p : Nat × Nat} (h : p ∈ R1 ++ q :: R2) : p ∈ R1 ∨ p = q ∨ p ∈ R2 := by
  rcases List.mem_append.mp h with h | h
  · exact .inl h
  · rcases List.mem_cons.mp h with h | h
    · exact .inr (.inl h)
    · exact .inr (.inr h)
theorem apt_split {R1 R2 : List (Nat × Nat)} {q : Nat × Nat} (h : (R1 ++ q :: R2).Pairwise Apt) : R1.Pairwise Apt ∧ (∀ p ∈ R1, Apt p q) ∧ (∀ p ∈ R2, Apt q p) := by
  rw [List.pairwise_append] at h
  obtain ⟨h1, h2, h3⟩ := h
  refine ⟨h1, fun p hp => h3 p hp q (List.mem_cons_self ..), fun p hp => ?_⟩
  rw [List.pairwise_cons] at h2
  exact h2.1 p hp
/-- no beginning further left -/
theorem Cand.leftmost {i b : Nat} {R : List (Nat × Nat)} (h : Cand s i b R)
    (hc : (∀ p ∈ R, s b ≤ s p.1) ∨ ∃ R1 R2 bk ek, R = R1 ++ (bk, ek) :: R2 ∧ (∀ p ∈ R2, s b ≤ s p.1) ∧ s (i + 1) ≤ s ek) : ∀ b', b' < b → ¬ St s b' (i + 1) := by
  intro b' hb hs
  have hbi := h.le
  have l1 : s b' < s b := hs.2.1 b hb (by omega)
  obtain ⟨m, m1, m2, m3, m4⟩ := argmax_first s b' (b - b')
  have hm : b' ≠ m := fun e => by
    have := m4 b (by omega) (by omega)
    rw [← e] at this
    omega
  have st2 : St s b' m := ⟨by omega, fun j j1 j2 => hs.2.1 j j1 (by omega), fun j j1 j2 => m3 j j1 j2⟩
  obtain ⟨bj, ej, r, r1, r2⟩ := ripe_over (n := i) st2 (by omega)
  have hej : ej ≤ b := by
    rcases h.cut bj ej r with z | z
    · exact z
    · omega
  have hmem := h.all bj ej r hej
  have l2 : s bj ≤ s b' := by
    by_cases hz : bj = b'
    · subst hz
      exact Int.le_refl _
    · have := r.1.2.1 b' (by omega) (by omega)
      omega
  rcases hc with hc | ⟨R1, R2, bk, ek, rfl, hc1, hc2⟩
  · have := hc _ hmem
    show False
    simp only at this
    omega
  · obtain ⟨a1, a2, a3⟩ := apt_split h.apt
    have rk : Ripe s i bk ek ∧ ek ≤ b := h.ripe (bk, ek) (by simp)
    have hk1 : bk < ek := rk.1.1.1
    have hk2 : ek ≤ b := rk.2
    rcases mem_split hmem with z | z | z
    · have : ej ≤ bk := a2 _ z
      have := hs.2.2 ek (by omega) (by omega)
      omega
    · have e1 : bj = bk := congrArg Prod.fst z
      have e2 : ej = ek := congrArg Prod.snd z
      have := hs.2.2 ek (by omega) (by omega)
      omega
    · have := hc1 _ z
      simp only at this
      omega
theorem Cand.step {i b bk ek : Nat} {R1 R2 : List (Nat × Nat)} (h : Cand s i b (R1 ++ (bk, ek) :: R2)) (h2 : ∀ p ∈ R2, s b ≤ s p.1) (hl : s bk < s b) (hh : s ek < s (i + 1)) : Cand s i bk R1 := by
  have hbi := h.le
  obtain ⟨a1, a2, a3⟩ := apt_split h.apt
  have rk : Ripe s i bk ek ∧ ek ≤ b := h.ripe (bk, ek) (by simp)
  have hk1 : bk < ek := rk.1.1.1
  have hk2 : ek ≤ b := rk.2
  have gapL : ∀ j, bk < j → j ≤ b → s bk < s j := by
    intro j j1 j2
    by_cases hj : j ≤ ek
    · exact rk.1.1.2.1 j j1 hj
    · apply Classical.byContradiction
      intro hn
      obtain ⟨m, m1, m2, m3, m4⟩ := argmin_last s j (b - j)
      have lm : s m ≤ s bk := by
        have := m4 j (Nat.le_refl _) (by omega)
        omega
      have hmb : m ≠ b := fun e => by
        rw [e] at lm
        omega
      obtain ⟨e2, e21, e22, e23, e24⟩ := argmax_first s m (b - m)
      have hne : m ≠ e2 := fun e => by
        have := e24 b (by omega) (by omega)
        rw [← e] at this
        omega
      have st2 : St s m e2 := ⟨by omega, fun x x1 x2 => m3 x x1 (by omega), fun x x1 x2 => e23 x x1 x2⟩
      obtain ⟨bj, ej, r, r1, r2⟩ := ripe_over (n := i) st2 (by omega)
      have hej : ej ≤ b := by
        rcases h.cut bj ej r with z | z
        · exact z
        · omega
      have l2 : s bj ≤ s m := by
        by_cases hz : bj = m
        · subst hz
          exact Int.le_refl _
        · have := r.1.2.1 m (by omega) (by omega)
          omega
      rcases mem_split (h.all bj ej r hej) with z | z | z
      · have : ej ≤ bk := a2 _ z
        omega
      · have e3 : ej = ek := congrArg Prod.snd z
        omega
      · have := h2 _ z
        simp only at this
        omega
  have gapH : ∀ j, bk ≤ j → j ≤ b → s j < s (i + 1) := by
    intro j j1 j2
    by_cases hj : j ≤ ek
    · by_cases hz : j = ek
      · rw [hz]
        exact hh
      · have := rk.1.1.2.2 j j1 (by omega)
        omega
    · apply Classical.byContradiction
      intro hn
      obtain ⟨m, m1, m2, m3, m4⟩ := argmax_first s bk (j - bk)
      have hm : s (i + 1) ≤ s m := by
        have := m4 j (by omega) (by omega)
        omega
      have hek : s ek < s m := by omega
      have hme : ek < m := by
        apply Classical.byContradiction
        intro hz
        by_cases hz2 : m = ek
        · rw [hz2] at hek
          omega
        · have := rk.1.1.2.2 m m1 (by omega)
          omega
      have st2 : St s bk m := ⟨by omega, fun x x1 x2 => gapL x x1 (by omega), fun x x1 x2 => m3 x x1 x2⟩
      have := rk.1.2.2 bk m st2 (by omega) (Nat.le_refl _) (Nat.le_of_lt hme)
      simp only at this
      omega
  refine ⟨⟨by omega, fun j j1 j2 => ?_, fun j j1 j2 => ?_⟩, fun p hp => ⟨(h.ripe p (by simp [hp])).1, a2 p hp⟩, fun b' e' r he => ?_, fun b' e' r => ?_, a1⟩
  · by_cases hj : j ≤ b
    · exact gapL j j1 hj
    · have := h.st.2.1 j (by omega) j2
      omega
  · by_cases hj : j ≤ b
    · exact gapH j j1 hj
    · exact h.st.2.2 j (by omega) j2
  · rcases mem_split (h.all b' e' r (by omega)) with z | z | z
    · exact z
    · have e3 : e' = ek := congrArg Prod.snd z
      omega
    · have : ek ≤ b' := a3 _ z
      have := r.1.1
      omega
  · by_cases hz : b' ≤ bk
    · rcases ripe_apart r rk.1 hz with ⟨z, _⟩ | z
      · exact .inr (by omega)
      · exact .inl z
    · exact .inr (by omega)
theorem Cand.done {i b : Nat} {R : List (Nat × Nat)} (h : Cand s i b R) (hl : ∀ b', b' < b → ¬ St s b' (i + 1)) : RL s (i + 1) (R ++ [(b, i + 1)]) := by
  have hbi := h.le
  have rb : Ripe s (i + 1) b (i + 1) := ⟨h.st, Nat.le_refl _, fun b' e' st he hb hi => by
    have e2 : e' = i + 1 := by omega
    subst e2
    refine ⟨?_, rfl⟩
    by_cases hz : b' < b
    · exact absurd st (hl b' hz)
    · omega⟩
  refine ⟨fun p hp => ?_, fun b' e' r => ?_, ?_⟩
  · rcases List.mem_append.mp hp with z | z
    · obtain ⟨r, hr⟩ := h.ripe p z
      refine ⟨r.1, by have := r.2.1; omega, fun b' e' st he hb hi => ?_⟩
      by_cases hz : e' ≤ i
      · exact r.2.2 b' e' st hz hb hi
      · have e2 : e' = i + 1 := by omega
        subst e2
        have := r.1.1
        exact absurd st (hl b' (by omega))
    · rw [List.mem_singleton.mp z]
      exact rb
  · by_cases hz : e' ≤ i
    · have r' : Ripe s i b' e' := ⟨r.1, hz, fun b2 e2 st he hb hi => r.2.2 b2 e2 st (by omega) hb hi⟩
      rcases h.cut b' e' r' with z | z
      · exact List.mem_append.mpr (.inl (h.all b' e' r' z))
      · have := r.2.2 b (i + 1) h.st (Nat.le_refl _) z (by omega)
        omega
    · have e2 : e' = i + 1 := by
        have := r.2.1
        omega
      subst e2
      by_cases hlt : b' < b
      · exact absurd r.1 (hl b' hlt)
      · have := r.2.2 b (i + 1) h.st (Nat.le_refl _) (by omega) (Nat.le_refl _)
        rw [← this.1]
        simp
  · rw [List.pairwise_append]
    refine ⟨h.apt, by simp, fun p hp q hq => ?_⟩
    rw [List.mem_singleton.mp hq]
    exact (h.ripe p hp).2
theorem RL.unlike {i : Nat} {L : List (Nat × Nat)} (h : RL s i L) (hi : s (i + 1) < s i) : RL s (i + 1) L := by
  have no : ∀ b e, St s b e → e ≤ i + 1 → e ≤ i := fun b e st he => by
    apply Classical.byContradiction
    intro hn
    have e2 : e = i + 1 := by omega
    subst e2
    have := st.2.2 i (by have := st.1; omega) (by omega)
    omega
  refine ⟨fun p hp => ?_, fun b e r => ?_, h.apt⟩
  · have r := h.ripe p hp
    exact ⟨r.1, by have := r.2.1; omega, fun b' e' st he hb hi => r.2.2 b' e' st (no _ _ st he) hb hi⟩
  · exact h.all b e ⟨r.1, no _ _ r.1 r.2.1, fun b' e' st he hb hi => r.2.2 b' e' st (by omega) hb hi⟩
theorem RL.zero (s : Nat → Int) : RL s 0 [] := ⟨(fun p hp => nomatch hp), (fun b e r => by
  have := r.1.1
  have := r.2.1
  omega), .nil⟩
theorem same_sorted : ∀ {L M : List (Nat × Nat)}, L.Pairwise (fun p q => p.1 < q.1) → M.Pairwise (fun p q => p.1 < q.1) → (∀ p, p ∈ L ↔ p ∈ M) → L = M
  | [], [], _, _, _ => rfl
  | [], q :: M, _, _, h => by
    have := (h q).mpr (List.mem_cons_self ..)
    cases this
  | p :: L, [], _, _, h => by
    have := (h p).mp (List.mem_cons_self ..)
    cases this
  | p :: L, q :: M, h1, h2, h => by
    rw [List.pairwise_cons] at h1 h2
    have e : p = q := by
      rcases List.mem_cons.mp ((h p).mp (List.mem_cons_self ..)) with z | z
      · exact z
      · rcases List.mem_cons.mp ((h q).mpr (List.mem_cons_self ..)) with z2 | z2
        · exact z2.symm
        · have := h2.1 p z
          have := h1.1 q z2
          omega
    subst e
    rw [same_sorted h1.2 h2.2 fun x => ⟨fun hx => ?_, fun hx => ?_⟩]
    · rcases List.mem_cons.mp ((h x).mp (List.mem_cons_of_mem _ hx)) with z | z
      · have := h1.1 x hx
        rw [z] at this
        omega
      · exact z
    · rcases List.mem_cons.mp ((h x).mpr (List.mem_cons_of_mem _ hx)) with z | z
      · have := h2.1 x hx
        rw [z] at this
        omega
      · exact z
theorem RL.lt {n : Nat} {L : List (Nat × Nat)} (h : RL s n L) : L.Pairwise (fun p q => p.1 < q.1) := by
  refine List.Pairwise.imp_of_mem ?_ h.apt
  intro p q hp hq hpq
  have := (h.ripe p hp).1.1
  have : p.2 ≤ q.1 := hpq
  omega
theorem RL.unique {n : Nat} {L M : List (Nat × Nat)} (h1 : RL s n L) (h2 : RL s n M) : L = M :=
  same_sorted h1.lt h2.lt fun p => ⟨fun hp => h2.all _ _ (h1.ripe p hp), fun hp => h1.all _ _ (h2.ripe p hp)⟩
/-- it is enough that two of these that differ begin at unlike places, ascending -/
theorem RL.of_lt {n : Nat} {L : List (Nat × Nat)} (h1 : ∀ p ∈ L, Ripe s n p.1 p.2) (h2 : ∀ b e, Ripe s n b e → (b, e) ∈ L) (h3 : L.Pairwise (fun p q => p.1 ≤ q.1 ∧ p ≠ q)) : RL s n L := by
  refine ⟨h1, h2, ?_⟩
  refine List.Pairwise.imp_of_mem ?_ h3
  intro p q hp hq hpq
  rcases ripe_apart (h1 p hp) (h1 q hq) hpq.1 with ⟨z1, z2⟩ | z
  · exact absurd (Prod.ext z1 z2) hpq.2
  · exact z
/-- what the document says of a stretch that stands by itself -/
theorem St_iff {b e : Nat} (hb : b < e) : St s b e ↔ 0 < s e - s b ∧ ∀ b' e', b ≤ b' → b' < e' → e' ≤ e → (b', e') ≠ (b, e) → s e' - s b' < s e - s b := by
  constructor
  · intro h
    refine ⟨by have := h.2.1 e hb (Nat.le_refl _); omega, fun b' e' h1 h2 h3 h4 => ?_⟩
    have k1 : s b ≤ s b' := by
      by_cases hz : b = b'
      · subst hz
        exact Int.le_refl _
      · have := h.2.1 b' (by omega) (by omega)
        omega
    have k2 : s e' ≤ s e := by
      by_cases hz : e' = e
      · subst hz
        exact Int.le_refl _
      · have := h.2.2 e' (by omega) (by omega)
        omega
    by_cases hz : b = b'
    · have : e' ≠ e := fun q => h4 (by rw [hz, q])
      have := h.2.2 e' (by omega) (by omega)
      omega
    · have := h.2.1 b' (by omega) (by omega)
      omega
  · rintro ⟨h1, h2⟩
    refine ⟨hb, fun j j1 j2 => ?_, fun j j1 j2 => ?_⟩
    · by_cases hz : j = e
      · subst hz
        omega
      · have := h2 j e (by omega) (by omega) (Nat.le_refl _) (fun q => by have := congrArg Prod.fst q; simp only at this; omega)
        omega
    · by_cases hz : j = b
      · subst hz
        omega
      · have := h2 b j (Nat.le_refl _) (by omega) (by omega) (fun q => by have := congrArg Prod.snd q; simp only at this; omega)
        omega
end
end Sr
namespace Sr
open PySem PySem.Spec PyProof.Rows L2
/-! ### levels of likes; parts and stretches as tuples -/
def lev (g l : Int) (z : List Nat) (i : Nat) : Int := wor g l (z.take i)
theorem lev_succ (g l : Int) {z : List Nat} {i : Nat} (h : i < z.length) : lev g l z (i + 1) = lev g l z i + (if z[i] = 61 then g else -l) := wor_take g l h
theorem lev_zero (g l : Int) (z : List Nat) : lev g l z 0 = 0 := by
  unfold lev
  rw [List.take_zero]
  rfl
/-- only the object at a is another -/
def K1 (a : Addr) (H H' : Hp) : Prop := ∀ p o, p ≠ a → H p = some o → H' p = some o
theorem K1.refl {a : Addr} (H : Hp) : K1 a H H := fun _ _ _ h => h
theorem K1.trans {a : Addr} {H H1 H2 : Hp} (x : K1 a H H1) (y : K1 a H1 H2) : K1 a H H2 := fun p o h1 h => y p o h1 (x p o h1 h)
theorem K1.of {a : Addr} {H H' : Hp} (x : Same H H') : K1 a H H' := fun p o _ h => x p o h
theorem K1.at {a : Addr} {H : Hp} {o : HO} : K1 a H (upd H a o) := fun q u n e => by
  rw [upd_ne n]
  exact e
theorem K1.same {a : Addr} {H0 H H' : Hp} (x : K1 a H H') (h0 : H0 a = none) (s : Same H0 H) : Same H0 H' := fun p o h => x p o (ne_of_none h h0) (s p o h)
/-- the tuples at as tell L, each by f -/
def Tup {α : Type} (f : α → List V) (H : Hp) (as : List Addr) (L : List α) : Prop := as.length = L.length ∧ ∀ (j : Nat) (a : Addr) (p : α), as[j]? = some a → L[j]? = some p → H a = some (.tup (f p))
section
variable {α : Type} {f : α → List V} {H H' : Hp} {as : List Addr} {L : List α}
theorem Tup.nil : Tup f H [] [] := ⟨rfl, fun j a p h => by simp at h⟩
theorem Tup.k1 {a : Addr} {xs : List V} (h : Tup f H as L) (k : K1 a H H') (ha : H a = some (.lst xs)) : Tup f H' as L := ⟨h.1, fun j b p h1 h2 => by
  have h3 := h.2 j b p h1 h2
  exact k b _ (ne_of h3 ha (by intro q; cases q)) h3⟩
theorem Tup.same (h : Tup f H as L) (k : Same H H') : Tup f H' as L := ⟨h.1, fun j b p h1 h2 => k b _ (h.2 j b p h1 h2)⟩
theorem Tup.take (h : Tup f H as L) (k : Nat) : Tup f H (as.take k) (L.take k) := ⟨by rw [List.length_take, List.length_take, h.1], fun j b p h1 h2 => by
  rw [List.getElem?_take] at h1 h2
  split at h1
  · rename_i hj
    rw [if_pos hj] at h2
    exact h.2 j b p h1 h2
  · cases h1⟩
theorem Tup.snoc {a : Addr} {p : α} (h : Tup f H as L) (ha : H a = some (.tup (f p))) : Tup f H (as ++ [a]) (L ++ [p]) := ⟨by rw [List.length_append, List.length_append, h.1]; rfl, fun j b q h1 h2 => by
  by_cases hj : j < as.length
  · rw [List.getElem?_append_left hj] at h1
    rw [List.getElem?_append_left (by rw [← h.1]; exact hj)] at h2
    exact h.2 j b q h1 h2
  · rw [List.getElem?_append_right (by omega)] at h1
    rw [List.getElem?_append_right (by rw [← h.1]; omega)] at h2
    have e1 : j - as.length = 0 := by
      apply Classical.byContradiction
      intro hn
      rw [List.getElem?_eq_none (by simp; omega)] at h1
      cases h1
    rw [e1] at h1
    rw [← h.1, e1] at h2
    have : a = b := Option.some.inj h1
    have : p = q := Option.some.inj h2
    subst_vars
    exact ha⟩
theorem Tup.get (h : Tup f H as L) {j : Nat} {p : α} (hp : L[j]? = some p) : ∃ a, as[j]? = some a ∧ (as.map V.ref)[j]? = some (.ref a) ∧ H a = some (.tup (f p)) := by
  have hj : j < as.length := by
    rw [h.1]
    exact (List.getElem?_eq_some_iff.mp hp).1
  refine ⟨as[j], List.getElem?_eq_getElem hj, by rw [List.getElem?_map, List.getElem?_eq_getElem hj]; rfl, h.2 j _ p (List.getElem?_eq_getElem hj) hp⟩
theorem Tup.len (h : Tup f H as L) : (as.map V.ref).length = L.length := by rw [List.length_map, h.1]
theorem Tup.dp {K : PySem.W.Frag} {g : α → List PyData} (hg : ∀ p, DpAll K H (f p) (g p)) : ∀ {as : List Addr} {L : List α}, Tup f H as L → DpAll K H (as.map V.ref) (L.map fun p => PyData.tuple (g p))
  | [], [], _ => .nil
  | [], p :: L, h => by have := h.1; simp at this
  | a :: as, [], h => by have := h.1; simp at this
  | a :: as, p :: L, h => .cons (.tup (SqT.of (h.2 0 a p rfl rfl)) (hg p)) (Tup.dp hg ⟨by simpa using h.1, fun j b q h1 h2 => h.2 (j + 1) b q h1 h2⟩)
end
/-- a part: its stretch, and the levels at its ends -/
def part4 (s : Nat → Int) (p : Nat × Nat) : List V := [.int (p.1 : Nat), .int (p.2 : Nat), .int (s p.1), .int (s p.2)]
def pair2 (p : Nat × Nat) : List V := [.int (p.1 : Nat), .int (p.2 : Nat)]
def pairD (p : Nat × Nat) : List PyData := [.int (p.1 : Nat), .int (p.2 : Nat)]
theorem pair2_dp {K : PySem.W.Frag} {H : Hp} (p : Nat × Nat) : DpAll K H (pair2 p) (pairD p) := .cons (.int _) (.cons (.int _) .nil)
theorem len_sorted : ∀ {L : List (Nat × Nat)} {k n : Nat}, L.Pairwise (fun p q => p.1 < q.1) → (∀ p ∈ L, k ≤ p.1 ∧ p.1 < n) → L.length ≤ n - k
  | [], _, _, _, _ => by simp
  | p :: L, k, n, h, hb => by
    rw [List.pairwise_cons] at h
    have hp := hb p (List.mem_cons_self ..)
    have ih := len_sorted (k := p.1 + 1) (n := n) h.2 fun q hq => ⟨h.1 q hq, (hb q (List.mem_cons_of_mem _ hq)).2⟩
    rw [List.length_cons]
    omega
theorem RL.len {s : Nat → Int} {n : Nat} {L : List (Nat × Nat)} (h : RL s n L) : L.length ≤ n := by
  have := len_sorted (k := 0) (n := n) h.lt fun p hp => ⟨Nat.zero_le _, by
    have r := h.ripe p hp
    have := r.1.1
    have := r.2.1
    omega⟩
  omega
theorem Gd_pairs (L : List (Nat × Nat)) (h : L.length ≤ 100000) : Gd (.list (L.map fun p => PyData.tuple (pairD p))) := by
  refine .lst _ (by rw [List.length_map]; exact h) fun d hd => ?_
  obtain ⟨p, _, rfl⟩ := List.mem_map.mp hd
  refine .tup _ (by show 2 ≤ 100000; omega) fun e he => ?_
  rcases List.mem_cons.mp he with rfl | he
  · exact .int _
  · rcases List.mem_cons.mp he with rfl | he
    · exact .int _
    · cases he
theorem depth_pairs (L : List (Nat × Nat)) : PyData.depthAll (L.map fun p => PyData.tuple (pairD p)) ≤ 1 := by
  induction L with
  | nil => simp [PyData.depthAll]
  | cons p L ih =>
    have h : (PyData.tuple (pairD p)).depth = 1 := by simp [pairD, PyData.depth, PyData.depthAll]
    rw [List.map_cons, PyData.depthAll, h]
    exact Nat.max_le.mpr ⟨Nat.le_refl _, ih⟩
theorem eq_like (c : Nat) : decide (V.str (sg c) = V.str (Str.ofString "=")) = decide (c = 61) := by
  by_cases h : c = 61
  · subst h
    rfl
  · rw [decide_eq_false h]
    refine decide_eq_false fun q => h ?_
    have : S [c] = S [61] := V.str.inj q
    have := S_inj this
    exact (List.cons.inj this).1
theorem x_slT {K : PySem.W.Frag} {H : Hp} {a : Addr} {xs : List V} {lo hi : Option Int} {Q : VK} (h : SqT K H a xs) (hn : ¬ (HT.sIx xs.length 0 lo = 0 ∧ HT.sIx xs.length xs.length hi = xs.length)) (q : ∀ p, H p = none → Q (.ref p) (upd H p (.tup (cutV xs lo hi)))) :
    rSlT K (.ref a) lo hi H Q := ⟨a, xs, rfl, h, hn, q⟩
/-- a new tuple t is appended to the list of tuples at D -/
theorem tup_push {α : Type} {f : α → List V} {H0 H : Hp} {D t : Addr} {as : List Addr} {M : List α} {p : α} (hD0 : H0 D = none) (sm : Same H0 H) (hD : H D = some (.lst (as.map V.ref))) (hT : Tup f H as M) (ht : H t = none) :
    Same H0 (upd (upd H t (.tup (f p))) D (.lst (as.map V.ref ++ [.ref t]))) ∧ upd (upd H t (.tup (f p))) D (.lst (as.map V.ref ++ [.ref t])) D = some (.lst ((as ++ [t]).map V.ref)) ∧
      Tup f (upd (upd H t (.tup (f p))) D (.lst (as.map V.ref ++ [.ref t]))) (as ++ [t]) (M ++ [p]) := by
  have hne : D ≠ t := ne_of_none hD ht
  have k : K1 D H (upd (upd H t (.tup (f p))) D (.lst (as.map V.ref ++ [.ref t]))) := (K1.of (same_upd ht)).trans K1.at
  refine ⟨k.same hD0 sm, by rw [upd_same, List.map_append]; rfl, Tup.snoc (hT.k1 k hD) ?_⟩
  rw [upd_ne hne.symm, upd_same]
theorem wor_cut (g l : Int) (z : List Nat) {i j : Nat} (h : i ≤ j) : wor g l ((z.drop i).take (j - i)) = lev g l z j - lev g l z i := by
  have e : z.take j = z.take i ++ (z.drop i).take (j - i) := by
    have hj : j = i + (j - i) := by omega
    rw [hj, List.take_add, ← hj]
  unfold lev
  rw [e, wor_app]
  omega
theorem eqv_pair (a b c d : Int) : PyData.eqv (.tuple [.int a, .int b]) (.tuple [.int c, .int d]) = decide (a = c ∧ b = d) := by
  simp [PyData.eqv, PyData.eqvAll]
  by_cases h1 : a = c <;> by_cases h2 : b = d <;> simp [h1, h2]
theorem dp_pair {K : PySem.W.Frag} {H : Hp} {p : Addr} {a b : Int} (h : H p = some (.tup [.int a, .int b])) : Dp K H (.ref p) (.tuple [.int a, .int b]) := .tup (SqT.of h) (.cons (.int a) (.cons (.int b) .nil))
/-- all stretches that stand by themselves, as far as the walk has come: ahead of (bi, ei) -/
def Lex (p q : Nat × Nat) : Prop := p.1 < q.1 ∨ (p.1 = q.1 ∧ p.2 < q.2)
structure SLI (s : Nat → Int) (n bi ei : Nat) (L : List (Nat × Nat)) : Prop where
  st : ∀ p ∈ L, St s p.1 p.2 ∧ p.2 ≤ n
  all : ∀ b e, St s b e → e ≤ n → (b < bi ∨ (b = bi ∧ e < ei)) → (b, e) ∈ L
  lt : L.Pairwise Lex
  top : ∀ p ∈ L, p.1 < bi ∨ (p.1 = bi ∧ p.2 < ei)
  len : L.length ≤ bi * (n + 1) + ei
theorem SLI.zero (s : Nat → Int) (n : Nat) : SLI s n 0 1 [] := ⟨(fun p h => nomatch h), (fun b e h _ h2 => by have := h.1; omega), .nil, (fun p h => nomatch h), by simp⟩
theorem SLI.row {s : Nat → Int} {n i : Nat} {L : List (Nat × Nat)} (h : SLI s n i (n + 1) L) : SLI s n (i + 1) (i + 1 + 1) L := by
  refine ⟨h.st, fun b e hs he h2 => h.all b e hs he ?_, h.lt, fun p hp => ?_, ?_⟩
  · have := hs.1
    omega
  · have := h.top p hp
    omega
  · have := h.len
    rw [Nat.succ_mul]
    omega
theorem SLI.no {s : Nat → Int} {n i e : Nat} {L : List (Nat × Nat)} (h : SLI s n i e L) (hn : ¬ St s i e) : SLI s n i (e + 1) L := by
  refine ⟨h.st, fun b e' hs he h2 => h.all b e' hs he ?_, h.lt, fun p hp => ?_, ?_⟩
  · by_cases hz : b = i ∧ e' = e
    · obtain ⟨z1, z2⟩ := hz
      subst z1 z2
      exact absurd hs hn
    · omega
  · have := h.top p hp
    omega
  · have := h.len
    omega
theorem SLI.yes {s : Nat → Int} {n i e : Nat} {L : List (Nat × Nat)} (h : SLI s n i e L) (hy : St s i e) (he : e ≤ n) : SLI s n i (e + 1) (L ++ [(i, e)]) := by
  refine ⟨fun p hp => ?_, fun b e' hs he h2 => ?_, ?_, fun p hp => ?_, ?_⟩
  · rcases List.mem_append.mp hp with z | z
    · exact h.st p z
    · rw [List.mem_singleton.mp z]
      exact ⟨hy, he⟩
  · by_cases hz : b = i ∧ e' = e
    · rw [hz.1, hz.2]
      simp
    · exact List.mem_append.mpr (.inl (h.all b e' hs he (by omega)))
  · rw [List.pairwise_append]
    refine ⟨h.lt, by simp, fun p hp q hq => ?_⟩
    rw [List.mem_singleton.mp hq]
    exact h.top p hp
  · rcases List.mem_append.mp hp with z | z
    · have := h.top p z
      omega
    · rw [List.mem_singleton.mp z]
      exact .inr ⟨rfl, Nat.lt_succ_self _⟩
  · have := h.len
    rw [List.length_append]
    show L.length + 1 ≤ _
    omega
/-- q holds p within, and is another -/
def cont (p q : Nat × Nat) : Bool := decide (q.1 ≤ p.1) && (decide (p.2 ≤ q.2) && !decide (q = p))
def mxs (L : List (Nat × Nat)) (p : Nat × Nat) : Bool := (L.filter (cont p)).isEmpty
theorem SLI.ripe {s : Nat → Int} {n : Nat} {L : List (Nat × Nat)} (h : SLI s n n (n + 1) L) : RL s n (L.filter (mxs L)) := by
  have all : ∀ b e, St s b e → e ≤ n → (b, e) ∈ L := fun b e hs he => h.all b e hs he (by have := hs.1; omega)
  refine RL.of_lt (fun p hp => ?_) (fun b e r => ?_) ?_
  · obtain ⟨h1, h2⟩ := List.mem_filter.mp hp
    obtain ⟨h3, h4⟩ := h.st p h1
    refine ⟨h3, h4, fun b' e' hs he hb hi => ?_⟩
    apply Classical.byContradiction
    intro hn
    have hc : cont p (b', e') = true := by
      unfold cont
      rw [decide_eq_true (show (b', e').1 ≤ p.1 from hb), decide_eq_true (show p.2 ≤ (b', e').2 from hi), decide_eq_false (show ¬ (b', e') = p from fun q => hn ⟨congrArg Prod.fst q, congrArg Prod.snd q⟩)]
      rfl
    have hm : (b', e') ∈ L.filter (cont p) := List.mem_filter.mpr ⟨all b' e' hs he, hc⟩
    unfold mxs at h2
    rw [List.isEmpty_iff] at h2
    rw [h2] at hm
    cases hm
  · refine List.mem_filter.mpr ⟨all b e r.1 r.2.1, ?_⟩
    unfold mxs
    rw [List.isEmpty_iff, List.filter_eq_nil_iff]
    intro q hq hc
    unfold cont at hc
    simp only [Bool.and_eq_true, decide_eq_true_eq, Bool.not_eq_true', decide_eq_false_iff_not] at hc
    obtain ⟨h3, h4⟩ := h.st q hq
    have := r.2.2 q.1 q.2 h3 h4 hc.1 hc.2.1
    exact hc.2.2 (Prod.ext this.1 this.2)
  · refine (h.lt.filter _).imp fun {p q} hpq => ⟨?_, fun e => ?_⟩
    · rcases hpq with z | z <;> omega
    · subst e
      rcases hpq with z | z <;> omega
theorem SLI.skip {s : Nat → Int} {n i e e' : Nat} {L : List (Nat × Nat)} (h : SLI s n i e L) (hn : ∀ x, e ≤ x → ¬ St s i x) (hle : e ≤ e') : SLI s n i e' L := by
  refine ⟨h.st, fun b x hs he h2 => h.all b x hs he ?_, h.lt, fun p hp => ?_, ?_⟩
  · by_cases hz : b = i ∧ e ≤ x
    · obtain ⟨z1, z2⟩ := hz
      subst z1
      exact absurd hs (hn x z2)
    · omega
  · have := h.top p hp
    omega
  · have := h.len
    omega
/-- some stretch that stands by itself is worth as much as any two levels differ -/
theorem St.of_diff {s : Nat → Int} {i j : Nat} (hij : i < j) (h : s i < s j) : ∃ b e, i ≤ b ∧ b < e ∧ e ≤ j ∧ St s b e ∧ s j - s i ≤ s e - s b := by
  obtain ⟨e, e1, e2, e3, e4⟩ := argmax_first s i (j - i)
  have he := e4 j (by omega) (by omega)
  have hie : i ≠ e := fun q => by
    rw [← q] at he
    omega
  obtain ⟨b, b1, b2, b3, b4⟩ := argmin_last s i (e - i)
  have hb := b4 i (Nat.le_refl _) (by omega)
  have hbe : b ≠ e := fun q => by
    rw [q] at hb
    have := e3 i (Nat.le_refl _) (by omega)
    omega
  exact ⟨b, e, b1, by omega, by omega, ⟨by omega, fun x x1 x2 => b3 x x1 (by omega), fun x x1 x2 => e3 x (by omega) x2⟩, by omega⟩
theorem RL.best {s : Nat → Int} {n : Nat} {L : List (Nat × Nat)} (h : RL s n L) {i j : Nat} (hij : i < j) (hj : j ≤ n) (hd : s i < s j) : ∃ p ∈ L, s j - s i ≤ s p.2 - s p.1 := by
  obtain ⟨b, e, h1, h2, h3, h4, h5⟩ := St.of_diff hij hd
  obtain ⟨b', e', r, r1, r2⟩ := ripe_over (n := n) h4 (by omega)
  refine ⟨(b', e'), h.all b' e' r, ?_⟩
  have k1 : s b' ≤ s b := by
    by_cases hz : b' = b
    · subst hz
      exact Int.le_refl _
    · have := r.1.2.1 b (by omega) (by omega)
      omega
  have k2 : s e ≤ s e' := by
    by_cases hz : e = e'
    · subst hz
      exact Int.le_refl _
    · have := r.1.2.2 e (by omega) (by omega)
      omega
  show s j - s i ≤ s e' - s b'
  omega
theorem lev_add (g l : Int) {z : List Nat} {i : Nat} (h : i < z.length) : wor g l [z[i]] = lev g l z (i + 1) - lev g l z i := by
  rw [lev_succ g l h]
  show (if z[i] = 61 then g else -l) + 0 = _
  omega
end Sr

namespace Zs
open PySem PySem.Spec PyProof.Rows L2
/-! ### sets of pairs of ints, many: the tables of up to 2048 slots -/
def cyc (M b : Nat) : Nat := (5 ^ b - 1) / 4 % M
/-- which slots the round passes, as bits, by halves -/
def hit (M : Nat) : Nat → Nat → Nat
  | 0, lo => 1 <<< cyc M lo
  | d + 1, lo => hit M d lo ||| hit M d (lo + 2 ^ d)
theorem hit_some {M j : Nat} : ∀ (d lo : Nat), (hit M d lo).testBit j = true → ∃ b, lo ≤ b ∧ b < lo + 2 ^ d ∧ cyc M b = j
  | 0, lo, h => by
    refine ⟨lo, Nat.le_refl _, by simp, ?_⟩
    unfold hit at h
    rw [Nat.one_shiftLeft, Nat.testBit_two_pow] at h
    simpa using h
  | d + 1, lo, h => by
    unfold hit at h
    rw [Nat.testBit_or, Bool.or_eq_true] at h
    rcases h with h | h
    · obtain ⟨b, h1, h2, h3⟩ := hit_some d lo h
      exact ⟨b, h1, by rw [Nat.pow_succ]; omega, h3⟩
    · obtain ⟨b, h1, h2, h3⟩ := hit_some d (lo + 2 ^ d) h
      exact ⟨b, by omega, by rw [Nat.pow_succ]; omega, h3⟩
theorem lcg_cyc (m : Nat) : ∀ b, lcgN m b = cyc (m + 1) b
  | 0 => by simp [lcgN, cyc]
  | b + 1 => by
    have y1 : 5 ^ b % 4 = 1 := by
      rw [Nat.pow_mod]
      simp
    have e : (5 ^ (b + 1) - 1) / 4 = (5 ^ b - 1) / 4 * 5 + 1 := by
      rw [Nat.pow_succ]
      generalize 5 ^ b = y at y1
      omega
    unfold lcgN
    rw [lcg_cyc m b]
    unfold cyc
    rw [e, Nat.add_mod, Nat.mul_mod, Nat.mod_mod, ← Nat.mul_mod, ← Nat.add_mod]
def Mk (m : Nat) : Prop := ∃ d, 3 ≤ d ∧ d < 12 ∧ d % 2 = 1 ∧ m + 1 = 2 ^ d
theorem hit_all : ∀ d, d < 12 → hit (2 ^ d) d 0 = 2 ^ (2 ^ d) - 1 := by decide +kernel
theorem cyc_all : ∀ d, d < 12 → cyc (2 ^ d) (2 ^ d) = 0 := by decide +kernel
theorem Mk.meet {m j : Nat} (h : Mk m) (hj : j ≤ m) : ∃ b, b ≤ m ∧ lcgN m b = j := by
  obtain ⟨d, _, hd, _, e⟩ := h
  have h1 := hit_all d hd
  obtain ⟨b, _, hb, hc⟩ := hit_some (M := 2 ^ d) (j := j) d 0 (by
    rw [h1, Nat.testBit_two_pow_sub_one]
    exact decide_eq_true (by omega))
  refine ⟨b, by omega, ?_⟩
  rw [lcg_cyc, e]
  exact hc
theorem Mk.again {m : Nat} (h : Mk m) : ∀ k, lcgN m (m + 1 + k) = lcgN m k
  | 0 => by
    obtain ⟨d, _, hd, _, e⟩ := h
    show lcgN m (m + 1) = 0
    rw [lcg_cyc, e]
    exact cyc_all d hd
  | k + 1 => by
    show (lcgN m (m + 1 + k) * 5 + 1) % (m + 1) = (lcgN m k * 5 + 1) % (m + 1)
    rw [h.again k]
theorem Mk.fromAny {m i j : Nat} (h : Mk m) (hi : i ≤ m) (hj : j ≤ m) : ∃ k, k ≤ m ∧ lcgI m i k = j := by
  obtain ⟨x, hx, ex⟩ := h.meet hi
  obtain ⟨y, hy, ey⟩ := h.meet hj
  subst ex
  by_cases c : x ≤ y
  · refine ⟨y - x, by omega, ?_⟩
    rw [lcgN_add, show x + (y - x) = y by omega]
    exact ey
  · refine ⟨y + (m + 1) - x, by omega, ?_⟩
    rw [lcgN_add, show x + (y + (m + 1) - x) = m + 1 + y by omega, h.again]
    exact ey
theorem Mk.run {m j : Nat} (h : Mk m) (z : Int) (hj : j ≤ m) : ∃ n, n ≤ m + 12 ∧ runI m (SetTable.bits z) n = j := by
  obtain ⟨k, hk, e⟩ := h.fromAny (runI_le m (SetTable.bits z) 12) hj
  exact ⟨12 + k, by omega, (runI_tail (bits_lt z) k).trans e⟩
theorem Mk.met {m j : Nat} (h : Mk m) (z : Int) (hj : j ≤ m) : ∃ k, k < 10 * SetTable.turns m ∧ way m z k = j := by
  obtain ⟨n, hn, e⟩ := h.run z hj
  obtain ⟨k, hk, e2⟩ := run_nth m (SetTable.bits z) n
  have ht : SetTable.turns m = m + 15 := rfl
  exact ⟨k, by omega, (congrArg SetTable.Probe.j e2).trans e⟩
theorem Mk.odd {m : Nat} (h : Mk m) : m % 2 = 1 := by
  obtain ⟨d, h3, _, _, e⟩ := h
  obtain ⟨k, rfl⟩ : ∃ k, d = k + 1 := ⟨d - 1, by omega⟩
  rw [Nat.pow_succ] at e
  omega
theorem Mk.le {m : Nat} (h : Mk m) : m ≤ 2047 := by
  obtain ⟨d, _, hd, _, e⟩ := h
  have : 2 ^ d ≤ 2 ^ 11 := Nat.pow_le_pow_right (by decide) (by omega)
  omega
theorem Mk.cases {m : Nat} (h : Mk m) : m = 7 ∨ m = 31 ∨ m = 127 ∨ m = 511 ∨ m = 2047 := by
  obtain ⟨d, h3, hd, ho, e⟩ := h
  have : d = 3 ∨ d = 5 ∨ d = 7 ∨ d = 9 ∨ d = 11 := by omega
  rcases this with rfl | rfl | rfl | rfl | rfl
  · exact .inl (by simpa using e)
  · exact .inr (.inl (by simpa using e))
  · exact .inr (.inr (.inl (by simpa using e)))
  · exact .inr (.inr (.inr (.inl (by simpa using e))))
  · exact .inr (.inr (.inr (.inr (by simpa using e))))
theorem mk7 : Mk 7 := ⟨3, by decide, by decide, by decide, rfl⟩
theorem mk31 : Mk 31 := ⟨5, by decide, by decide, by decide, rfl⟩
theorem mk127 : Mk 127 := ⟨7, by decide, by decide, by decide, rfl⟩
theorem mk511 : Mk 511 := ⟨9, by decide, by decide, by decide, rfl⟩
theorem mk2047 : Mk 2047 := ⟨11, by decide, by decide, by decide, rfl⟩
theorem wayLe {m : Nat} {z : Int} {k : Nat} : way m z k ≤ m := by
  have hb : SetTable.bits z % (m + 1) < m + 1 := Nat.mod_lt _ (Nat.succ_pos _)
  have hr := runEnd_bd (m := m) (i := SetTable.bits z % (m + 1)) (by omega)
  have hn := nth_in (m := m) k (runAt m (SetTable.bits z % (m + 1)) (SetTable.bits z)) (by simp only [runAt]; omega)
  have : way m z k = (nth m (runAt m (SetTable.bits z % (m + 1)) (SetTable.bits z)) k).j := rfl
  omega
/-! ### a table in which each member is met on its way -/
structure Tb (t : SetTable) (hs : List Int) : Prop where
  up : Ris t.place.toList
  nd : t.dummies = #[]
  sz : t.place.size = hs.length
  msk : Mk t.mask
  le : ∀ x ∈ t.place.toList, x ≤ t.mask
  met : ∀ (i : Nat) (z : Int) (j : Nat), hs[i]? = some z → t.place.toList[i]? = some j → ∃ k, way t.mask z k = j ∧ ∀ k', k' < k → way t.mask z k' ∈ t.place.toList
section
variable {t : SetTable} {hs : List Int}
theorem Tb.len (T : Tb t hs) : t.place.toList.length = hs.length := T.sz
theorem Tb.gap (T : Tb t hs) (hl : hs.length ≤ t.mask) (z : Int) : ∃ K, K < 10 * SetTable.turns t.mask ∧ way t.mask z K ∉ t.place.toList ∧ ∀ k, k < K → way t.mask z k ∈ t.place.toList := by
  obtain ⟨j, hj, hn⟩ := st_missing t.place.toList (t.mask + 1) (by have := T.len; omega)
  obtain ⟨k, hk, e⟩ := T.msk.met z (show j ≤ t.mask by omega)
  obtain ⟨K, hKk, hK, hmin⟩ := st_least (p := fun k => way t.mask z k ∉ t.place.toList) k (fun hm => hn (e ▸ hm))
  exact ⟨K, by omega, hK, fun k' hk' => Classical.byContradiction (hmin k' hk')⟩
theorem Tb.ahead (T : Tb t hs) {z : Int} {K i j : Nat} (hK : way t.mask z K ∉ t.place.toList) (hi : hs[i]? = some z) (hj : t.place.toList[i]? = some j) : ∃ k, k < K ∧ way t.mask z k = j := by
  obtain ⟨k, e, hb⟩ := T.met i z j hi hj
  have hm := List.mem_of_getElem? hj
  refine ⟨k, ?_, e⟩
  by_cases c : k < K
  · exact c
  · exfalso
    by_cases c2 : k = K
    · subst c2
      exact hK (e ▸ hm)
    · exact hK (hb K (by omega))
/-- what is put into the first gap is met, and so are the others -/
theorem Tb.lay (T : Tb t hs) {z : Int} {K : Nat} (hK : way t.mask z K ∉ t.place.toList) (hb : ∀ k, k < K → way t.mask z k ∈ t.place.toList) :
    let p := SetTable.below t.place (way t.mask z K)
    p ≤ hs.length ∧ Tb (t.put (way t.mask z K)).1 (hs.take p ++ z :: hs.drop p) ∧ (t.put (way t.mask z K)).1.place.size = hs.length + 1 := by
  intro p
  obtain ⟨c1, _, _⟩ := below_cut T.up (way t.mask z K)
  have hp1 : p ≤ t.place.toList.length := c1
  have hp2 : p ≤ hs.length := by have := T.len; omega
  have hout : t.place[p]? ≠ some (way t.mask z K) := fun e => hK (List.mem_of_getElem? (by rw [Array.getElem?_toList]; exact e))
  have epl : (t.put (way t.mask z K)).1.place.toList = t.place.toList.take p ++ way t.mask z K :: t.place.toList.drop p := put_place t _
  have esz : (t.put (way t.mask z K)).1.place.size = hs.length + 1 := by
    have h1 := congrArg List.length epl
    rw [len_ins _ hp1, T.len] at h1
    exact h1
  have grow : ∀ {x : Nat}, x ∈ t.place.toList → x ∈ (t.put (way t.mask z K)).1.place.toList := fun {x} hx => by
    rw [epl, mem_ins]
    exact .inr hx
  refine ⟨hp2, ⟨ris_insert T.up hout, put_dm T.nd _, ?_, T.msk, fun x hx => ?_, fun i y j hi hj => ?_⟩, esz⟩
  · rw [esz, len_ins _ hp2]
  · rw [epl, mem_ins] at hx
    rcases hx with hx | hx
    · rw [hx]
      exact wayLe
    · exact T.le x hx
  · rw [epl, tins_get _ hp1] at hj
    rw [tins_get _ hp2] at hi
    show ∃ k, way t.mask y k = j ∧ ∀ k', k' < k → way t.mask y k' ∈ (t.put (way t.mask z K)).1.place.toList
    by_cases h1 : i < p
    · rw [if_pos h1] at hi hj
      obtain ⟨k, e, l⟩ := T.met i y j hi hj
      exact ⟨k, e, fun k' hk' => grow (l k' hk')⟩
    by_cases h2 : i = p
    · rw [if_neg h1, if_pos h2] at hi hj
      cases hi
      cases hj
      exact ⟨K, rfl, fun k' hk' => grow (hb k' hk')⟩
    · rw [if_neg h1, if_neg h2] at hi hj
      obtain ⟨k, e, l⟩ := T.met (i - 1) y j hi hj
      exact ⟨k, e, fun k' hk' => grow (l k' hk')⟩
end
/-! ### all laid anew -/
theorem freeAt {m : Nat} (hm : Mk m) (ow : Array (Option Nat)) (z : Int) {j : Nat} (hj : j ≤ m) (hf : oAt ow j = none) :
    ∃ K, SetTable.layClean.free m ow (SetTable.turns m) (SetTable.bits z % (m + 1)) (SetTable.bits z) = some (way m z K) ∧ oAt ow (way m z K) = none ∧ ∀ k, k < K → oAt ow (way m z k) ≠ none := by
  obtain ⟨n, hn, e⟩ := hm.run z hj
  have hw : way m z (off m (SetTable.bits z % (m + 1)) (SetTable.bits z) n) = j := by
    have h1 := nth_off m n (SetTable.bits z % (m + 1)) (SetTable.bits z)
    rw [itL_run] at h1
    exact (congrArg SetTable.Probe.j h1).trans e
  obtain ⟨K, hK, hfree, hmin⟩ := st_least (p := fun k => oAt ow (way m z k) = none) _ (by
    show oAt ow (way m z _) = none
    rw [hw]
    exact hf)
  have ht : SetTable.turns m = m + 15 := rfl
  refine ⟨K, free_spec m ow _ n _ _ K (by omega) hK (fun k hk => ?_) ?_, hfree, hmin⟩
  · have := hmin k hk
    cases q : oAt ow (way m z k) with
    | none => exact absurd q this
    | some v => rfl
  · exact congrArg Option.isNone hfree
theorem sitStep {m : Nat} (hm : Mk m) {done : List Int} {ow : Array (Option Nat)} (W : Own m done ow) (hl : done.length ≤ m) (z : Int) :
    ∃ j, SetTable.layClean.free m ow (SetTable.turns m) (SetTable.bits z % (m + 1)) (SetTable.bits z) = some j ∧ Own m (done ++ [z]) (ow.setIfInBounds j (some done.length)) := by
  obtain ⟨ps, hps, hin⟩ := W.ps
  obtain ⟨j0, hj0, hn0⟩ := st_missing ps (m + 1) (by omega)
  have fr : oAt ow j0 = none := Classical.byContradiction fun q => hn0 (hin j0 (by omega) q)
  obtain ⟨K, e1, e2, e3⟩ := freeAt hm ow z (show j0 ≤ m by omega) fr
  refine ⟨way m z K, e1, ?_⟩
  have hle : way m z K ≤ m := wayLe
  have hin2 : way m z K < ow.size := by rw [W.sz]; omega
  have own := oAt_set_self (some done.length) hin2
  have oth : ∀ {i : Nat}, i ≠ way m z K → oAt (ow.setIfInBounds (way m z K) (some done.length)) i = oAt ow i := fun {i} c => oAt_set_ne _ c
  have stay : ∀ {i : Nat}, oAt ow i ≠ none → oAt (ow.setIfInBounds (way m z K) (some done.length)) i ≠ none := fun {i} hi => by
    by_cases c : i = way m z K
    · subst c
      exact absurd e2 hi
    · rw [oth c]
      exact hi
  constructor
  · rw [Array.size_setIfInBounds, W.sz]
  · intro j k hj e
    by_cases c : j = way m z K
    · subst c
      rw [own] at e
      cases e
      exact ⟨z, K, by simp, rfl, fun k' hk' => stay (e3 k' hk')⟩
    · rw [oth c] at e
      obtain ⟨y, L, a1, a2, a3⟩ := W.at_ j k hj e
      exact ⟨y, L, (List.getElem?_append_left (List.getElem?_eq_some_iff.mp a1).1).trans a1, a2, fun k' hk' => stay (a3 k' hk')⟩
  · intro k hk
    rw [List.length_append] at hk
    by_cases c : k < done.length
    · obtain ⟨j, hj, e⟩ := W.all k c
      exact ⟨j, hj, (oth fun q => by rw [q, e2] at e; cases e).trans e⟩
    · have : k = done.length := by
        have : k < done.length + 1 := hk
        omega
      subst this
      exact ⟨_, hle, own⟩
  · refine ⟨way m z K :: ps, by rw [List.length_cons, hps, List.length_append]; rfl, fun j hj q => ?_⟩
    by_cases c : j = way m z K
    · rw [c]
      exact List.mem_cons_self
    · rw [oth c] at q
      exact List.mem_cons_of_mem _ (hin j hj q)
theorem sitAll {m : Nat} (hm : Mk m) : ∀ (rest done : List Int) (ow : Array (Option Nat)), Own m done ow → done.length + rest.length ≤ m →
    ∃ ow', rest.foldl (stepF m) (some (ow, done.length)) = some (ow', (done ++ rest).length) ∧ Own m (done ++ rest) ow'
  | [], done, ow, W, _ => ⟨ow, by simp, by simpa using W⟩
  | z :: rest, done, ow, W, hl => by
    have hl' : done.length + (rest.length + 1) ≤ m := hl
    obtain ⟨j, e, W1⟩ := sitStep hm W (by omega) z
    have hn : (done ++ [z]).length = done.length + 1 := by simp
    obtain ⟨ow', e2, W2⟩ := sitAll hm rest (done ++ [z]) _ W1 (by omega)
    have ea : done ++ [z] ++ rest = done ++ z :: rest := by simp
    rw [ea] at e2 W2
    refine ⟨ow', ?_, W2⟩
    rw [List.foldl_cons, stepF_some e, ← hn]
    exact e2
theorem sits {m : Nat} (hm : Mk m) {hs : Array Int} (hn : hs.size ≤ m) : ∃ ow, SetTable.layClean m hs = some ow ∧ Own m hs.toList ow := by
  obtain ⟨ow, e, W⟩ := sitAll hm hs.toList [] _ (Own.init m) (by have : hs.toList.length = hs.size := rfl; simp; omega)
  have e' : hs.toList.foldl (stepF m) (some (Array.replicate (m + 1) none, 0)) = some (ow, ([] ++ hs.toList).length) := e
  exact ⟨ow, by rw [layClean_eq, e']; rfl, by simpa using W⟩
theorem anew (t : SetTable) {hs : Array Int} {wanted M : Nat} (hw : SetTable.sizeAbove wanted - 1 = M) (hM : Mk M) (hn : hs.size ≤ M) :
    ∃ t' order, t.relaid hs wanted = some (t', order) ∧ order.toList.Perm (List.range hs.size) ∧ Tb t' (order.toList.map fun i => hs.getD i 0) ∧ t'.mask = M ∧ t'.led = t.led ∧ t'.plain = t.plain := by
  obtain ⟨ow, e, W⟩ := sits hM hn
  have lt : ∀ {j k : Nat}, (j, k) ∈ liveOf M ow ↔ j ≤ M ∧ oAt ow j = some k := fun {j k} => mem_live W.sz
  obtain ⟨u1, u2⟩ := ris_live (fun j => ow.getD j none) (List.range (M + 1)) (by unfold Ris; exact List.pairwise_lt_range)
  have v1 : Ris ((liveOf M ow).map (·.1)) := u1
  have v2 : ∀ x ∈ (liveOf M ow).map (·.1), x < M + 1 := fun x hx => List.mem_range.mp (u2 x hx)
  have all : ∀ k, k < hs.size → k ∈ (liveOf M ow).map (·.2) := fun k hk => by
    obtain ⟨j, b1, b2⟩ := W.all k hk
    exact List.mem_map.mpr ⟨(j, k), lt.mpr ⟨b1, b2⟩, rfl⟩
  have num : (liveOf M ow).length = hs.size := by
    obtain ⟨ps, q1, q2⟩ := W.ps
    have nod : ((liveOf M ow).map (·.1)).Nodup := List.Pairwise.imp (fun h => Nat.ne_of_lt h) v1
    have a := nat_nodup_len ((liveOf M ow).map (·.1)) ps nod fun x hx => by
      obtain ⟨⟨y, k⟩, hq, rfl⟩ := List.mem_map.mp hx
      have hq' := lt.mp hq
      exact q2 y hq'.1 (by rw [hq'.2]; simp)
    have b := nat_nodup_len (List.range hs.size) ((liveOf M ow).map (·.2)) List.nodup_range fun k hk => all k (List.mem_range.mp hk)
    simp only [List.length_map, List.length_range] at a b
    have : hs.toList.length = hs.size := rfl
    omega
  refine ⟨tabOf t M ow, ((liveOf M ow).map (·.2)).toArray, by rw [relaid_eq, hw, e]; rfl, perm_range _ _ (by simpa using num) all, ⟨v1, rfl, by simp [tabOf], hM, fun x hx => Nat.le_of_lt_succ (v2 x hx), fun i z j hi hj => ?_⟩, rfl, rfl, rfl⟩
  have hi' : (((liveOf M ow).map (·.2)).map fun i => hs.getD i 0)[i]? = some z := hi
  have hj' : ((liveOf M ow).map (·.1))[i]? = some j := hj
  simp only [List.getElem?_map] at hi' hj'
  cases hq : (liveOf M ow)[i]? with
  | none =>
    rw [hq] at hj'
    cases hj'
  | some q =>
    obtain ⟨y, k⟩ := q
    rw [hq] at hi' hj'
    cases hj'
    have hi2 : hs.getD k 0 = z := Option.some.inj hi'
    obtain ⟨b1, b2⟩ := lt.mp (List.mem_of_getElem? hq)
    obtain ⟨z0, K, a1, a2, a3⟩ := W.at_ y k b1 b2
    have ez : hs.getD k 0 = z0 := by
      have a1' : hs[k]? = some z0 := by rw [← Array.getElem?_toList]; exact a1
      simp [Array.getD_eq_getD_getElem?, a1']
    have : z0 = z := ez.symm.trans hi2
    subst this
    refine ⟨K, a2, fun k' hk' => ?_⟩
    have hs' := a3 k' hk'
    cases q : oAt ow (way M z0 k') with
    | none => exact absurd q hs'
    | some k2 => exact List.mem_map.mpr ⟨(_, k2), lt.mpr ⟨wayLe, q⟩, rfl⟩
end Zs

namespace Zs
open PySem PySem.Spec PyProof.Rows L2
/-! ### the set in the heap -/
/-- members: where a tuple lies, and its ints -/
abbrev Mem := List (Addr × List Int)
structure Zt (P : Program) (w : World) (h : Heap) (a : Addr) (L : Mem) (es : Array (Int × Value)) (ep : Nat) (t : SetTable) : Prop where
  ob : ∃ o, h.get? a = some o ∧ o.ExactSet ∧ o.data = .set es ep t
  rs : es.toList = rowsOf P w L
  tb : Tb t (L.map fun q => thash P w q.2)
  nd : (L.map (·.2)).Nodup
  tp : ∀ q ∈ L, IsT P w h q.2 q.1
  pl : t.plain = true
  ld : w.params.followText "set-order" = true ∨ t.led = true
  rm : L.length * 5 < t.mask * 3
section
variable {P : Program} {w : World} {A : Around} {E : Value → Shared → Prop} {s : Shared} {a x : Addr} {L : Mem} {es : Array (Int × Value)} {ep : Nat} {t : SetTable} {k : List Int}
theorem rows_num {L : Mem} {es : Array (Int × Value)} (h : es.toList = rowsOf P w L) : es.size = L.length := by
  have e : es.toList.length = (rowsOf P w L).length := by rw [h]
  simpa [rowsOf] using e
theorem Zt.num (Z : Zt P w s.heap a L es ep t) : es.size = L.length := rows_num Z.rs
theorem Zt.tnum (Z : Zt P w s.heap a L es ep t) : t.place.size = L.length := by simpa using Z.tb.sz
theorem fits_if {t : SetTable} {n : Nat} (h1 : t.place.size = n) (h2 : t.dummies = #[]) (h3 : n ≤ t.mask) : t.fits n = true := by
  unfold SetTable.fits SetTable.fill
  simp [h1, h2, h3]
theorem Zt.fit (Z : Zt P w s.heap a L es ep t) : t.fits es.size = true := by
  have h := Z.rm
  rw [Z.num]
  exact fits_if Z.tnum Z.tb.nd (by omega)
theorem Zt.few (Z : Zt P w s.heap a L es ep t) : L.length < 1229 := by
  have h1 := Z.rm
  have h2 := Z.tb.msk.le
  omega
theorem Zt.row (Z : Zt P w s.heap a L es ep t) {i : Nat} {q : Addr × List Int} (h : L[i]? = some q) : es[i]? = some (thash P w q.2, .ref q.1) := by
  have e : es.toList[i]? = (rowsOf P w L)[i]? := by rw [Z.rs]
  rw [Array.getElem?_toList] at e
  rw [e]
  simp [rowsOf, h]
/-- the search for k among the members: from the c-th step of its way on -/
theorem seek (Z : Zt P w s.heap a L es ep t) (hx : IsT P w s.heap k x) (hu : A.units < cLine) {K : Nat} (hK : way t.mask (thash P w k) K ∉ t.place.toList) (hKm : K < 10 * SetTable.turns t.mask)
    (hKb : ∀ c, c < K → way t.mask (thash P w k) c ∈ t.place.toList) {Q : SetFound → Shared → Prop} (yes : k ∈ L.map (·.2) → Q (.there none) s) (no : k ∉ L.map (·.2) → Q (.free (way t.mask (thash P w k) K) false) s) :
    ∀ (f c : Nat) (from_ : Option SetTable.Probe), from_.getD (t.probeStart (thash P w k)) = nth t.mask (t.probeStart (thash P w k)) c → c ≤ K → K < f + c →
      (∀ (i : Nat) q, L[i]? = some q → q.2 = k → ∃ c', c ≤ c' ∧ c' < K ∧ t.place.toList[i]? = some (way t.mask (thash P w k) c')) →
      wpAny (model P w) A (setSearchFrom a (.ref x) (thash P w k) true f from_) Q E s := by
  intro f
  induction f with
  | zero => intro c from_ _ h1 h2; omega
  | succ f ih =>
    intro c from_ hfrom hc hf hleft
    obtain ⟨o, hget, hex, hdat⟩ := Z.ob
    obtain ⟨st, hst⟩ : ∃ st, st = t.probeStart (thash P w k) := ⟨_, rfl⟩
    have ew : ∀ q, way t.mask (thash P w k) q = (nth t.mask st q).j := fun q => by rw [hst]; rfl
    have hfrom2 : from_.getD (t.probeStart (thash P w k)) = nth t.mask st c := by rw [hst]; exact hfrom
    have eshift : ∀ q, nth t.mask (nth t.mask st c) q = nth t.mask st (c + q) := fun q => (nth_add _ c st q).symm
    have ej : ∀ q, (nth t.mask (nth t.mask st c) q).j = way t.mask (thash P w k) (c + q) := fun q => by rw [eshift, ew]
    have nodm : ∀ n (pr : SetTable.Probe), pr.dummy = none → (nth t.mask pr n).dummy = none := fun n => by
      induction n with
      | zero => exact fun _ h => h
      | succ n ihn =>
        intro pr h
        refine ihn (adv t.mask pr) ?_
        unfold adv
        split <;> exact h
    have hash : ∀ {i : Nat} {q : Addr × List Int}, L[i]? = some q → (es[i]?.map (·.1)).getD 0 = thash P w q.2 := fun {i q} h => by rw [Z.row h]; rfl
    have got := go_spec t Z.tb.up Z.tb.nd (fun i => (es[i]?.map (·.1)).getD 0) (thash P w k) (10 * SetTable.turns t.mask) (K - c) (nth t.mask st c) (nodm c st (by rw [hst]; rfl)) (by omega)
      (fun q hq => by rw [ej]; exact hKb _ (by omega)) (by rw [ej, show c + (K - c) = K by omega]; exact hK)
    rw [setSearchFrom_succ]
    refine wpAny_bind (wpAny_setState_of hget hdat Z.fit ?_)
    dsimp only
    refine wp_if_neg (by unfold SetTable.gaveWay; rw [Z.tb.msk.odd]; decide) ?_
    rcases got with ⟨q, i, hqK, hplace, hh, hnone, hprobe⟩ | ⟨hnone, hprobe⟩
    · have hprobe' : t.probe (fun i => (es[i]?.map (·.1)).getD 0) (thash P w k) (nth t.mask st c) = some (.candidate (way t.mask (thash P w k) (c + q)) i (nth t.mask st (c + (q + 1)))) := by
        rw [← ej, ← eshift]
        exact hprobe
      rw [ej] at hplace
      rw [hfrom2, hprobe']
      dsimp only
      obtain ⟨y, hy⟩ : ∃ y, L[i]? = some y := by
        have h1 : i < t.place.toList.length := (List.getElem?_eq_some_iff.mp hplace).1
        have h2 : t.place.toList.length = L.length := Z.tnum
        exact ⟨L[i], List.getElem?_eq_getElem (by omega)⟩
      have hyL : y ∈ L := List.mem_of_getElem? hy
      have then_ : wpAny (model P w) A (searchRest a (.ref x) (thash P w k) true f es t (way t.mask (thash P w k) (c + q)) i (nth t.mask st (c + (q + 1)))) Q E s := by
        unfold searchRest
        rw [Z.row hy]
        dsimp only
        refine wpAny_bind (wpAny_holding (wpAny_eqBool_tuple hu (Z.tp y hyL) hx ?_))
        refine wpAny_bind (wpAny_setState_of hget hdat Z.fit ?_)
        dsimp only
        by_cases same : y.2 = k
        · refine wp_if_pos (by simp [same]) (wpAny_pure (yes ?_))
          exact List.mem_map.mpr ⟨y, hyL, same⟩
        · refine wp_if_neg (by simp [same]) ?_
          rw [sameMem]
          have live : t.slot (way t.mask (thash P w k) (c + q)) = .live i := slot_live Z.tb.up hplace
          dsimp only
          simp only [if_true, live, Z.row hy]
          refine wpAny_bind (wpAny_isSame_ref_self (wpAny_bind (wpAny_pure ?_)))
          simp only [if_true]
          refine wp_if_neg (by simp [same]) ?_
          refine ih (c + (q + 1)) (some _) (by rw [hst]; rfl) (by omega) (by omega) fun i2 y2 h2 hk2 => ?_
          obtain ⟨c', l1, l2, l3⟩ := hleft i2 y2 h2 hk2
          refine ⟨c', ?_, l2, l3⟩
          by_cases lt : c' < c + q
          · refine absurd ((hash h2).trans (congrArg (thash P w) hk2)) (hnone (c' - c) i2 (by omega) ?_)
            rw [ej, show c + (c' - c) = c' by omega]
            exact l3
          by_cases eq : c' = c + q
          · subst eq
            have live2 := slot_live Z.tb.up l3
            rw [live] at live2
            cases live2
            rw [hy] at h2
            cases h2
            exact absurd hk2 same
          · omega
      by_cases led : t.led = true
      · refine wp_if_neg (by simp [led]) ?_
        exact then_
      · refine wp_if_pos (by simp [led]) ?_
        refine wpAny_bind (seen_tup hx (fun v hv => ?_) (wp_if_neg (by decide) then_))
        obtain ⟨e, he, rfl⟩ := List.mem_map.mp hv
        have he' : e ∈ es.toList := by
          have : e ∈ es ∧ e.1 = thash P w k := by simpa using he
          simpa using this.1
        rw [Z.rs] at he'
        obtain ⟨y2, hy2, rfl⟩ := List.mem_map.mp he'
        exact ⟨y2.2, y2.1, rfl, Z.tp y2 hy2⟩
    · have hprobe' : t.probe (fun i => (es[i]?.map (·.1)).getD 0) (thash P w k) (nth t.mask st c) = some (.empty (way t.mask (thash P w k) K) none) := by
        have e := ej (K - c)
        rw [show c + (K - c) = K by omega] at e
        rw [← e]
        exact hprobe
      rw [hfrom2, hprobe']
      dsimp only
      refine wpAny_pure (no fun hm => ?_)
      obtain ⟨y, hy, hk⟩ := List.mem_map.mp hm
      obtain ⟨i, hi⟩ := List.getElem?_of_mem hy
      obtain ⟨c', l1, l2, l3⟩ := hleft i y hi hk
      refine hnone (c' - c) i (by omega) ?_ ((hash hi).trans (congrArg (thash P w) hk))
      rw [ej, show c + (c' - c) = c' by omega]
      exact l3
theorem seekAdd (Z : Zt P w s.heap a L es ep t) (hx : IsT P w s.heap k x) (hu : A.units < cLine) {Q : SetFound → Shared → Prop} (yes : k ∈ L.map (·.2) → Q (.there none) s)
    (no : ∀ K, k ∉ L.map (·.2) → way t.mask (thash P w k) K ∉ t.place.toList → (∀ c, c < K → way t.mask (thash P w k) c ∈ t.place.toList) → Q (.free (way t.mask (thash P w k) K) false) s) : wpAny (model P w) A (setSearch a (.ref x) (thash P w k) true) Q E s := by
  have hr := Z.rm
  obtain ⟨K, h1, h2, h3⟩ := Z.tb.gap (by rw [List.length_map]; omega) (thash P w k)
  have hm := Z.tb.msk.le
  have ht : SetTable.turns t.mask = t.mask + 15 := rfl
  refine seek Z hx hu h2 h1 h3 yes (fun h => no K h h2 h3) 100000 0 none rfl (Nat.zero_le _) (by omega) fun i q hq hk => ?_
  obtain ⟨j, hj⟩ : ∃ j, t.place.toList[i]? = some j := by
    have l1 := (List.getElem?_eq_some_iff.mp hq).1
    have l2 : t.place.toList.length = L.length := Z.tnum
    exact ⟨_, List.getElem?_eq_getElem (by omega)⟩
  obtain ⟨c, hc, e⟩ := Z.tb.ahead h2 (i := i) (by rw [List.getElem?_map, hq, ← hk]; rfl) hj
  exact ⟨c, Nat.zero_le _, hc, by rw [hj, e]⟩
end
end Zs

namespace Zs
open PySem PySem.Spec PyProof.Rows L2
section
variable {P : Program} {w : World} {A : Around} {E : Value → Shared → Prop} {s : Shared} {a x : Addr} {L : Mem} {es : Array (Int × Value)} {ep : Nat} {t : SetTable} {k : List Int}
theorem order_num {es : Array (Int × Value)} {order : Array Nat} {L2 : Mem} (h : (order.filterMap (es[·]?)).toList = rowsOf P w L2) : (order.filterMap (es[·]?)).size = L2.length := rows_num h
/-- a larger table -/
theorem larger {o : Obj} (hget : s.heap.get? a = some o) (hex : o.ExactSet) (hdat : o.data = .set es ep t) (hrs : es.toList = rowsOf P w L) (hpn : t.place.size = es.size) (hdm : t.dummies = #[]) (hle : es.size ≤ t.mask)
    (nod : (L.map (·.2)).Nodup) (htp : ∀ q ∈ L, IsT P w s.heap q.2 q.1) (hpl : t.plain = true) (hld : w.params.followText "set-order" = true ∨ t.led = true) {wanted M : Nat} (hw : SetTable.sizeAbove wanted = M + 1) (hM : Mk M) (hroom : L.length * 5 < M * 3)
    {Q : Unit → Shared → Prop} (fin : ∀ h' L' es' ep' t', Heap.SameBut a s.heap h' → Zt P w h' a L' es' ep' t' → L'.Perm L → Q () { s with heap := h' }) : wpAny (model P w) A (setRelay a wanted) Q E s := by
  have en := rows_num hrs
  have hMle := hM.le
  obtain ⟨t2, order, e, pm, T, e1, e2, e3⟩ := anew t (hs := es.map (·.1)) (wanted := wanted) (M := M) (by omega) hM (by rw [Array.size_map, en]; omega)
  rw [Array.size_map, en] at pm
  obtain ⟨L3, r1, r2, r3⟩ := order_rows L es order hrs pm
  have n3 : L3.length = L.length := r2.length_eq
  have on := order_num r1
  rw [← r3] at T
  rw [setRelay_eq]
  refine wpAny_bind (wpAny_setState_of hget hdat (fits_if hpn hdm hle) ?_)
  dsimp only
  have big : (2048 : Nat) ≤ sizeLine := by decide
  refine wp_if_neg (by omega) ?_
  rw [e]
  dsimp only
  refine wpAny_bind (wp_if_neg (by rw [on, n3, en]; simp) (wpAny_pure ?_))
  dsimp only
  refine wpAny_storeSet_of hget hdat ?_ (by rw [on, n3]; omega)
  have sb : Heap.SameBut a s.heap (s.heap.update a (Obj.putSet (order.filterMap (es[·]?)) t2)) := Heap.SameBut.update s.heap a _
  exact fin _ L3 _ (ep + 1) t2 sb ⟨⟨_, store_at hget hdat, ⟨hex.1, hex.2.1, hex.2.2⟩, rfl⟩, r1, T, (r2.map (·.2)).nodup_iff.mpr nod, fun q hq => isT_same (htp q (r2.mem_iff.mp hq)) hget hdat sb, e3.trans hpl, hld.imp id fun z => e2.trans z, by rw [n3, e1]; exact hroom⟩ r2
theorem sizes : SetTable.sizeAbove (SetTable.grown 5) = 32 ∧ SetTable.sizeAbove (SetTable.grown 19) = 128 ∧ SetTable.sizeAbove (SetTable.grown 77) = 512 ∧ SetTable.sizeAbove (SetTable.grown 307) = 2048 := by decide +kernel
/-- x, a tuple of the ints k, is added -/
theorem added (Z : Zt P w s.heap a L es ep t) (hx : IsT P w s.heap k x) (hu : A.units < cLine) (hmany : L.length < 1200) {Q : Bool → Shared → Prop}
    (fin : ∀ b h' L' es' ep' t', Heap.SameBut a s.heap h' → Zt P w h' a L' es' ep' t' → (k ∈ L.map (·.2) → L' = L) → (k ∉ L.map (·.2) → L'.Perm ((x, k) :: L)) → Q b { s with heap := h' }) :
    wpAny (model P w) A (setAddHashed a (.ref x) (thash P w k)) Q E s := by
  obtain ⟨o, hget, hex, hdat⟩ := Z.ob
  have en := Z.num
  have hrm := Z.rm
  unfold setAddHashed
  refine wpAny_holding ?_
  rw [show (100000 : Nat) = 99999 + 1 from rfl, setAddHashedIn_succ]
  refine wpAny_bind (wpAny_setState_of hget hdat Z.fit ?_)
  dsimp only
  refine wp_if_neg (by simp [byScan, Value.scannable]) ?_
  refine wpAny_bind (seekAdd Z hx hu (fun hm => ?_) fun K hm hK hKb => ?_)
  · dsimp only
    exact wpAny_pure (fin false s.heap L es ep t (Heap.SameBut.refl a s.heap) Z (fun _ => rfl) fun n => absurd hm n)
  dsimp only
  refine wpAny_bind (wpAny_setState_of hget hdat Z.fit ?_)
  dsimp only
  obtain ⟨b1, b2, b3⟩ := Z.tb.lay hK hKb
  rw [List.length_map] at b1 b3
  have em : (t.put (way t.mask (thash P w k) K)).1.mask = t.mask := rfl
  have el : (t.put (way t.mask (thash P w k) K)).1.led = t.led := rfl
  have epl : (t.put (way t.mask (thash P w k) K)).1.plain = true := Z.pl
  have e2 : (t.put (way t.mask (thash P w k) K)).2 = SetTable.below t.place (way t.mask (thash P w k) K) := rfl
  generalize t.put (way t.mask (thash P w k) K) = pt at b2 b3 em el epl e2 ⊢
  obtain ⟨t1, at_⟩ := pt
  dsimp only at b2 b3 em el epl e2 ⊢
  rw [← e2] at b1 b2
  refine wp_if_pos epl (wpAny_bind (hashBy_tup hx ?_))
  simp only [if_true]
  have hrs : (SetTable.insertAt es at_ (thash P w k, Value.ref x)).toList = rowsOf P w (L.take at_ ++ (x, k) :: L.drop at_) := by
    rw [SetTable.toList_insertAt, rows_put, Z.rs]
  have pm := put_perm L at_ (x, k)
  have ehash : (L.take at_ ++ (x, k) :: L.drop at_).map (fun q => thash P w q.2) = (L.map fun q => thash P w q.2).take at_ ++ thash P w k :: (L.map fun q => thash P w q.2).drop at_ := by
    simp
  rw [← ehash] at b2
  generalize SetTable.insertAt es at_ (thash P w k, Value.ref x) = es1 at hrs ⊢
  generalize L.take at_ ++ (x, k) :: L.drop at_ = L1 at pm b2 hrs
  have n1 : L1.length = L.length + 1 := pm.length_eq
  have en1 := rows_num hrs
  have nod : (L1.map (·.2)).Nodup := (pm.map (·.2)).nodup_iff.mpr (List.nodup_cons.mpr ⟨hm, Z.nd⟩)
  have big : (2048 : Nat) ≤ sizeLine := by decide
  refine wpAny_bind (wpAny_storeSet_of hget hdat ?_ (by omega))
  have sb : Heap.SameBut a s.heap (s.heap.update a (Obj.putSet es1 t1)) := Heap.SameBut.update s.heap a _
  have hget1 := store_at (es' := es1) (t' := t1) hget hdat
  generalize s.heap.update a (Obj.putSet es1 t1) = h1 at sb hget1 ⊢
  have htp : ∀ q ∈ L1, IsT P w h1 q.2 q.1 := fun q hq => by
    rcases List.mem_cons.mp (pm.mem_iff.mp hq) with e | e
    · rw [e]
      exact isT_same hx hget hdat sb
    · exact isT_same (Z.tp q e) hget hdat sb
  have hld : w.params.followText "set-order" = true ∨ t1.led = true := by rw [el]; exact Z.ld
  have hdm := b2.nd
  have full : t1.tooFull = decide ((L.length + 1) * 5 ≥ t.mask * 3) := by
    unfold SetTable.tooFull SetTable.fill
    rw [hdm, b3, em]
    rfl
  by_cases c : (L.length + 1) * 5 ≥ t.mask * 3
  · rw [decide_eq_true c] at full
    refine wp_if_pos (by simp [full]) ?_
    have four : (t.mask = 7 ∧ L.length = 4) ∨ (t.mask = 31 ∧ L.length = 18) ∨ (t.mask = 127 ∧ L.length = 76) ∨ (t.mask = 511 ∧ L.length = 306) := by
      rcases Z.tb.msk.cases with e | e | e | e | e <;> rw [e] at c hrm <;> omega
    have next : ∃ M, SetTable.sizeAbove (SetTable.grown (es.size + 1)) = M + 1 ∧ Mk M ∧ L1.length * 5 < M * 3 := by
      rw [en, n1]
      rcases four with ⟨_, e⟩ | ⟨_, e⟩ | ⟨_, e⟩ | ⟨_, e⟩ <;> rw [e]
      · exact ⟨31, sizes.1, mk31, by decide⟩
      · exact ⟨127, sizes.2.1, mk127, by decide⟩
      · exact ⟨511, sizes.2.2.1, mk511, by decide⟩
      · exact ⟨2047, sizes.2.2.2, mk2047, by decide⟩
    obtain ⟨M, w1, w2, w3⟩ := next
    refine wpAny_bind (larger (s := { s with heap := h1 }) hget1 ⟨hex.1, hex.2.1, hex.2.2⟩ rfl hrs (by omega) hdm (by rw [em]; omega) nod htp epl hld w1 w2 w3 fun h2 L3 es3 ep3 t3 sb3 Z3 pm3 => ?_)
    exact wpAny_pure (fin true h2 L3 es3 ep3 t3 (sb.trans sb3) Z3 (fun z => absurd z hm) fun _ => pm3.trans pm)
  · rw [decide_eq_false c] at full
    refine wp_if_neg (by simp [full]) ?_
    exact wpAny_pure (fin true h1 L1 es1 (ep + 1) t1 sb ⟨⟨_, hget1, ⟨hex.1, hex.2.1, hex.2.2⟩, rfl⟩, hrs, b2, nod, htp, epl, hld, by rw [n1, em]; omega⟩ (fun z => absurd z hm) fun _ => pm)
/-- the method add, given a tuple -/
theorem call_add (Z : Zt P w s.heap a L es ep t) (hx : IsT P w s.heap k x) (hu : A.in1.units < cLine) (hmany : L.length < 1200) {Q : Value → Shared → Prop}
    (fin : ∀ h' L' es' ep' t' n, Heap.SameBut a s.heap h' → Zt P w h' a L' es' ep' t' → (k ∈ L.map (·.2) → L' = L) → (k ∉ L.map (·.2) → L'.Perm ((x, k) :: L)) → Q .none { s with heap := h', toks := n }) :
    wpAny (model P w) A (call (.builtin "set.add") [.ref a, .ref x]) Q E s := by
  obtain ⟨o, hget, hex, hdat⟩ := Z.ob
  refine wpAny_call_entry F.slot_set_add ⟨o, hget, hex.1⟩ F.entry_set_add ?_ (F.args_set_add_2 _ _)
  unfold Builtin.«set.add» Builtin.Frozenset.oneOther
  simp only [List.isEmpty_nil, bind_assoc]
  unfold Builtin.Frozenset.addrOf setAdd
  refine wpAny_bind (wpAny_pure ?_)
  try dsimp only
  refine wpAny_bind (wpAny_pure ?_)
  try dsimp only
  refine wpAny_bind (wpAny_holding ?_)
  refine wpAny_bind (wpAny_pyHash_tuple hu hx ?_)
  refine added (s := { s with toks := s.toks + (k.length + 1) }) Z hx hu hmany fun b h' L' es' ep' t' sb Z' c1 c2 => ?_
  show wpAny _ _ (ret Value.none) _ _ _
  exact wpAny_pure ⟨_, rfl, fin h' L' es' ep' t' _ sb Z' c1 c2⟩
end
end Zs

namespace Zs
open PySem PySem.Spec PyProof.Rows L2
/-! ### sorted of a set whose members are known as data -/
theorem perm_map {α β : Type} {f : α → β} {l m : List β} (h : l.Perm m) : ∀ {L : List α}, m = L.map f → ∃ L' : List α, l = L'.map f ∧ L'.Perm L := by
  induction h with
  | nil =>
    intro L e
    cases L with
    | nil => exact ⟨[], rfl, .refl _⟩
    | cons y L => cases e
  | cons z _ ih =>
    intro L e
    cases L with
    | nil => cases e
    | cons y L =>
      rw [List.map_cons] at e
      injection e with e1 e2
      obtain ⟨L', rfl, p⟩ := ih e2
      exact ⟨y :: L', by rw [e1]; rfl, p.cons y⟩
  | swap y z l =>
    intro L e
    match L, e with
    | u :: v :: L, e =>
      rw [List.map_cons, List.map_cons] at e
      injection e with e1 e2
      injection e2 with e2 e3
      exact ⟨v :: u :: L, by rw [e1, e2, e3]; rfl, .swap _ _ _⟩
  | trans _ _ ih1 ih2 =>
    intro L e
    obtain ⟨L1, e1, p1⟩ := ih2 e
    obtain ⟨L2, e2, p2⟩ := ih1 e1
    exact ⟨L2, e2, p2.trans p1⟩
section
variable {P : Program} {w : World} {A : Around} {E : Value → Shared → Prop} {s : Shared}
/-- a set that can be walked: its members vs -/
def Wkb (w : World) (h : Heap) (a : Addr) (vs : List Value) : Prop := ∃ o es ep t, h.get? a = some o ∧ o.cls = .type "set" ∧ o.data = .set es ep t ∧ t.fits es.size = true ∧ es.size < scanBound ∧ Ris t.place.toList ∧
  (w.params.followText "set-order" = true ∨ t.led = true) ∧ es.toList.map (·.2) = vs
theorem Zt.wkb {a : Addr} {L : Mem} {es : Array (Int × Value)} {ep : Nat} {t : SetTable} (Z : Zt P w s.heap a L es ep t) : Wkb w s.heap a (L.map fun q => .ref q.1) := by
  obtain ⟨o, h1, h2, h3⟩ := Z.ob
  have hf := Z.few
  refine ⟨o, es, ep, t, h1, h2.1, h3, Z.fit, by rw [Z.num]; unfold scanBound; omega, Z.tb.up, Z.ld, ?_⟩
  rw [Z.rs]
  simp [rowsOf]
theorem sortedW {β : Type} {a : Addr} {L : List β} {f : β → Value} {enc : β → PyData} {Q : Value → Shared → Prop} (W : Wkb w s.heap a (L.map f)) (hh : A.handled = none) (hal : ∀ x y, PySem.W.alike (enc x) (enc y) = true)
    (hk : ∀ M : List β, M.Perm L → PySem.W.Sortable (M.map enc)) (hr : ∀ x ∈ L, ∀ h' : Heap, (∀ b o, s.heap.get? b = some o → h'.get? b = some o) → PySem.Reads h' (f x) (enc x) []) (hu : ∀ x ∈ L, A.units + 4 + (enc x).depth < cLine)
    (fin : ∀ s' p (out : Array Value) (c : Nat) (M : List β), (∀ b o, s.heap.get? b = some o → s'.heap.get? b = some o) → s'.gens = s.gens → s'.os = s.os → s.heap.objs.size ≤ p → s'.heap.get? p = some (seqObj "list" out c) →
      M.Perm L → out.toList = (M.mergeSort (PySem.W.dataLe false enc)).map f → Q (.ref p) s') : wpAny (model P w) A (call (.builtin "sorted") [.ref a]) Q E s := by
  obtain ⟨o, es, ep, t, hget, hcls, hdat, hfit, hsz, hris, hled, hvs⟩ := W
  refine Calls.call_function_entry kind_sorted plain_sorted entry_sorted (args_sorted1 _) ?_
  unfold Builtin.«sorted»
  refine wpAny_bind (m := checkCount "sorted" 1 1 _) (wpAny_pure ?_)
  refine wpAny_bind (collect_set (A := A.in1) hh ⟨o, hget, hcls, hdat⟩ hfit hsz hris hled fun s1 out0 keep hgrow hgen hos pm => ?_)
  rw [hvs] at pm
  obtain ⟨M, rfl, pM⟩ := perm_map pm rfl
  have hnum : M.length ≤ sizeLine := by
    have e := congrArg List.length hvs
    rw [List.length_map, List.length_map, Array.length_toList] at e
    rw [pM.length_eq, ← e]
    exact fits_of_scanBound hsz
  refine wpAny_bind (wpAny_newList ?_ (by rw [List.length_map]; exact hnum))
  have hnew : (s1.heap.push (seqObj "list" (M.map f).toArray 0)).get? s1.heap.objs.size = some (seqObj "list" (M.map f).toArray 0) := Heap.get?_push_size _ rfl
  have each : ∀ M' : List β, (∀ x ∈ M', x ∈ L) → PySem.W.EachIs (fun v x => v = f x) (M'.map f) M' ∧ PySem.W.EachIs (fun v x => ∃ as, PySem.Reads (s1.heap.push (seqObj "list" (M.map f).toArray 0)) v (enc x) as ∧ s1.heap.objs.size ∉ as) (M'.map f) M' := by
    intro M'
    induction M' with
    | nil => intro _; exact ⟨.nil, .nil⟩
    | cons x M' ih =>
      intro hx
      obtain ⟨i1, i2⟩ := ih fun y hy => hx y (List.mem_cons_of_mem _ hy)
      exact ⟨.cons rfl i1, .cons ⟨[], hr x (hx x List.mem_cons_self) _ (fun b u e => Heap.get?_push_of_some _ (keep b u e)), by simp⟩ i2⟩
  obtain ⟨ea, eb⟩ := each M fun x hx => pM.mem_iff.mp hx
  refine wpAny_bind (wpAny_holding (PySem.W.list_sort_data (s := { s1 with heap := s1.heap.push (seqObj "list" (M.map f).toArray 0) }) (enc := enc) (R := fun v x => v = f x) hnew ea eb (PySem.W.AllAlike.of hal) (hk M pM) hnum (fun x hx => ?_) fun out ho hout => ?_))
  · have := hu x (pM.mem_iff.mp hx)
    simp only [units_in1]
    omega
  have eout : out = (M.mergeSort (PySem.W.dataLe false enc)).map f := by
    generalize M.mergeSort (PySem.W.dataLe false enc) = N at hout
    clear ho
    induction hout with
    | nil => rfl
    | cons h1 _ ih => rw [List.map_cons, h1, ih]
  obtain ⟨c, hc⟩ := PyProof.Rows.sortedHeap_at (vs := M.map f) (out := out.toArray) hnew
  refine wpAny_pure ⟨_, rfl, fin _ s1.heap.objs.size out.toArray c M (fun b u e => ?_) hgen hos hgrow hc pM (by simpa using eout)⟩
  have e1 := keep b u e
  have hlt : b < s1.heap.objs.size := Heap.lt_size e1
  show (PyProof.Rows.sortedHeap (s1.heap.push (seqObj "list" (M.map f).toArray 0)) s1.heap.objs.size (M.map f) out.toArray).get? b = some u
  rw [PyProof.Rows.sortedHeap_old (Nat.ne_of_lt hlt) (by rw [size_push']; exact Nat.lt_succ_of_lt hlt)]
  exact Heap.get?_push_of_some _ e1
end
/-! ### the rules -/
def ZO (P : Program) (w : World) (a : Addr) (L : Mem) : HO := .ext fun h => ∃ es ep t, (∃ o, h.get? a = some o ∧ o.ExactSet ∧ o.data = .set es ep t) ∧ es.toList = rowsOf P w L ∧ Tb t (L.map fun q => thash P w q.2) ∧ (L.map (·.2)).Nodup ∧ t.plain = true ∧
  (w.params.followText "set-order" = true ∨ t.led = true) ∧ L.length * 5 < t.mask * 3
section
variable {X : Cx} {pins : List (Addr × Obj)} {σ : L2.St} {H : Hp} {s : Shared} {a : Addr} {L : Mem} {P : Program} {w : World}
theorem zo_new {h : Heap} {es : Array (Int × Value)} {ep : Nat} {t : SetTable} (Z : Zt P w h a L es ep t) : ObjOk P w H h a (ZO P w a L) := by
  obtain ⟨o, h1, h2⟩ := Z.ob
  refine ⟨⟨es, ep, t, ⟨o, h1, h2⟩, Z.rs, Z.tb, Z.nd, Z.pl, Z.ld, Z.rm⟩, ⟨o, h1⟩, fun g1 g2 q keep => ?_⟩
  obtain ⟨es', ep', t', ⟨o', k1, k2⟩, r⟩ := q
  exact ⟨es', ep', t', ⟨o', keep o' k1, k2⟩, r⟩
theorem zo_get (I : Inv X pins σ H s) (ha : H a = some (ZO X.prog X.w a L)) (ht : ∀ q ∈ L, SqT X.K H q.1 (q.2.map V.int)) : ∃ es ep t, Zt X.prog X.w s.heap a L es ep t := by
  have R := (I.hok a _ ha).1
  obtain ⟨es, ep, t, h1, h2, h3, h4, h5, h6, h7⟩ := (show ∃ es ep t, (∃ o, s.heap.get? a = some o ∧ o.ExactSet ∧ o.data = .set es ep t) ∧ es.toList = rowsOf X.prog X.w L ∧ Tb t (L.map fun q => thash X.prog X.w q.2) ∧ (L.map (·.2)).Nodup ∧ t.plain = true ∧ (X.w.params.followText "set-order" = true ∨ t.led = true) ∧ L.length * 5 < t.mask * 3 from R)
  exact ⟨es, ep, t, h1, h2, h3, h4, fun q hq => I.isT (ht q hq), h5, h6, h7⟩
/-- set() -/
def rZ0 (P : Program) (w : World) : List V → Hp → VK → Prop := fun vs H Q => vs = [] ∧ ∀ p, H p = none → Q (.ref p) (upd H p (ZO P w p []))
theorem cr_Z0 : CallR X (.type "set") (rZ0 X.prog X.w) := by
  intro pins s σ H vs us Q I r h
  obtain ⟨e, q⟩ := h
  subst e
  cases r
  refine setR_new fun _ => ?_
  have hn : H s.heap.objs.size = none := I.hok.fresh (Nat.le_refl _)
  have hld : X.w.params.followText "set-order" = true ∨ (SetTable.fresh 0 0 (!X.w.params.followText "set-order")).led = true := by
    show _ ∨ (!X.w.params.followText "set-order") = true
    cases X.w.params.followText "set-order" <;> simp
  have Z : Zt X.prog X.w (s.heap.push { cls := .type "set", dict := none, data := .set #[] 0 (.fresh 0 0 (!X.w.params.followText "set-order")) }) s.heap.objs.size [] #[] 0 (.fresh 0 0 (!X.w.params.followText "set-order")) :=
    ⟨⟨_, Heap.get?_push_size _ rfl, ⟨rfl, rfl, rfl⟩, rfl⟩, rfl, ⟨List.Pairwise.nil, rfl, rfl, mk7, fun x hx => (by cases hx), fun i z j hi => (by simp at hi)⟩, List.nodup_nil, fun q hq => (by cases hq), rfl, hld, by show 0 * 5 < 7 * 3; decide⟩
  exact ⟨.ref s.heap.objs.size, _, I.laid (t' := s.toks) (fun b u e => Heap.get?_push_of_some _ e) (Nat.le_refl _) (zo_new Z), rfl, q _ hn⟩
/-- found.add(t), t a tuple of ints -/
def rZAdd (K : PySem.W.Frag) (P : Program) (w : World) : V → List V → Hp → VK → Prop := fun x vs H Q => ∃ (a p : Addr) (k : List Int) (L : Mem), x = .ref a ∧ vs = [.ref p] ∧ H a = some (ZO P w a L) ∧ SqT K H p (k.map V.int) ∧ (∀ q ∈ L, SqT K H q.1 (q.2.map V.int)) ∧ L.length < 1200 ∧
  ∀ L', (k ∈ L.map (·.2) → L' = L) → (k ∉ L.map (·.2) → L'.Perm ((p, k) :: L)) → Q .non (upd H a (ZO P w a L'))
theorem mt_zadd (hu : X.A.units + 64 < cLine) : MtR X "set.add" (rZAdd X.K X.prog X.w) := by
  intro pins s σ H x vs v us Q I rx rvs h
  obtain ⟨a, p, k, L, rfl, rfl, ha, hp, ht, hmany, q⟩ := h
  cases rx
  obtain ⟨u, rfl, ru⟩ := rvs.one
  cases ru
  obtain ⟨es, ep, t, Z⟩ := zo_get I ha ht
  refine call_add Z (I.isT hp) (by simp only [units_in1]; omega) hmany fun h' L' es' ep' t' n sb Z' c1 c2 => ?_
  obtain ⟨o', ho', _⟩ := Z'.ob
  exact ⟨.non, upd H a (ZO X.prog X.w a L'), I.write (e := a) (t' := n) (by rw [ha]; trivial) (.inl rfl) (fun b u hb hu' => (sb.2 b hb).trans hu') ⟨o', ho'⟩ (zo_new Z'), rfl, q L' c1 c2⟩
def tZAdd (K : PySem.W.Frag) (P : Program) (w : World) (to : TE) (t : TA) : TE := fun σ H Q => to σ H fun x H1 => (∃ a L, x = V.ref a ∧ H1 a = some (ZO P w a L) ∧ ∀ q ∈ L, SqT K H1 q.1 (q.2.map V.int)) ∧ t σ H1 fun vs H2 => rZAdd K P w x vs H2 Q
theorem pe_zadd {o e : Expr} {es : List Expr} {to : TE} {t : TA} {apos cpos : Pos} (hu : X.A.units + 64 < cLine) (ho : PE X o to) (ha : PA X (e :: es) t) (h1 : attributeBase o "add" X.env (eval o X.env) = eval o X.env := by rfl)
    (h2 : ((backTo cpos (starEach (e :: es) X.env)).all (fun x => !x.1) && (backToKw cpos (keywordEach [] X.env)).all (fun x => x.1.isSome) && decide ((e :: es).length + ([] : List Keyword).length + (if ([] : List Keyword).isEmpty then 0 else 1) < 30)) = true := by rfl)
    (h3 : (apos.endLine == cpos.line) = true := by rfl) (h4 : starEach (e :: es) X.env = (false, eval e X.env) :: starEach es X.env := by rfl) (h5 : (backTo cpos (starEach es X.env)).any (·.1) = false := by rfl) :
    PE X (.Call (.Attribute o "add" apos) (e :: es) [] cpos) (tZAdd X.K X.prog X.w to t) := by
  refine ⟨fun pins s σ H Q I h => wpAny_Call_method_late h1 h2 h3 rfl (thn (ho.run pins s σ H _ I h) fun v st ⟨x, H1, I1, rx, tyx, rest⟩ => ?_)⟩
  obtain ⟨a, L, rfl, hz, ht⟩ := tyx
  cases rx
  obtain ⟨es0, ep, tt, Z⟩ := zo_get I1 hz ht
  obtain ⟨ob, hob, hex, _⟩ := Z.ob
  refine ⟨"set", "set.add", F.plainAttrs_set, F.slot_set_add, F.type_set_add, ⟨ob, hob, hex.1⟩, (fun b hb => ?_), ?_⟩
  · cases hb
    exact ⟨ob, hob, hex.2.1⟩
  have args := ha.run cpos pins st σ H1 _ I1 rest
  rw [h4] at args ⊢
  refine Calls.callWith_builtin (by show (false || (backTo cpos (starEach es X.env)).any (·.1)) = false; rw [h5]; rfl) (Calls.evalArgs_plain (thn args fun us s2 ⟨vs, H2, I2, r2, q2⟩ => ?_))
  exact mt_zadd hu pins s2 σ H2 (.ref a) vs (.ref a) us Q I2 rfl r2 q2
/-- sorted(found), the members tuples of ints, none of them empty -/
def intsD (k : List Int) : PyData := .tuple (k.map .int)
theorem ints_alike (k l : List Int) : PySem.W.alike (intsD k) (intsD l) = true := by
  show PySem.W.alikeAll _ _ = true
  exact PySem.W.alike_ints k l
theorem ints_depth (k : List Int) : (intsD k).depth = 1 := by
  simp [intsD, PyData.depth, PySem.W.depth_ints]
theorem reads_ints {h : Heap} : ∀ {k : List Int} {vs : List Value}, ItemsAre (intKind P w) k vs → PySem.ReadsAll h vs (k.map .int) []
  | [], _, .nil => .nil
  | n :: k, _, .cons r t => by
    obtain ⟨tk, e⟩ := Value.isInt_shape r
    subst e
    exact .cons (as := []) (bs := []) (.int n tk) (reads_ints t)
theorem isT_reads {h h' : Heap} {k : List Int} {b : Addr} (x : IsT P w h k b) (keep : ∀ c o, h.get? c = some o → h'.get? c = some o) : PySem.Reads h' (.ref b) (intsD k) [] := by
  obtain ⟨o, items, n, h1, h2, h3, h4⟩ := x
  exact .tuple (keep _ _ h1) h2 h3 (reads_ints h4)
def rZSort (K : PySem.W.Frag) (P : Program) (w : World) : List V → Hp → VK → Prop := fun vs H Q => ∃ (a : Addr) (L : Mem), vs = [.ref a] ∧ H a = some (ZO P w a L) ∧ (∀ q ∈ L, SqT K H q.1 (q.2.map V.int)) ∧ (∀ q ∈ L, q.2 ≠ []) ∧
  ∀ (M : Mem) (p : Addr), M.Perm L → (M.map (·.2)).Nodup → H p = none → Q (.ref p) (upd H p (.lst ((M.mergeSort (PySem.W.dataLe false fun q => intsD q.2)).map fun q => V.ref q.1)))
theorem refsM : ∀ M : Mem, Vals (M.map fun q => V.ref q.1) (M.map fun q => Value.ref q.1)
  | [] => .nil
  | _ :: M => .cons rfl (refsM M)
theorem cr_ZSort (hc : X.calm = true) (hu : X.A.units + 64 < cLine) : CallR X (.builtin "sorted") (rZSort X.K X.prog X.w) := by
  intro pins s σ H vs us Q I r h
  obtain ⟨a, L, rfl, ha, ht, hne, q⟩ := h
  obtain ⟨es, ep, t, Z⟩ := zo_get I ha ht
  obtain ⟨u, rfl, ru⟩ := vals1 r
  obtain rfl : u = Value.ref a := ru
  refine sortedW (enc := fun q => intsD q.2) Z.wkb (I.ok.hd hc) (fun x y => ints_alike _ _) (fun M pm => .inl fun d hd => ?_) (fun x hx h' keep => isT_reads (Z.tp x hx) keep) (fun x _ => by rw [ints_depth]; omega) fun s' p out c M keep hgen hos hp hget pm hout => ?_
  · obtain ⟨x, hx, rfl⟩ := List.mem_map.mp hd
    cases e : x.2 with
    | nil => exact absurd e (hne x (pm.mem_iff.mp hx))
    | cons n k => exact ⟨.int n, k.map .int, rfl⟩
  have hn : H p = none := I.hok.fresh hp
  have len : ((M.mergeSort (PySem.W.dataLe false fun q => intsD q.2)).map fun q => V.ref q.1).length ≤ sizeLine := by
    rw [List.length_map, List.length_mergeSort, pm.length_eq]
    have := Z.few
    exact Nat.le_trans (by omega : _ ≤ 2000) (by decide)
  have vals : Vals ((M.mergeSort (PySem.W.dataLe false fun q => intsD q.2)).map fun q => V.ref q.1) out.toList := by
    rw [hout]
    exact refsM _
  have J : Inv X pins σ (upd H p (.lst ((M.mergeSort (PySem.W.dataLe false fun q => intsD q.2)).map fun q => V.ref q.1))) { s with heap := s'.heap, gens := s'.gens, drawn := s'.drawn, toks := s'.toks } :=
    I.call (ch := []) (Un.laid keep hp hn) (I.hok.laid keep hp ⟨len, out.toList, c, vals, hget⟩) (by rw [hgen]; exact I.bare) fun _ z => nomatch z
  have same : s' = { s with heap := s'.heap, gens := s'.gens, drawn := s'.drawn, toks := s'.toks } := by
    cases s'
    cases hos
    rfl
  rw [same]
  exact ⟨.ref p, _, J, rfl, q M p pm ((pm.map (·.2)).nodup_iff.mpr Z.nd) hn⟩
end
end Zs

namespace Zs
open PySem PySem.Spec PyProof.Rows L2
/-! ### the set of a text's signs -/
abbrev TxM := List (Str × Tok)
def txR (w : World) (q : Str × Tok) : Int × Value := (hashStr w q.1, .str q.1 q.2)
def Ztx (w : World) (h : Heap) (a : Addr) (L : TxM) : Prop := ∃ o es ep t, h.get? a = some o ∧ o.ExactSet ∧ o.data = .set es ep t ∧ es.toList = L.map (txR w) ∧ (L.map (·.1)).Nodup ∧ t.fits es.size = true ∧ Ris t.place.toList ∧ (w.params.followText "set-order" = true ∨ t.led = true)
section
variable {P : Program} {w : World} {A : Around} {E : Value → Shared → Prop} {s : Shared} {a : Addr} {L : TxM} {z : Str} {u : Tok}
theorem tx_elems (L : TxM) : ElemsOf (PySem.strKind P w) (L.map (txR w)) := fun e he => by
  obtain ⟨q, _, rfl⟩ := List.mem_map.mp he
  exact ⟨⟨q.1, Froz.is_str q.1 q.2, rfl⟩, rfl⟩
theorem tx_num {L : TxM} {es : Array (Int × Value)} (h : es.toList = L.map (txR w)) : es.size = L.length := by
  have e := congrArg List.length h
  simpa using e
theorem Ztx.keep {h h' : Heap} (Z : Ztx w h a L) (k : ∀ o, h.get? a = some o → h'.get? a = some o) : Ztx w h' a L := by
  obtain ⟨o, es, ep, t, h1, r⟩ := Z
  exact ⟨o, es, ep, t, k o h1, r⟩
theorem Ztx.add (Z : Ztx w s.heap a L) (hmany : L.length < 4000) {Q : Bool → Shared → Prop} (fin : ∀ b h' L', Heap.SameBut a s.heap h' → Ztx w h' a L' → (z ∈ L.map (·.1) → L' = L) → (z ∉ L.map (·.1) → L'.Perm ((z, u) :: L)) → Q b { s with heap := h' }) :
    wpAny (model P w) A (setAddHashed a (.str z u) (hashStr w z)) Q E s := by
  obtain ⟨o, es, ep, t, hget, hex, hdat, hrs, hnod, hfit, hris, hled⟩ := id Z
  have en := tx_num hrs
  have hel : ElemsOf (PySem.strKind P w) es.toList := by rw [hrs]; exact tx_elems L
  have few : es.size < scanBound := by unfold scanBound; omega
  have isz : (PySem.strKind P w).is z (.str z u) = true := Froz.is_str z u
  have gw : ∀ (b : Bool) {s1 : Shared} {Q' : Unit → Shared → Prop}, Q' () s1 → wpAny (model P w) A (match b with | true => rule "set.scan.the-table-gave-way" | false => pure ()) Q' E s1 := fun b _ _ h => by
    cases b
    · exact wpAny_pure h
    · exact wpAny_rule h
  unfold setAddHashed setAddHashedIn
  refine wpAny_holding (wpAny_bind (wpAny_setState_of hget hdat hfit ?_))
  dsimp only
  rw [byScan_of (knd := PySem.strKind P w) rfl few hel]
  simp only [↓reduceIte]
  unfold setAddByScan
  refine wpAny_bind (wpAny_bind (wpAny_rule (wpAny_bind (wpAny_setScan_of (knd := PySem.strKind P w) isz hget hdat hfit hel ?_))))
  cases hfi : List.findIdx? (fun e => (PySem.strKind P w).is z e.2) es.toList with
  | some j =>
    dsimp only
    obtain ⟨hj, hz, _⟩ := List.findIdx?_eq_some_iff_getElem.mp hfi
    have hm : z ∈ L.map (·.1) := by
      have h1 : es.toList[j] ∈ L.map (txR w) := by rw [← hrs]; exact List.getElem_mem hj
      obtain ⟨q, hq, e⟩ := List.mem_map.mp h1
      rw [← e] at hz
      have e2 := (PySem.strKind P w).inj (.str q.1 q.2) z q.1 hz (Froz.is_str q.1 q.2)
      exact List.mem_map.mpr ⟨q, hq, e2.symm⟩
    exact wpAny_pure (wpAny_pure (fin false s.heap L (Heap.SameBut.refl a s.heap) Z (fun _ => rfl) fun n => absurd hm n))
  | none =>
    dsimp only
    have hm : z ∉ L.map (·.1) := fun h => by
      obtain ⟨q, hq, e⟩ := List.mem_map.mp h
      have h1 := List.findIdx?_eq_none_iff.mp hfi (txR w q) (by rw [hrs]; exact List.mem_map.mpr ⟨q, hq, rfl⟩)
      have h2 : (PySem.strKind P w).is z (.str q.1 q.2) = true := by rw [← e]; exact Froz.is_str q.1 q.2
      have h3 : (PySem.strKind P w).is z (txR w q).2 = true := h2
      rw [h3] at h1
      cases h1
    have pm := layNew_perm t es (hashStr w z) (.str z u)
    have ft := layNew_fits t es (hashStr w z) (.str z u)
    have rs := layNew_ris t es (hashStr w z) (.str z u) hris
    have ld := layNew_led t es (hashStr w z) (.str z u)
    generalize layNew t es (hashStr w z) (.str z u) = N at pm ft rs ld ⊢
    obtain ⟨es1, t1, wd, gv⟩ := N
    dsimp only at pm ft rs ld ⊢
    have pm2 : es1.toList.Perm (((z, u) :: L).map (txR w)) := by
      rw [Array.toList_push, hrs] at pm
      exact pm.trans (List.perm_append_singleton _ _)
    obtain ⟨L1, e1, pL1⟩ := perm_map pm2 rfl
    have n1 : L1.length = L.length + 1 := pL1.length_eq
    have en1 := tx_num e1
    have few1 : es1.size < scanBound := by unfold scanBound; omega
    have nod1 : (L1.map (·.1)).Nodup := (pL1.map (·.1)).nodup_iff.mpr (List.nodup_cons.mpr ⟨hm, hnod⟩)
    have hled1 : w.params.followText "set-order" = true ∨ t1.led = true := hled.imp id fun h => by rw [ld]; exact h
    have fin' : ∀ h' L', Heap.SameBut a s.heap h' → Ztx w h' a L' → L'.Perm L1 → Q true { s with heap := h' } := fun h' L' sb Z' p => fin true h' L' sb Z' (fun h => absurd h hm) fun _ => p.trans pL1
    -- behind the laying
    have tail : ∀ t2 : SetTable, t2.fits es1.size = true → Ris t2.place.toList → (w.params.followText "set-order" = true ∨ t2.led = true) → ∀ g : Bool → Sem Unit, (∀ (b : Bool) (s1 : Shared) (Q' : Unit → Shared → Prop), Q' () s1 → wpAny (model P w) A (g b) Q' E s1) →
        wpAny (model P w) A (do
          storeSet a es1 t2
          if (!wd && t2.tooFull) = true then do
              g (relayAll t2 es1 (SetTable.grown es1.size)).2.2
              storeSet a (relayAll t2 es1 (SetTable.grown es1.size)).1 (relayAll t2 es1 (SetTable.grown es1.size)).2.1
              pure (some true)
            else pure (some true)) (fun r s' => r = some true ∧ Q true s') E s := by
      intro t2 f2 r2 l2 g hg
      have sb1 : Heap.SameBut a s.heap (s.heap.update a (Obj.putSet es1 t2)) := Heap.SameBut.update s.heap a _
      have get1 := store_at (es' := es1) (t' := t2) hget hdat
      refine wpAny_bind (wpAny_storeSet_of hget hdat ?_ (fits_of_scanBound few1))
      by_cases c : (!wd && t2.tooFull) = true
      · rw [if_pos c]
        have rp := relayAll_perm t2 es1 (SetTable.grown es1.size)
        have rf := relayAll_fits t2 es1 (SetTable.grown es1.size)
        have rr := relayAll_ris t2 es1 (SetTable.grown es1.size)
        have rl := relayAll_led t2 es1 (SetTable.grown es1.size)
        generalize relayAll t2 es1 (SetTable.grown es1.size) = N at rp rf rr rl ⊢
        obtain ⟨es2, t3, gv3⟩ := N
        dsimp only at rp rf rr rl ⊢
        rw [e1] at rp
        obtain ⟨L2, e2, pL2⟩ := perm_map rp rfl
        have en2 := tx_num e2
        have few2 : es2.size < scanBound := by rw [en2, pL2.length_eq, ← en1]; exact few1
        refine wpAny_bind (hg _ _ _ (wpAny_bind (wpAny_storeSet_of get1 rfl ?_ (fits_of_scanBound few2))))
        have get2 := store_at (es' := es2) (t' := t3) get1 rfl
        exact wpAny_pure ⟨rfl, fin' _ L2 (sb1.trans (Heap.SameBut.update _ a _)) ⟨_, es2, _, t3, get2, ⟨hex.1, hex.2.1, hex.2.2⟩, rfl, e2, (pL2.map (·.1)).nodup_iff.mpr nod1, rf, rr, l2.imp id fun h => by rw [rl]; exact h⟩ pL2⟩
      · rw [if_neg c]
        exact wpAny_pure ⟨rfl, fin' _ L1 sb1 ⟨_, es1, _, t2, get1, ⟨hex.1, hex.2.1, hex.2.2⟩, rfl, e1, nod1, f2, r2, l2⟩ (.refl _)⟩
    have up : ∀ {M : Sem (Option Bool)}, wpAny (model P w) A M (fun r s' => r = some true ∧ Q true s') E s → wpAny (model P w) A M (fun r s' => wpAny (model P w) A (match r with | some added => pure added | none => setAddHashedIn a (.str z u) (hashStr w z) 99999) Q E s') E s := fun {M} h =>
      wpAny_mono h (fun r s' ⟨er, q⟩ => by subst er; exact wpAny_pure q) fun _ _ e => e
    refine wpAny_bind (gw _ ?_)
    by_cases hp : t1.plain = true
    · rw [if_pos hp]
      refine wpAny_bind ?_
      rw [hashByValue_scannable 8 (x := Value.str z u) rfl]
      refine wpAny_pure ?_
      refine up (tail { t1 with plain := false } (SetTable.fits_plain_off ft) rs hled1 _ ?_)
      intro b s1 Q' h
      cases b
      · exact wpAny_pure h
      · exact wpAny_rule h
    · rw [if_neg hp]
      refine wpAny_bind (wpAny_pure ?_)
      simp only [↓reduceIte]
      refine up (tail t1 ft rs hled1 _ ?_)
      intro b s1 Q' h
      cases b
      · exact wpAny_pure h
      · exact wpAny_rule h
end
end Zs
namespace Zs
open PySem PySem.Spec PyProof.Rows L2
theorem str_no_set : isSubtype (.type "str") (.type "set") = pure false := by
  rw [isSubtype_type]
  kernel_rfl
theorem str_no_frozen : isSubtype (.type "str") (.type "frozenset") = pure false := by
  rw [isSubtype_type]
  kernel_rfl
/-- a set as it is made -/
abbrev newS (w : World) : Obj := { cls := .type "set", dict := none, data := .set #[] 0 (.fresh 0 0 (!w.params.followText "set-order")) }
section
variable {P : Program} {w : World} {A : Around} {E : Value → Shared → Prop} {s : Shared}
theorem ztx_new {h : Heap} {a : Addr} (e : h.get? a = some (newS w)) : Ztx w h a [] := by
  refine ⟨_, #[], 0, _, e, ⟨rfl, rfl, rfl⟩, rfl, rfl, List.nodup_nil, rfl, List.Pairwise.nil, ?_⟩
  show _ ∨ (!w.params.followText "set-order") = true
  cases w.params.followText "set-order" <;> simp
/-- the members are the first signs of x -/
def Sgn (x : Str) (i : Nat) (L : TxM) : Prop := ∀ k : Str, k ∈ L.map (·.1) ↔ ∃ j c, j < i ∧ x.cps[j]? = some c ∧ k = ⟨#[c]⟩
theorem Sgn.step {x : Str} {i c : Nat} {L L' : TxM} {u : Tok} (g : Sgn x i L) (hc : x.cps[i]? = some c) (c1 : (⟨#[c]⟩ : Str) ∈ L.map (·.1) → L' = L) (c2 : (⟨#[c]⟩ : Str) ∉ L.map (·.1) → L'.Perm ((⟨#[c]⟩, u) :: L)) : Sgn x (i + 1) L' := by
  have key : ∀ k : Str, k ∈ L'.map (·.1) ↔ k = ⟨#[c]⟩ ∨ k ∈ L.map (·.1) := fun k => by
    by_cases h : (⟨#[c]⟩ : Str) ∈ L.map (·.1)
    · rw [c1 h]
      exact ⟨.inr, fun z => z.elim (fun e => e ▸ h) id⟩
    · rw [((c2 h).map (·.1)).mem_iff, List.map_cons, List.mem_cons]
  intro k
  rw [key k, g k]
  constructor
  · rintro (e | ⟨j, d, h1, h2, h3⟩)
    · exact ⟨i, c, by omega, hc, e⟩
    · exact ⟨j, d, by omega, h2, h3⟩
  · rintro ⟨j, d, h1, h2, h3⟩
    by_cases e : j = i
    · subst e
      rw [hc] at h2
      cases h2
      exact .inl h3
    · exact .inr ⟨j, d, by omega, h2, h3⟩
theorem tx_loop {I S : Addr} {x : Str} {St : Nat → Heap → Prop} {R : Result → Shared → Prop} (W : Walks P w A.in1 I [I] [I] x.cps.size (SignAt x) St) (hSI : S ≠ I) (hx : x.cps.size < 4000) :
    ∀ (n i : Nat) (s : Shared) (L : TxM), x.cps.size - i = n → i ≤ x.cps.size → St i s.heap → Ztx w s.heap S L → Sgn x i L → L.length ≤ i →
      (∀ h' tk L', Ztx w h' S L' → Sgn x x.cps.size L' → (∀ b o, b ≠ S → b ≠ I → s.heap.get? b = some o → h'.get? b = some o) → R (.ok (.ret .none)) { s with heap := h', toks := tk }) →
      codeAny (model P w) A (.builtin "set.update.loop" ⟨[.ref S, .ref I], []⟩) R s := by
  intro n
  induction n with
  | zero =>
    intro i s L hn hi st Z g hl hR
    obtain rfl : i = x.cps.size := by omega
    refine codeAny_builtin F.entry_set_update_loop ?_
    rw [Around.under_plainId F.plain_set_update_loop _]
    show wpAny _ A.in1 (pyNext (.ref I) >>= _) _ _ s
    refine wpAny_bind (W.done s _ _ st fun h' tk keep => ?_)
    show wpAny _ A.in1 (ret Value.none) _ _ _
    exact wpAny_pure (hR h' tk L (Z.keep fun o e => keep S o (by simpa using hSI) e) g fun b o h1 h2 e => keep b o (by simpa using h2) e)
  | succ n ih =>
    intro i s L hn hi st Z g hl hR
    have lt : i < x.cps.size := by omega
    refine codeAny_builtin F.entry_set_update_loop ?_
    rw [Around.under_plainId F.plain_set_update_loop _]
    show wpAny _ A.in1 (pyNext (.ref I) >>= _) _ _ s
    refine wpAny_bind (W.item i s _ _ lt st fun v h1 tk hv st1 keep => ?_)
    obtain ⟨c, u, hc, rfl⟩ := hv
    have Z1 : Ztx w h1 S L := Z.keep fun o e => keep S o (by simpa using hSI) e
    show wpAny _ A.in1 (holding [Value.str ⟨#[c]⟩ u] (setAdd S (.str ⟨#[c]⟩ u)) >>= _) _ _ _
    refine wpAny_bind (wpAny_holding ?_)
    unfold setAdd
    refine wpAny_holding (wpAny_bind ((PySem.strKind P w).pyHash (Froz.is_str ⟨#[c]⟩ u) ?_))
    refine Ztx.add (s := { s with heap := h1, toks := tk + 1 }) Z1 (by omega) fun b h2 L2 sb Z2 c1 c2 => ?_
    have len : L2.length ≤ i + 1 := by
      by_cases h : (⟨#[c]⟩ : Str) ∈ L.map (·.1)
      · rw [c1 h]; omega
      · rw [(c2 h).length_eq, List.length_cons]; omega
    refine wpAny_pure ⟨plainId_quiet F.plain_set_update_loop _, ih (i + 1) _ L2 (by omega) lt (W.frame _ h1 _ st1 fun b hb o e => ?_) Z2 (g.step hc c1 c2) len fun h3 tk3 L3 Z3 g3 keep3 => ?_⟩
    · rw [List.mem_singleton.mp hb] at e ⊢
      exact (sb.2 I (Ne.symm hSI)).trans e
    · exact hR h3 tk3 L3 Z3 g3 fun b o n1 n2 e => keep3 b o n1 n2 ((sb.2 b n1).trans (keep b o (by simpa using n2) e))
set_option maxRecDepth 100000 in
set_option maxHeartbeats 6400000 in
/-- set(text) -/
theorem set_of_text {x : Str} {tx : Tok} {Q : Value → Shared → Prop} (hh : A.handled = none) (hx : x.cps.size < 4000)
    (fin : ∀ (h' : Heap) (tk : Nat) L, Ztx w h' s.heap.objs.size L → Sgn x x.cps.size L → (∀ b o, s.heap.get? b = some o → h'.get? b = some o) → Q (.ref s.heap.objs.size) { s with heap := h', toks := tk }) :
    wpAny (model P w) A (call (.type "set") [.str x tx]) Q E s := by
  obtain ⟨c, tl, hmro⟩ := F.called_set.mro
  have made := F.called_set.made
  have sub := F.called_set.sub
  refine wpAny_call (codeAny_of_tree ?_)
  show wpAny _ _ (callAny (.type "set") _) _ _ _
  refine wpAny_pure ⟨Code.quiet_builtin _ (by decide +kernel), codeAny_builtin F.entry_type_call ?_⟩
  rw [Around.under_plain (weight_type_call_type "set" [.str x tx] []) rfl]
  have no_type := F.called_set.notType
  have creates := F.called_set.canCreate
  have checked := F.typeCall_set_1 (.str x tx)
  repeat any_goals first | assumption | wp_step
  refine codeAny_mono (code_set_led1 (.str x tx) (E := E) (Q₁ := fun obj s1 => obj = .ref s.heap.objs.size ∧ s1 = { s with heap := s.heap.push (newS w) }) ⟨rfl, rfl⟩) fun r s1 hr => ?_
  cases r with
  | error e => exact hr
  | ok fl =>
    cases fl with
    | ret obj =>
      obtain ⟨rfl, rfl⟩ := hr
      have at_ : (s.heap.push (newS w)).get? s.heap.objs.size = some (newS w) := Heap.get?_push_size _ rfl
      have ty : Shared.TypeIs { s with heap := s.heap.push (newS w) } (.ref s.heap.objs.size) "set" := ⟨_, at_, rfl⟩
      have look := F.called_set.init.lookup
      have bound := F.called_set.init.bind (.ref s.heap.objs.size)
      repeat any_goals first | assumption | wp_step
      refine codeAny_mono (codeAny_call_builtin (R := wants (fun r s2 => r = .none ∧ ∃ h' tk L, s2 = { s with heap := h', toks := tk } ∧ Ztx w h' s.heap.objs.size L ∧ Sgn x x.cps.size L ∧ (∀ b o, s.heap.get? b = some o → h'.get? b = some o)) E) F.called_set.init.plain F.entry_set_init (check_set_init_1 ty ?_)) fun r2 s2 hr2 => ?_
      · have ns := str_no_set
        have nf := str_no_frozen
        have nd : (Value.type "str" == Value.type "dict") = false := by decide
        unfold Builtin.«set.__init__» noKeywords Builtin.Frozenset.updateFrom
        generalize hIt : pyIter = It
        wp_walk
        subst hIt
        refine wpAny_pyIter_str fun o St W st => ?_
        refine wpAny_bind (wpAny_runValue ?_)
        have hh3 : A.in1.in1.in1.handled = none := by simp [hh]
        have sz : (s.heap.push (newS w)).objs.size = s.heap.objs.size + 1 := Heap.size_push ..
        have SI : s.heap.objs.size ≠ (s.heap.push (newS w)).objs.size := by rw [sz]; exact Nat.ne_of_lt (Nat.lt_succ_self _)
        refine tx_loop (W _ hh3) SI hx (x.cps.size - 0) 0 _ [] rfl (Nat.zero_le _) st (ztx_new (Heap.get?_push_of_some _ at_)) (fun k => ⟨fun h => (by cases h), fun ⟨j, d, h, _⟩ => absurd h (Nat.not_lt_zero _)⟩) (Nat.le_refl _) fun h' tk L Z g keep => ?_
        show wpAny _ _ _ _ _ _
        refine wpAny_pure ?_
        show wpAny _ _ (ret Value.none) _ _ _
        refine wpAny_pure ⟨rfl, h', tk, L, rfl, Z, g, fun b o e => ?_⟩
        have lt := Heap.lt_size e
        exact keep b o (Nat.ne_of_lt lt) (by rw [sz]; exact Nat.ne_of_lt (Nat.lt_succ_of_lt lt)) (Heap.get?_push_of_some _ (Heap.get?_push_of_some _ e))
      · cases r2 with
        | error e => exact hr2
        | ok fl2 =>
          cases fl2 with
          | ret r =>
            obtain ⟨rfl, h', tk, L, rfl, Z, g, keep⟩ := hr2
            repeat any_goals first | assumption | wp_step
            exact fin _ _ _ Z g keep
          | _ => exact hr2.elim
    | _ => exact hr.elim
end
/-! ### the rules for texts -/
def ZtO (w : World) (a : Addr) (L : TxM) : HO := .ext fun h => Ztx w h a L
section
variable {X : Cx} {pins : List (Addr × Obj)} {σ : L2.St} {H : Hp} {s : Shared} {a : Addr} {L : TxM}
theorem zt_new {P : Program} {w : World} {h : Heap} (Z : Ztx w h a L) : ObjOk P w H h a (ZtO w a L) := by
  obtain ⟨o, es, ep, t, h1, r⟩ := id Z
  exact ⟨Z, ⟨o, h1⟩, fun _ _ q keep => Ztx.keep q keep⟩
/-- the signs of a text, each once -/
def Uniq (z : List Nat) (L : TxM) : Prop := (L.map (·.1)).Nodup ∧ ∀ k : Str, k ∈ L.map (·.1) ↔ ∃ c ∈ z, k = ⟨#[c]⟩
def rSetTx (w : World) : List V → Hp → VK → Prop := fun vs H Q => ∃ z : Str, vs = [.str z] ∧ z.cps.size < 4000 ∧ ∀ p L, Uniq z.cps.toList L → H p = none → Q (.ref p) (upd H p (ZtO w p L))
theorem cr_setTx (hc : X.calm = true) : CallR X (.type "set") (rSetTx X.w) := by
  intro pins s σ H vs us Q I r h
  obtain ⟨z, rfl, hz, q⟩ := h
  obtain ⟨u, rfl, ru⟩ := vals1 r
  obtain ⟨tk, rfl⟩ := ru
  have hn : H s.heap.objs.size = none := I.hok.fresh (Nat.le_refl _)
  refine set_of_text (I.ok.hd hc) hz fun h' t L Z g keep => ?_
  refine ⟨.ref s.heap.objs.size, _, I.laid (t' := t) keep (Nat.le_refl _) (zt_new Z), rfl, q _ L ⟨?_, fun k => ?_⟩ hn⟩
  · obtain ⟨_, _, _, _, _, _, _, _, nod, _⟩ := Z
    exact nod
  · rw [g k]
    constructor
    · rintro ⟨j, c, _, h2, h3⟩
      exact ⟨c, List.mem_of_getElem? (by rw [Array.getElem?_toList]; exact h2), h3⟩
    · rintro ⟨c, h1, h2⟩
      obtain ⟨j, hj⟩ := List.getElem?_of_mem h1
      rw [Array.getElem?_toList] at hj
      exact ⟨j, c, (Array.getElem?_eq_some_iff.mp hj).1, hj, h2⟩
/-- sorted(set of texts): the members in some order (theirs is not told) -/
def rSortTx (w : World) : List V → Hp → VK → Prop := fun vs H Q => ∃ (a : Addr) (L : TxM), vs = [.ref a] ∧ H a = some (ZtO w a L) ∧ L.length < 4000 ∧ ∀ (ys : List Str) (p : Addr), ys.Perm (L.map (·.1)) → H p = none → Q (.ref p) (upd H p (.lst (ys.map V.str)))
theorem valsTx : ∀ L : TxM, Vals (L.map fun q => V.str q.1) (L.map fun q => Value.str q.1 q.2)
  | [] => .nil
  | _ :: L => .cons ⟨_, rfl⟩ (valsTx L)
theorem cr_sortTx (hc : X.calm = true) (hu : X.A.units + 64 < cLine) : CallR X (.builtin "sorted") (rSortTx X.w) := by
  intro pins s σ H vs us Q I r h
  obtain ⟨a, L, rfl, ha, hmany, q⟩ := h
  have Z : Ztx X.w s.heap a L := (I.hok a _ ha).1
  obtain ⟨o, es, ep, t, h1, h2, h3, h4, h5, h6, h7, h8⟩ := Z
  obtain ⟨u, rfl, ru⟩ := vals1 r
  obtain rfl : u = Value.ref a := ru
  have W : Wkb X.w s.heap a (L.map fun q => .str q.1 q.2) := ⟨o, es, ep, t, h1, h2.1, h3, h6, by rw [tx_num h4]; unfold scanBound; omega, h7, h8, by rw [h4, List.map_map]; rfl⟩
  refine sortedW (enc := fun q : Str × Tok => PyData.str q.1) W (I.ok.hd hc) (fun x y => by simp [PySem.W.alike]) (fun M _ => PySem.W.Sortable.others fun x => ⟨fun z => (by cases z), fun _ z => (by cases z)⟩) (fun x _ h' _ => .str _ _) (fun x _ => by simp only [PyData.depth]; omega) fun s' p out c M keep hgen hos hp hget pm hout => ?_
  have hn : H p = none := I.hok.fresh hp
  obtain ⟨N, eN⟩ : ∃ N, N = M.mergeSort (PySem.W.dataLe false fun q : Str × Tok => PyData.str q.1) := ⟨_, rfl⟩
  rw [← eN] at hout
  have pN : N.Perm L := by rw [eN]; exact (List.mergeSort_perm _ _).trans pm
  have len : ((N.map (·.1)).map V.str).length ≤ sizeLine := by
    rw [List.length_map, List.length_map, pN.length_eq]
    exact Nat.le_trans (by omega : _ ≤ 4000) (by decide)
  have vals : Vals ((N.map (·.1)).map V.str) out.toList := by
    rw [hout, List.map_map]
    exact valsTx N
  have J : Inv X pins σ (upd H p (.lst ((N.map (·.1)).map V.str))) { s with heap := s'.heap, gens := s'.gens, drawn := s'.drawn, toks := s'.toks } :=
    I.call (ch := []) (Un.laid keep hp hn) (I.hok.laid keep hp ⟨len, out.toList, c, vals, hget⟩) (by rw [hgen]; exact I.bare) fun _ z => nomatch z
  have same : s' = { s with heap := s'.heap, gens := s'.gens, drawn := s'.drawn, toks := s'.toks } := by
    cases s'
    cases hos
    rfl
  rw [same]
  exact ⟨.ref p, _, J, rfl, q (N.map (·.1)) p (pN.map _) hn⟩
end
end Zs

namespace L2
open PySem PySem.Spec PyProof.Rows
/-! ### list(text), xs.remove(text), text[::-1] -/
section
variable {X : Cx}
theorem vals_signs {x : Str} {its : Array Value} (h : ItemsOf (SignAt x) its x.cps.size) : Vals (x.cps.toList.map fun c => V.str ⟨#[c]⟩) its.toList := by
  obtain ⟨hn, hv⟩ := h
  have key : ∀ (cs : List Nat) (vs : List Value), cs.length = vs.length → (∀ (j : Nat) (v : Value), vs[j]? = some v → ∃ c u, cs[j]? = some c ∧ v = Value.str ⟨#[c]⟩ u) → Vals (cs.map fun c => V.str ⟨#[c]⟩) vs := by
    intro cs
    induction cs with
    | nil =>
      intro vs h _
      cases vs with
      | nil => exact .nil
      | cons v vs => cases h
    | cons c cs ih =>
      intro vs h hv
      cases vs with
      | nil => cases h
      | cons v vs =>
        obtain ⟨c', u, e1, e2⟩ := hv 0 v rfl
        cases e1
        exact .cons ⟨u, e2⟩ (ih vs (by simpa using h) fun j w hw => hv (j + 1) w hw)
  refine key _ _ (by simp [hn]) fun j v hj => ?_
  obtain ⟨c, u, h1, h2⟩ := hv j v (by simpa using hj)
  exact ⟨c, u, by simpa using h1, h2⟩
def rListStr : List V → Hp → VK → Prop := fun vs H Q => ∃ z : Str, vs = [.str z] ∧ z.cps.size ≤ sizeLine ∧ ∀ p, H p = none → Q (.ref p) (upd H p (.lst (z.cps.toList.map fun c => V.str ⟨#[c]⟩)))
theorem cr_listStr (hc : X.calm = true) : CallR X (.type "list") rListStr := by
  intro pins s σ H vs us Q I r h
  obtain ⟨z, rfl, hz, q⟩ := h
  obtain ⟨u, rfl, ru⟩ := vals1 r
  obtain ⟨tk, rfl⟩ := ru
  have hn : H s.heap.objs.size = none := I.hok.fresh (Nat.le_refl _)
  refine call_list_str (hn := hz) (I.ok.hd hc) z tk fun h' t its c keep hget hits => ?_
  exact ⟨.ref s.heap.objs.size, _, I.laid (t' := t) (o := .lst (z.cps.toList.map fun c => V.str ⟨#[c]⟩)) keep (Nat.le_refl _) ⟨by rw [List.length_map, Array.length_toList]; exact hz, its.toList, c, vals_signs hits, hget⟩, rfl, q _ hn⟩
/-- xs.remove(z), xs a list of texts in which z is -/
def rRemS : V → List V → Hp → VK → Prop := fun x vs H Q => ∃ (l : Addr) (ys : List (List Nat)) (z : List Nat), x = .ref l ∧ vs = [.str ⟨z.toArray⟩] ∧ H l = some (.lst (ys.map fun y => V.str ⟨y.toArray⟩)) ∧ z ∈ ys ∧ Q .non (upd H l (.lst ((ys.erase z).map fun y => V.str ⟨y.toArray⟩)))
theorem first_in {α : Type} [BEq α] [LawfulBEq α] : ∀ {ys : List α} {z : α}, z ∈ ys → ∃ j, ys[j]? = some z ∧ (∀ i y, i < j → ys[i]? = some y → y ≠ z) ∧ ys.eraseIdx j = ys.erase z
  | y :: ys, z, h => by
    by_cases e : y = z
    · exact ⟨0, by rw [e]; rfl, fun i _ hi => absurd hi (Nat.not_lt_zero _), by rw [e, List.erase_cons_head]; rfl⟩
    · obtain ⟨j, h1, h2, h3⟩ := first_in ((List.mem_cons.mp h).resolve_left fun q => e q.symm)
      refine ⟨j + 1, h1, fun i w hi hw => ?_, by rw [List.erase_cons_tail (by simpa using e), ← h3]; rfl⟩
      cases i with
      | zero =>
        have e2 : y = w := Option.some.inj hw
        rw [← e2]
        exact e
      | succ i => exact h2 i w (by omega) hw
theorem eraseIdx_of_map {α β : Type} (f : α → β) : ∀ (l : List α) (j : Nat), (l.map f).eraseIdx j = (l.eraseIdx j).map f
  | [], _ => rfl
  | _ :: _, 0 => rfl
  | x :: l, j + 1 => by
    show f x :: (l.map f).eraseIdx j = f x :: (l.eraseIdx j).map f
    rw [eraseIdx_of_map f l j]
theorem vals_at : ∀ {ys : List (List Nat)} {us : List Value}, Vals (ys.map fun y => V.str ⟨y.toArray⟩) us → ∀ (i : Nat) (v : Value), us[i]? = some v → ∃ y t, ys[i]? = some y ∧ v = .str ⟨y.toArray⟩ t
  | [], _, .nil, i, v, h => by simp at h
  | y :: ys, _, .cons r t, 0, v, h => by
    obtain ⟨tk, e⟩ := r
    have e2 := Option.some.inj h
    exact ⟨y, tk, rfl, by rw [← e2, e]⟩
  | y :: ys, _, .cons r t, i + 1, v, h => vals_at t i v h
theorem mt_remS : MtR X "list.remove" rRemS := by
  intro pins s σ H x vs v us Q I rx rvs h
  obtain ⟨l, ys, z, rfl, rfl, hH, hm, q⟩ := h
  cases rx
  obtain ⟨u, rfl, ru⟩ := rvs.one
  obtain ⟨t, rfl⟩ := ru
  obtain ⟨zz, its, n, r, hl, e⟩ := I.lstM hH
  obtain ⟨j, h1, h2, h3⟩ := first_in hm
  rw [List.length_map] at hl zz
  have hj : j < ys.length := (List.getElem?_eq_some_iff.mp h1).1
  have hj2 : j < its.toArray.size := by rw [List.size_toArray]; omega
  have gives : ∀ y, y ∈ its.toArray → MeetsSeq.EqGives y (.str ⟨z.toArray⟩ t) (isStrOf ⟨z.toArray⟩ y) := fun y hy => by
    obtain ⟨i, hi⟩ := List.getElem?_of_mem (l := its) (by simpa using hy)
    obtain ⟨w, tw, _, e2⟩ := vals_at r i y hi
    rw [e2]
    exact eqGives_str _ _ _ _
  refine call_meets PySem.F.slot_list_remove ⟨_, e, rfl⟩ PySem.F.entry_list_remove (PySem.F.args_list_remove_2 _ _) (MeetsSeq.list_remove l its.toArray n (.str ⟨z.toArray⟩ t) (isStrOf ⟨z.toArray⟩) gives j hj2 ?_ ?_ (by rw [List.size_toArray]; omega)) ⟨e, ?_⟩
  · obtain ⟨w, tw, e1, e2⟩ := vals_at r j its.toArray[j] (by simp)
    rw [h1] at e1
    cases e1
    rw [e2]
    exact beq_self_eq_true _
  · intro m hm2 hmj
    obtain ⟨w, tw, e1, e2⟩ := vals_at r m its.toArray[m] (by simp)
    rw [e2]
    show ((⟨w.toArray⟩ : Str) == ⟨z.toArray⟩) = false
    refine beq_eq_false_iff_ne.mpr fun q => h2 m w hmj e1 ?_
    have := congrArg (fun s : Str => s.cps.toList) q
    simpa using this
  · have rr := r.eraseIdx j
    have emap : (ys.map fun y => V.str ⟨y.toArray⟩).eraseIdx j = (ys.erase z).map fun y => V.str ⟨y.toArray⟩ := by rw [← h3, eraseIdx_of_map]
    rw [emap] at rr
    refine ⟨.non, _, I.lset (its' := its.eraseIdx j) (t' := s.toks) hH e ?_ rr ?_, rfl, q⟩
    · show its.toArray.eraseIdxIfInBounds j = (its.eraseIdx j).toArray
      rw [List.eraseIdxIfInBounds_toArray]
    · rw [List.length_map]
      have := List.length_erase_le (a := z) (l := ys)
      omega
/-- text[::-1] -/
def tRevS (te : TE) : TE := fun σ H Q => te σ H fun x H1 => ∃ z : Str, x = .str z ∧ z.length ≤ sizeLine ∧ Q (.str ⟨z.cps.toList.reverse.toArray⟩) H1
theorem rev_made (z : Str) (t : Tok) (u : Tok) : sliceMade z t none none (some (-1, u)) = .str ⟨z.cps.toList.reverse.toArray⟩ := by
  unfold sliceMade
  rw [if_neg (by simp)]
  have e : slicePicked z none none (some (-1, u)) = sliceRange ((z.cps.size : Int) - 1) (-1) (-1) := rfl
  rw [e, PySem.W.krv_sliceRange, PySem.W.krv_range, List.filterMap_reverse]
  have e2 := PySem.W.krv_all z.cps
  first
    | rw [e2]
    | (congr 2)
theorem pe_revS {e : Expr} {te : TE} {k : Nat} {p1 p2 p3 pos : Pos} (he : PE X e te) : PE X (.Subscript e (.Slice none none (some (.UnaryOp .USub (.Constant (.int 1) k p1) p2)) p3) pos) (tRevS te) := by
  refine ⟨fun pins s σ H Q I h => Subscript_ (thn (he.run pins s σ H _ I h) fun v st ⟨x, H1, I1, rx, z, ex, hz, q⟩ => ?_)⟩
  subst ex
  obtain ⟨t, rfl⟩ := rx
  have step : PO X (some (.UnaryOp .USub (.Constant (.int 1) k p1) p2)) (tPart (tUn (rU fun i => .int (-i)) (tC (.int 1)))) := po_some (pe_un un_neg pe_int)
  refine wpAny_Slice (thn (po_none.run pins st σ H1 (fun o G => o = none ∧ G = H1) I1 ⟨rfl, rfl⟩) fun vl sb ⟨l, G2, I2, pl, el, e2⟩ => ?_)
  subst el
  subst e2
  refine thn (po_none.run pins sb σ G2 (fun o G => o = none ∧ G = G2) I2 ⟨rfl, rfl⟩) fun vu sc ⟨u, G3, I3, pu, eu, e3⟩ => ?_
  subst eu
  subst e3
  refine thn (step.run pins sc σ G3 (fun o G => o = some (-1) ∧ G = G3) I3 ⟨1, rfl, -1, rfl, rfl, rfl⟩) fun vs sd ⟨o, G4, I4, ps, eo, e4⟩ => ?_
  subst eo
  subst e4
  have I5 : Inv X pins σ G4 { sd with heap := sd.heap.push { cls := .type "slice", data := .fields #[vl, vu, vs] } } := I4.kept (t' := sd.toks) fun b ob q => Heap.get?_push_of_some _ q
  show wpAny (model X.prog X.w) X.A (subscriptTail e (.Slice none none (some (.UnaryOp .USub (.Constant (.int 1) k p1) p2)) p3) (.str z t) (.ref sd.heap.objs.size)) (EP X pins σ Q) X.xe { sd with heap := sd.heap.push { cls := .type "slice", data := .fields #[vl, vu, vs] } }
  refine tail_any (ops := [.str z t, .ref sd.heap.objs.size]) (typeIs_str _ z t) (F.slot_str_getitem.lookup) ?_ (by with_unfolding_all rfl)
  obtain ⟨lo, e5, e6⟩ := IsPart.raw pl
  obtain ⟨hi, e7, e8⟩ := IsPart.raw pu
  obtain ⟨stp, e9, e10⟩ := IsPart.raw ps
  subst e5 e7 e9
  obtain rfl : lo = none := by cases lo with | none => rfl | some v => cases e6
  obtain rfl : hi = none := by cases hi with | none => rfl | some v => cases e8
  obtain ⟨tk, rfl⟩ : ∃ tk, stp = some (-1, tk) := by
    cases stp with
    | none => cases e10
    | some v => exact ⟨v.2, by cases v; cases e10; rfl⟩
  refine wpAny_getItem_str_slice (l := none) (u := none) (st := some (-1, tk)) ⟨_, Heap.get?_push_size _ rfl, rfl, rfl⟩ rfl ?_
  rw [rev_made]
  refine ⟨?_, .str _, G4, I5.tok _, ⟨_, rfl⟩, q⟩
  show (z.cps.toList.reverse.toArray).size ≤ sizeLine
  rw [List.size_toArray, List.length_reverse]
  exact hz
end
end L2
namespace L2
open PySem PySem.Spec PyProof.Rows
theorem x_revS {te : TE} {σ : St} {H : Hp} {Q : VK} (q : te σ H fun x H1 => ∃ z : Str, x = .str z ∧ z.length ≤ sizeLine ∧ Q (.str ⟨z.cps.toList.reverse.toArray⟩) H1) : tRevS te σ H Q := q
end L2

namespace Sr
open PySem PySem.Spec PyProof.Rows L2
/-! ### signs that two rows have in common, each as often as the one that has it less often -/
def cm : List Nat → List Nat → Nat
  | [], _ => 0
  | c :: o, t => if c ∈ t then cm o (t.erase c) + 1 else cm o t
def cmS (ys o t : List Nat) : Nat := (ys.map fun c => min (o.count c) (t.count c)).sum
theorem sum_same {f g : Nat → Nat} : ∀ {ys : List Nat}, (∀ d ∈ ys, f d = g d) → (ys.map f).sum = (ys.map g).sum
  | [], _ => rfl
  | y :: ys, h => by
    rw [List.map_cons, List.map_cons, List.sum_cons, List.sum_cons, h y List.mem_cons_self, sum_same fun d hd => h d (List.mem_cons_of_mem _ hd)]
theorem sum_one {f g : Nat → Nat} {c : Nat} : ∀ {ys : List Nat}, ys.Nodup → c ∈ ys → (∀ d ∈ ys, d ≠ c → f d = g d) → f c = g c + 1 → (ys.map f).sum = (ys.map g).sum + 1
  | y :: ys, hn, hc, h, h1 => by
    rw [List.map_cons, List.map_cons, List.sum_cons, List.sum_cons]
    obtain ⟨n1, n2⟩ := List.nodup_cons.mp hn
    rcases List.mem_cons.mp hc with e | e
    · subst e
      rw [h1, sum_same (f := f) (g := g) fun d hd => h d (List.mem_cons_of_mem _ hd) fun q => n1 (q ▸ hd)]
      omega
    · rw [sum_one n2 e (fun d hd => h d (List.mem_cons_of_mem _ hd)) h1, h y List.mem_cons_self fun q => n1 (q ▸ e)]
      omega
theorem sum_zero : ∀ ys : List Nat, (ys.map fun _ => 0).sum = 0
  | [] => rfl
  | y :: ys => by
    rw [List.map_cons, List.sum_cons, sum_zero ys]
theorem cmS_cm : ∀ {o t ys : List Nat}, ys.Nodup → (∀ c ∈ o, c ∈ ys) → cmS ys o t = cm o t
  | [], t, ys, _, _ => by
    have : cmS ys [] t = (ys.map fun _ => 0).sum := sum_same fun d _ => by simp
    rw [this, sum_zero]
    rfl
  | c :: o, t, ys, hn, hc => by
    have ih1 := cmS_cm (o := o) (t := t) hn fun d hd => hc d (List.mem_cons_of_mem _ hd)
    have ih2 := cmS_cm (o := o) (t := t.erase c) hn fun d hd => hc d (List.mem_cons_of_mem _ hd)
    unfold cm
    by_cases h : c ∈ t
    · rw [if_pos h, ← ih2]
      refine sum_one hn (hc c List.mem_cons_self) (fun d _ hd => ?_) ?_
      · rw [List.count_cons_of_ne (Ne.symm hd), List.count_erase_of_ne hd]
      · rw [List.count_cons_self, List.count_erase_self]
        have := List.count_pos_iff.mpr h
        omega
    · rw [if_neg h, ← ih1]
      refine sum_same fun d _ => ?_
      by_cases e : d = c
      · subst e
        rw [List.count_eq_zero_of_not_mem h]
        simp
      · rw [List.count_cons_of_ne (Ne.symm e)]
/-- a list of all numbers up to a bound -/
theorem all_in (o t : List Nat) : ∃ ys : List Nat, ys.Nodup ∧ (∀ c ∈ o, c ∈ ys) ∧ ∀ c ∈ t, c ∈ ys := by
  have bd : ∀ l : List Nat, ∃ n, ∀ c ∈ l, c < n := by
    intro l
    induction l with
    | nil => exact ⟨0, fun c h => by cases h⟩
    | cons x l ih =>
      obtain ⟨n, hn⟩ := ih
      refine ⟨n + x + 1, fun c h => ?_⟩
      rcases List.mem_cons.mp h with e | e
      · omega
      · have := hn c e
        omega
  obtain ⟨n, hn⟩ := bd o
  obtain ⟨m, hm⟩ := bd t
  exact ⟨List.range (n + m), List.nodup_range, fun c h => List.mem_range.mpr (by have := hn c h; omega), fun c h => List.mem_range.mpr (by have := hm c h; omega)⟩
theorem cm_comm (o t : List Nat) : cm o t = cm t o := by
  obtain ⟨ys, h1, h2, h3⟩ := all_in o t
  rw [← cmS_cm h1 h2, ← cmS_cm h1 h3]
  exact sum_same fun d _ => Nat.min_comm _ _
theorem cm_nil (o : List Nat) : cm o [] = 0 := by
  rw [cm_comm]
  rfl
theorem cm_self : ∀ o : List Nat, cm o o = o.length
  | [] => rfl
  | c :: o => by
    unfold cm
    rw [if_pos List.mem_cons_self, List.erase_cons_head, cm_self o]
    rfl
theorem cm_le (o t : List Nat) : cm o t ≤ o.length := by
  induction o generalizing t with
  | nil => exact Nat.le_refl _
  | cons c o ih =>
    unfold cm
    split
    · have := ih (t.erase c)
      simp only [List.length_cons]
      omega
    · have := ih t
      simp only [List.length_cons]
      omega
theorem sum_le {f g : Nat → Nat} : ∀ {ys : List Nat}, (∀ d ∈ ys, f d ≤ g d) → (ys.map f).sum ≤ (ys.map g).sum
  | [], _ => Nat.le_refl _
  | y :: ys, h => by
    rw [List.map_cons, List.map_cons, List.sum_cons, List.sum_cons]
    have h1 := h y List.mem_cons_self
    have h2 := sum_le fun d hd => h d (List.mem_cons_of_mem _ hd)
    omega
theorem cm_sub {m o t : List Nat} (h1 : m.Sublist o) (h2 : m.Sublist t) : m.length ≤ cm o t := by
  obtain ⟨ys, n1, n2, n3⟩ := all_in o t
  rw [← cm_self m, ← cmS_cm n1 fun c h => n2 c (h1.subset h), ← cmS_cm n1 n2]
  refine sum_le fun d _ => ?_
  have a := h1.count_le d
  have b := h2.count_le d
  omega
/-! ### a lane's like pairs -/
theorem seg_sub (o : List Nat) (b n : Nat) (h : b + n ≤ o.length) : ((List.range n).map fun i => o[b + i]?.getD 0).Sublist o := by
  have e : ((List.range n).map fun i => o[b + i]?.getD 0) = (o.drop b).take n := by
    apply List.ext_getElem
    · rw [List.length_map, List.length_range, List.length_take, List.length_drop]
      omega
    · intro i h1 h2
      rw [List.length_map, List.length_range] at h1
      rw [List.getElem_map, List.getElem_range, List.getElem_take, List.getElem_drop, List.getElem?_eq_getElem (by omega)]
      rfl
  rw [e]
  exact (List.take_sublist _ _).trans (List.drop_sublist _ _)
theorem count_map_filter {p : Nat → Bool} {f : Nat → Nat} {c : Nat} (h : ∀ i, f i = c ↔ p i = true) : ∀ l : List Nat, (l.map f).count c = (l.filter p).length
  | [] => rfl
  | i :: l => by
    rw [List.map_cons, List.count_cons, count_map_filter h l, List.filter_cons]
    by_cases e : p i = true
    · rw [if_pos e, if_pos (by rw [(h i).mpr e]; simp), List.length_cons]
    · rw [if_neg e, if_neg (fun q => e ((h i).mp (by simpa using q)))]
      rfl
theorem lane_cm (o t : List Nat) (d : Int) : (likL o t d).count 61 ≤ cm o t := by
  rw [likL_eq, count_map_filter (p := fun i => decide (o[bgn d + i]? = t[(((bgn d + i : Nat) : Int) + d).toNat]?)) (fun i => by
    unfold lk1
    by_cases e : o[bgn d + i]? = t[(((bgn d + i : Nat) : Int) + d).toNat]?
    · rw [if_pos e]; simp [e]
    · rw [if_neg e]
      exact ⟨fun h => absurd h (by decide), fun h => absurd (of_decide_eq_true h) e⟩)]
  obtain ⟨n, hn⟩ : ∃ n, n = lkn o.length t.length d := ⟨_, rfl⟩
  rw [← hn]
  have hb1 : n = 0 ∨ bgn d + n ≤ o.length := by unfold lkn at hn; omega
  have hb2 : n = 0 ∨ (((bgn d : Nat) : Int) + d).toNat + n ≤ t.length := by unfold lkn bgn at hn; unfold bgn; omega
  obtain ⟨F, hF⟩ : ∃ F, F = (List.range n).filter fun i => decide (o[bgn d + i]? = t[(((bgn d + i : Nat) : Int) + d).toNat]?) := ⟨_, rfl⟩
  rw [← hF]
  have hsub : F.Sublist (List.range n) := by rw [hF]; exact List.filter_sublist
  have e1 : (F.map fun i => o[bgn d + i]?.getD 0).Sublist o := by
    rcases hb1 with e | e
    · subst e
      have : F = [] := by simpa using hsub
      rw [this]
      exact List.nil_sublist _
    · exact (hsub.map _).trans (seg_sub o _ n e)
  have e2 : (F.map fun i => o[bgn d + i]?.getD 0) = F.map fun i => t[(((bgn d : Nat) : Int) + d).toNat + i]?.getD 0 := by
    refine List.map_congr_left fun i hi => ?_
    rw [hF] at hi
    have h1 := of_decide_eq_true (List.mem_filter.mp hi).2
    rw [h1]
    have : (((bgn d + i : Nat) : Int) + d).toNat = (((bgn d : Nat) : Int) + d).toNat + i := by unfold bgn; omega
    rw [this]
  have e3 : (F.map fun i => o[bgn d + i]?.getD 0).Sublist t := by
    rw [e2]
    rcases hb2 with e | e
    · subst e
      have : F = [] := by simpa using hsub
      rw [this]
      exact List.nil_sublist _
    · exact (hsub.map _).trans (seg_sub t _ n e)
  have := cm_sub e1 e3
  rw [List.length_map] at this
  exact this
/-- signs of a row, each once, as texts in some order -/
theorem uniq_codes {z : List Nat} {L : Zs.TxM} {ys : List Str} (u : Zs.Uniq z L) (p : ys.Perm (L.map (·.1))) : ∃ cs : List Nat, ys = cs.map sg ∧ cs.Nodup ∧ (∀ c, c ∈ cs ↔ c ∈ z) := by
  have hy : ∀ y ∈ ys, ∃ c ∈ z, y = sg c := fun y hy => (u.2 y).mp (p.mem_iff.mp hy)
  have key : ∀ ys : List Str, (∀ y ∈ ys, ∃ c ∈ z, y = sg c) → ∃ cs : List Nat, ys = cs.map sg ∧ ∀ c ∈ cs, c ∈ z := by
    intro ys
    induction ys with
    | nil => intro _; exact ⟨[], rfl, fun c h => by cases h⟩
    | cons y ys ih =>
      intro h
      obtain ⟨c, hc, rfl⟩ := h y List.mem_cons_self
      obtain ⟨cs, rfl, h2⟩ := ih fun w hw => h w (List.mem_cons_of_mem _ hw)
      exact ⟨c :: cs, rfl, fun d hd => by
        rcases List.mem_cons.mp hd with e | e
        · rw [e]; exact hc
        · exact h2 d e⟩
  obtain ⟨cs, e, h2⟩ := key ys hy
  refine ⟨cs, e, ?_, fun c => ⟨h2 c, fun hc => ?_⟩⟩
  · have hn : ys.Nodup := p.nodup_iff.mpr u.1
    rw [e] at hn
    exact List.Pairwise.of_map sg (fun a b h q => h (by rw [q])) hn
  · have hm : sg c ∈ ys := p.mem_iff.mpr ((u.2 (sg c)).mpr ⟨c, hc, rfl⟩)
    rw [e] at hm
    obtain ⟨d, hd, e2⟩ := List.mem_map.mp hm
    have : d = c := by simpa [sg] using e2
    rw [← this]
    exact hd
end Sr

namespace Sr
open PySem PySem.Spec PyProof.Rows L2 Zs
/-! ### the text -/
def topS (i : Nat) : Stmt := PySem.Challenge.pw_seedreach_k18_bound_of_two_rows.main.body.getD i (.Pass ⟨0, 0, 0, 0⟩)
abbrev slane_begin : Stmt := topS 3
abbrev nlane_begin : List Str := ["shift"]
theorem sclane_begin : FnScope nlane_begin ["shift"] (defScope slane_begin) := ⟨rfl, rfl, rfl, by decide +kernel, rfl, by decide +kernel, by decide +kernel⟩
abbrev slikes_of : Stmt := topS 4
abbrev nlikes_of : List Str := ["one", "other", "shift", "begin", "end", "place"]
theorem sclikes_of : FnScope nlikes_of ["one", "other", "shift"] (defScope slikes_of) := ⟨rfl, rfl, rfl, by decide +kernel, rfl, by decide +kernel, by decide +kernel⟩
abbrev sbound : Stmt := topS 6
abbrev nbound : List Str := ["one", "other", "scale", "gain", "_", "sign"]
theorem scbound : FnScope nbound ["one", "other", "scale"] (defScope sbound) := ⟨rfl, rfl, rfl, by decide +kernel, rfl, by decide +kernel, by decide +kernel⟩
abbrev s_law_next : Stmt := topS 8
abbrev n_law_next : List Str := ["_law_h", "_law_many", "_law_at", "_law_cell"]
theorem sc_law_next : FnScope n_law_next ["_law_h", "_law_many"] (defScope s_law_next) := ⟨rfl, rfl, rfl, by decide +kernel, rfl, by decide +kernel, by decide +kernel⟩
abbrev s_law_letters : Stmt := topS 9
abbrev n_law_letters : List Str := ["_law_h", "_law_turn", "_law_k"]
theorem sc_law_letters : FnScope n_law_letters ["_law_h"] (defScope s_law_letters) := ⟨rfl, rfl, rfl, by decide +kernel, rfl, by decide +kernel, by decide +kernel⟩
abbrev s_law_row : Stmt := topS 10
abbrev n_law_row : List Str := ["_law_h", "_law_letters_here", "_law_most", "_law_k"]
theorem sc_law_row : FnScope n_law_row ["_law_h", "_law_letters_here", "_law_most"] (defScope s_law_row) := ⟨rfl, rfl, rfl, by decide +kernel, rfl, by decide +kernel, by decide +kernel⟩
abbrev s_law_near : Stmt := topS 11
abbrev n_law_near : List Str := ["_law_h", "_law_row_here", "_law_letters_here", "_law_found", "_law_keep", "_law_sign", "_law_way"]
theorem sc_law_near : FnScope n_law_near ["_law_h", "_law_row_here", "_law_letters_here"] (defScope s_law_near) := ⟨rfl, rfl, rfl, by decide +kernel, rfl, by decide +kernel, by decide +kernel⟩
abbrev s_law_scale : Stmt := topS 12
abbrev n_law_scale : List Str := ["_law_h"]
theorem sc_law_scale : FnScope n_law_scale ["_law_h"] (defScope s_law_scale) := ⟨rfl, rfl, rfl, by decide +kernel, rfl, by decide +kernel, by decide +kernel⟩
abbrev s_law_same : Stmt := topS 13
abbrev n_law_same : List Str := ["_law_found", "_law_due", "_law_k"]
theorem sc_law_same : FnScope n_law_same ["_law_found", "_law_due"] (defScope s_law_same) := ⟨rfl, rfl, rfl, by decide +kernel, rfl, by decide +kernel, by decide +kernel⟩
abbrev slaw : Stmt := topS 14
abbrev nlaw : List Str := ["_law_script", "_law_h", "_law_letters_here", "_law_scale_here", "_law_one", "_law_other", "_law_due", "_law_left", "_law_sign", "_law_turn", "_law_likes"]
theorem sclaw : FnScope nlaw ["_law_script"] (defScope slaw) := ⟨rfl, rfl, rfl, by decide +kernel, rfl, by decide +kernel, by decide +kernel⟩
structure Dn (P : Program) (w : World) (K : PySem.W.Frag) (mg : Str → Option Value) (base : Heap) (x : Str) (k : Nat) (ps : List Str) (sp : Sp) (f : Addr) (fd : FuncData) : Prop where
  ok : FnOk P w K mg base CX0 k f fd ps sp
  g : mg x = some (.ref f)
  kp : PySem.W.keepIn K (.ref f) = true
  b : Binds K fd ps []
structure Bl (mg : Str → Option Value) : Prop where
  m_max : mg "max" = none
  m_min : mg "min" = none
  m_len : mg "len" = none
  m_range : mg "range" = none
  m_sum : mg "sum" = none
  m_sorted : mg "sorted" = none
  m_set : mg "set" = none
  m_isinstance : mg "isinstance" = none
  m_str : mg "str" = none
  m_list : mg "list" = none
  m_tuple : mg "tuple" = none
  m_int : mg "int" = none
  m_bool : mg "bool" = none
structure Cs (mg : Str → Option Value) (uLIKE uUNLIKE : Value) : Prop where
  c_LIKE : RelV (.str "=") uLIKE ∧ mg "LIKE" = some uLIKE
  c_UNLIKE : RelV (.str "/") uUNLIKE ∧ mg "UNLIKE" = some uUNLIKE
def splane_begin (K : PySem.W.Frag) : Sp := fun vs H Q _ => ∃ (d : Int), vs = [.int d] ∧ Q (.int (bgn d : Nat)) H
def splikes_of (K : PySem.W.Frag) : Sp := fun vs H Q _ => ∃ (o t : List Nat) (d : Int), vs = [.str (S o), .str (S t), .int d] ∧ o.length ≤ 1000 ∧ t.length ≤ 1000 ∧ -100000 ≤ d ∧ d ≤ 100000 ∧ ∀ H', Same H H' → Q (.str (S (likL o t d))) H'
def spbound (K : PySem.W.Frag) : Sp := fun vs H Q _ => ∃ (o t : List Nat) (p : Addr) (g l : Int), vs = [.str (S o), .str (S t), .ref p] ∧ SqT K H p [.int g, .int l] ∧ o.length ≤ 1000 ∧ t.length ≤ 1000 ∧ 0 ≤ g ∧ g ≤ 1000 ∧ ∀ H', Same H H' → Q (.int (g * (cm o t : Nat))) H'
def sp_law_next (K : PySem.W.Frag) : Sp := fun vs H Q _ => ∃ (a b : Addr) (m : Int), vs = [.ref a, .int m] ∧ Src H a b ∧ 0 < m ∧ m < 1000000 ∧ ∀ (r : Int) (H' : Hp), 0 ≤ r → r < m → Src H' a b → Kp a b H H' → Q (.int r) H'
def sp_law_letters (K : PySem.W.Frag) : Sp := fun vs H Q _ => ∃ (a b : Addr), vs = [.ref a] ∧ Src H a b ∧ ∀ (t n : Nat) (H' : Hp), t < 26 → 2 ≤ n → n ≤ 6 → Src H' a b → Kp a b H H' → Q (.str (S (letL t n))) H'
def sp_law_row (K : PySem.W.Frag) : Sp := fun vs H Q _ => ∃ (a b : Addr) (l : List Nat) (m : Int), vs = [.ref a, .str (S l), .int m] ∧ Src H a b ∧ 0 < l.length ∧ l.length ≤ 1000 ∧ 0 ≤ m ∧ m ≤ 1000 ∧ ∀ (z : List Nat) (H' : Hp), (z.length : Int) ≤ m → (∀ c ∈ z, c ∈ l) → Src H' a b → Kp a b H H' → Q (.str (S z)) H'
def sp_law_near (K : PySem.W.Frag) : Sp := fun vs H Q _ => ∃ (a b : Addr) (r l : List Nat), vs = [.ref a, .str (S r), .str (S l)] ∧ Src H a b ∧ 0 < l.length ∧ l.length ≤ 1000 ∧ r.length ≤ 1000 ∧ (∀ c ∈ r, c ∈ l) ∧ ∀ (z : List Nat) (H' : Hp), z.length ≤ 60 → (∀ c ∈ z, c ∈ l) → Src H' a b → Kp a b H H' → Q (.str (S z)) H'
def sp_law_scale (K : PySem.W.Frag) : Sp := fun vs H Q _ => ∃ (a b : Addr), vs = [.ref a] ∧ Src H a b ∧ ∀ (g l : Int) (p : Addr) (H' : Hp), 1 ≤ g → g ≤ 9 → 1 ≤ l → l ≤ 9 → H' p = some (.tup [.int g, .int l]) → p ≠ a → p ≠ b → Src H' a b → Kp a b H H' → Q (.ref p) H'
def sp_sameN (n : Nat) (K : PySem.W.Frag) : Sp := fun vs H Q _ => ∃ (x y : V) (d : PyData), vs = [x, y] ∧ Dp K H x d ∧ Dp K H y d ∧ Gd d ∧ d.depth + 1 ≤ n ∧ ∀ H', Same H H' → Q (.bl true) H'
def sp_law_same (K : PySem.W.Frag) : Sp := sp_sameN 12 K
def splaw (K : PySem.W.Frag) : Sp := fun vs H Q _ => ∃ (a : Addr) (ns : List Int), vs = [.ref a] ∧ SqL K H a (ns.map V.int) ∧ ns.length ≤ 63 ∧ ∀ H', Q (.bl true) H'
end Sr
local macro_rules | `(tactic| walk_at "hp") => `(tactic| first | assumption | exact L2.upd_same | exact (L2.upd_ne (by assumption)).trans (by walk_at "hp") | exact (L2.upd_ne (Ne.symm (by assumption))).trans (by walk_at "hp") | exact (L2.upd_ne (L2.ne_of_none (by assumption) (by assumption))).trans (by walk_at "hp"))
local macro_rules | `(tactic| walk_at "sql") => `(tactic| first | assumption | exact L2.SqL.of (by walk_at "hp"))
local macro_rules | `(tactic| walk_at "sqt") => `(tactic| first | assumption | exact L2.SqT.of (by walk_at "hp"))
local macro_rules | `(tactic| walk_at "vc01") => `(tactic| first
  | (with_reducible refine L2.x_seq ?_)
  | (with_reducible refine L2.x_revS ?_)
  | (with_reducible refine L2.x_asg ?_)
  | (with_reducible refine L2.x_name ?_)
  | (with_reducible refine L2.x_op ?_)
  | ((with_reducible (refine L2.x_var (v := ?v) ?hv ?_)); case hv => rfl)
  | (with_reducible refine L2.x_c ?_)
  | (with_reducible refine L2.x_rI0 ?_)
  | ((with_reducible (refine L2.x_rI ?hrI ?_)); case hrI => first | exact ⟨by omega, by omega⟩ | exact .inr ⟨by omega, by omega⟩ | exact .inl ⟨by omega, by omega⟩ | (show (0 : Int) < _; omega) | exact ⟨by omega, by omega, by omega⟩ | exact ⟨by decide, by decide, by decide⟩)
  | (with_reducible refine L2.x_rU ?_)
  | (with_reducible refine L2.x_un ?_)
  | ((with_reducible (refine L2.x_rEq ?hs ?_)); case hs => rfl)
  | ((with_reducible (refine L2.x_rNe ?hs ?_)); case hs => rfl)
  | (with_reducible refine L2.x_test ?_)
  | (with_reducible refine L2.x_b ?_)
  | (with_reducible refine L2.x_bl ?_)
  | (with_reducible refine L2.x_and ?_)
  | (with_reducible refine L2.x_or ?_)
  | (with_reducible refine L2.x_not ?_)
  | (with_reducible refine L2.x_notV ?_)
  | (with_reducible refine L2.x_andV ?_)
  | (with_reducible refine L2.x_orV ?_)
  | (with_reducible refine L2.x_cons ?_)
  | (with_reducible refine L2.x_nil ?_)
  | (with_reducible refine L2.x_tup ?_)
  | (with_reducible refine L2.x_lst ?_)
  | (with_reducible refine L2.x_cb ?_)
  | (with_reducible refine L2.x_call ?_)
  | (with_reducible refine L2.x_chain ?_)
  | (with_reducible refine L2.x_next ?_)
  | (with_reducible refine L2.x_drop ?_)
  | (with_reducible refine L2.x_ret ?_)
  | (with_reducible refine L2.x_gCons ?_)
  | (with_reducible refine L2.x_gNil ?_)
  | (with_reducible refine L2.x_gSub ?_)
  | (with_reducible refine L2.x_bm ?_)
  | (with_reducible refine L2.x_m1 ?_)
  | (with_reducible refine L2.x_m1s ?_)
  | (with_reducible refine L2.x_sl ?_)
  | (with_reducible refine L2.x_noPart ?_)
  | (with_reducible refine L2.x_part ?_)
  | (with_reducible refine L2.x_parti ?_)
  | (with_reducible refine L2.x_rng1 ?_)
  | (with_reducible refine L2.x_rng2 ?_)
  | (with_reducible refine L2.x_lcR ?_)
  | (with_reducible refine L2.x_yes ?_)
  | (with_reducible refine L2.x_iList ?_)
  | (with_reducible refine L2.x_iStr ?_)
  | (with_reducible refine L2.x_iStri ?_)
  | (with_reducible refine L2.x_for ?_)
  | ((with_reducible (refine L2.x_rng2i ?h1 ?_)); (case h1 => exact ⟨by omega, by omega, by omega, by omega⟩))
  | (with_reducible refine L2.x_two ?_)
  | (with_reducible refine L2.x_chain3 ?_)
  | (with_reducible refine L2.x_iEnumS ?_)
  | (with_reducible refine L2.x_par ?_)
  | (with_reducible refine L2.x_parv ?_)
  | ((with_reducible (refine L2.x_aug (x := ?x) ?h ?_)); (case h => rfl))
  | (with_reducible refine L2.x_ipI ?_)
  | (with_reducible refine L2.iteT ?_)
  | (with_reducible refine L2.iteF ?_)
  | (with_reducible refine L2.x_iteNT ?_)
  | (with_reducible refine L2.x_iteNF ?_)
  | (with_reducible refine L2.x_s1 ?_)
  | (with_reducible refine L2.x_rIntB ?_)
  | ((with_reducible (refine L2.x_addS ?h1 ?_)); (case h1 => first | assumption | exact L2.hp_sz (by omega)))
  | (with_reducible refine L2.x_intB ?_)
  | ((with_reducible (refine L2.x_rng1i ?h1 ?h2 ?_)); (case h1 => omega); (case h2 => omega))
  | ((with_reducible (refine L2.x_lenS ?h1 ?_)); (case h1 => first | assumption | exact L2.hp_sz (by omega)))
  | ((with_reducible (refine L2.x_lenL (ys := ?ys) ?h1 ?_)); (case h1 => first | assumption | exact .inl (by walk_at "sql") | exact .inr (by walk_at "sqt")))
  | ((with_reducible (refine L2.x_setL (xs := ?xs) (k := ?k) ?h1 ?h2 ?_)); (case h1 => walk_at "hp"); (case h2 => first | assumption | rfl | exact L2.atI_nat (j := 0) rfl))
  | ((with_reducible (refine L2.x_ixL (xs := ?xs) (v := ?v) ?h1 ?h2 ?_)); (case h1 => walk_at "sql"); (case h2 => first | assumption | rfl | exact L2.atI_nat (j := 0) rfl))
  | ((with_reducible (refine L2.x_ixT (xs := ?xs) (v := ?v) ?h1 ?h2 ?_)); (case h1 => walk_at "sqt"); (case h2 => first | assumption | rfl | exact L2.atI_nat (j := 0) rfl))
  | (with_reducible refine L2.x_enumS ?_)
  | ((with_reducible (refine L2.x_gTup (xs := ?xs) ?h1 ?h2 ?_)); (case h1 => walk_at "sqt"); (case h2 => rfl)))
local macro_rules | `(tactic| walk_at "vc1") => `(tactic| first | (walk_at "vc01") | (with_reducible refine L2.x_ifE ?_) | (with_reducible refine L2.x_ifS ?_))
local macro_rules | `(tactic| walk_at "vc0") => `(tactic| repeat (walk_at "vc01"))
local macro_rules | `(tactic| walk_at "vc") => `(tactic| repeat (walk_at "vc1"))
namespace Sr
open PySem PySem.Spec PyProof.Rows L2 Zs
section
variable {P : Program} {w : World} {K : PySem.W.Frag} {mg : Str → Option Value} {base : Heap}
theorem oklane_begin {f : Addr} {fd : FuncData} (F : Fun K "lane_begin" "lane_begin" slane_begin f fd) (B : Bl mg) : FnOk P w K mg base CX0 1 f fd ["shift"] (splane_begin K) := by
  refine F.ok sclane_begin (fun vs H Q E h => ?_) (fun cdv A outer s H vs Q E hr h => ?_)
  · first
      | (obtain ⟨_, rfl, _⟩ := h; rfl)
      | (obtain ⟨_, _, rfl, _⟩ := h; rfl)
      | (obtain ⟨_, _, _, rfl, _⟩ := h; rfl)
      | (obtain ⟨_, _, _, _, rfl, _⟩ := h; rfl)
      | (obtain ⟨_, _, _, _, _, rfl, _⟩ := h; rfl)
      | (obtain ⟨_, _, _, _, _, _, rfl, _⟩ := h; rfl)
      | (obtain ⟨_, _, _, _, _, _, _, rfl, _⟩ := h; rfl)
      | (obtain ⟨_, _, _, _, _, _, _, _, rfl, _⟩ := h; rfl)
      | (obtain ⟨_, _, _, _, _, _, _, _, _, rfl, _⟩ := h; rfl)
      | (obtain ⟨_, _, _, _, _, _, _, _, _, _, rfl, _⟩ := h; rfl)
      | (obtain ⟨_, _, _, _, _, _, _, _, _, _, _, rfl, _⟩ := h; rfl)
  · obtain ⟨d, rfl, q⟩ := h
    refine ⟨_, 
  (pss_one (ps_ret (pe_callB (call_max2 rfl) (by rfl) B.m_max (by decide +kernel) (pa_cons pe_int (pa_cons (pe_un un_neg (pv 0)) pa_nil))))), ?_⟩
    walk_at "vc"
    have e : (if -d > 0 then -d else 0) = ((bgn d : Nat) : Int) := by unfold bgn; omega
    rw [e]
    exact q


theorem oklikes_of {f : Addr} {fd : FuncData} {uLIKE uUNLIKE : Value} {flane_begin : Addr} {fdlane_begin : FuncData} (F : Fun K "likes_of" "likes_of" slikes_of f fd) (B : Bl mg) (C : Cs mg uLIKE uUNLIKE) (Dlane_begin : Dn P w K mg base "lane_begin" 1 ["shift"] (splane_begin K) flane_begin fdlane_begin) : FnOk P w K mg base CX0 2 f fd ["one", "other", "shift"] (splikes_of K) := by
  refine F.ok sclikes_of (fun vs H Q E h => ?_) (fun cdv A outer s H vs Q E hr h => ?_)
  · first
      | (obtain ⟨_, rfl, _⟩ := h; rfl)
      | (obtain ⟨_, _, rfl, _⟩ := h; rfl)
      | (obtain ⟨_, _, _, rfl, _⟩ := h; rfl)
      | (obtain ⟨_, _, _, _, rfl, _⟩ := h; rfl)
      | (obtain ⟨_, _, _, _, _, rfl, _⟩ := h; rfl)
      | (obtain ⟨_, _, _, _, _, _, rfl, _⟩ := h; rfl)
      | (obtain ⟨_, _, _, _, _, _, _, rfl, _⟩ := h; rfl)
      | (obtain ⟨_, _, _, _, _, _, _, _, rfl, _⟩ := h; rfl)
      | (obtain ⟨_, _, _, _, _, _, _, _, _, rfl, _⟩ := h; rfl)
      | (obtain ⟨_, _, _, _, _, _, _, _, _, _, rfl, _⟩ := h; rfl)
      | (obtain ⟨_, _, _, _, _, _, _, _, _, _, _, rfl, _⟩ := h; rfl)
  · obtain ⟨o, t, d, rfl, ho, ht, hd1, hd2, q⟩ := h
    have eo : ((S o).length : Int) = o.length := by rw [len_S]
    have et : ((S t).length : Int) = t.length := by rw [len_S]
    have lo : (S o).length ≤ sizeLine := hp_sz (by rw [len_S]; omega)
    have lt : (S t).length ≤ sizeLine := hp_sz (by rw [len_S]; omega)
    refine ⟨_, 
  (pss_cons (ps_set (i := 3) sclikes_of.nd rfl (.inl rfl) (pe_call Dlane_begin.ok hr (by rfl) Dlane_begin.g Dlane_begin.kp Dlane_begin.b .nil pass0 (pa_cons (pv 2) pa_nil))) 
  (pss_cons (ps_set (i := 4) sclikes_of.nd rfl (.inl rfl) (pe_callB (call_min2 rfl) (by rfl) B.m_min (by decide +kernel) (pa_cons (pe_callB call_len_str (by rfl) B.m_len PySem.boot_len (pa_cons (pv 0) pa_nil)) (pa_cons (pe_op op_sub (pe_callB call_len_str (by rfl) B.m_len PySem.boot_len (pa_cons (pv 1) pa_nil)) (pv 2)) pa_nil)))) 
  (pss_one (ps_ret (pe_join pe_str (pe_lc (own := [("place", 5)]) (g := gName 5) (tt := tYes) rfl sclikes_of.nd (pi_range2 rfl B.m_range (pa_cons (pv 3) (pa_cons (pv 4) pa_nil))) (blkOk_by (N := nlikes_of) (sc := defScope slikes_of) (by decide +kernel)) (fun _ _ _ _ _ => (pg_name (i := 5) sclikes_of.nd rfl (.inl rfl))) (fun _ _ _ _ _ => pts_nil) (fun _ _ _ _ _ => (pe_ifExp (pt_cmpR op_eq (pe_ix ix_str (pv 0) (pv 5) (fun _ _ => rfl)) (pe_ix ix_str (pv 1) (pe_op op_add (pv 5) (pv 2)) (fun _ _ => rfl)) (nomark _)) (pe_glob rfl C.c_LIKE.2 C.c_LIKE.1) (pe_glob rfl C.c_UNLIKE.2 C.c_UNLIKE.1))))))))), ?_⟩
    walk_at "vc"
    refine ⟨d, rfl, ?_⟩
    walk_at "vc"
    have eb : ((bgn d : Nat) : Int) = if -d > 0 then -d else 0 := by unfold bgn; omega
    refine ⟨⟨by omega, by omega, by split <;> omega, by split <;> omega⟩, ?_⟩
    have en : ((if ((S t).length : Int) - d < ((S o).length : Int) then ((S t).length : Int) - d else ((S o).length : Int)) - ((bgn d : Nat) : Int)).toNat = lkn o.length t.length d := by
      rw [eo, et]
      unfold lkn
      omega
    rw [en]
    intro D hD
    refine lc_range (fun i H' => Same H H' ∧ H' D = some (.lst ((List.range i).map fun i => V.str (sg (lk1 o t d (bgn d + i)))))) ⟨same_upd hD, upd_same⟩ (fun i H' hi h => ?_) (fun H' h => ?_)
    · walk_at "vc"
      refine ⟨rfl, ?_⟩
      have h1 : bgn d + i < o.length := by unfold lkn at hi; omega
      have h2 : 0 ≤ ((bgn d + i : Nat) : Int) + d := by unfold bgn; omega
      have h3 : (((bgn d + i : Nat) : Int) + d).toNat < t.length := by unfold lkn at hi; omega
      walk_at "vc"
      refine x_ixS lo (c := o[bgn d + i]) (atI_of (by omega) ?_) ?_
      · have e : (((bgn d : Nat) : Int) + (i : Int)).toNat = bgn d + i := by omega
        rw [e]
        exact List.getElem?_eq_getElem h1
      walk_at "vc"
      refine x_ixS lt (c := t[(((bgn d + i : Nat) : Int) + d).toNat]) (atI_of (by omega) ?_) ?_
      · have e : ((((bgn d : Nat) : Int) + (i : Int)) + d).toNat = (((bgn d + i : Nat) : Int) + d).toNat := by omega
        rw [e]
        exact List.getElem?_eq_getElem h3
      walk_at "vc"
      have ek : ∀ c : Nat, lk1 o t d (bgn d + i) = c → ∃ acc, H' D = some (.lst acc) ∧ acc.length < sizeLine ∧ (Same H (upd H' D (.lst (acc ++ [V.str (sg c)]))) ∧ upd H' D (.lst (acc ++ [V.str (sg c)])) D = some (.lst ((List.range (i + 1)).map fun i => V.str (sg (lk1 o t d (bgn d + i)))))) :=
        fun c hc => pv_step hD h.1 h.2 (by unfold lkn at hi; omega) (by rw [hc])
      have el : lk1 o t d (bgn d + i) = if o[bgn d + i] = t[(((bgn d + i : Nat) : Int) + d).toNat] then 61 else 47 := by
        unfold lk1
        rw [List.getElem?_eq_getElem h1, List.getElem?_eq_getElem h3]
        simp only [Option.some.injEq]
      refine ite2 (fun e => ?_) (fun e => ?_)
      · walk_at "vc"
        refine ek 61 ?_
        have e' := of_decide_eq_true e
        rw [el, if_pos]
        simpa using e'
      · walk_at "vc"
        refine ek 47 ?_
        rw [el, if_neg]
        intro e'
        exact e (decide_eq_true (by rw [e']))
    · refine join_end (cs := likL o t d) ?_ (by have := likL_le o t d; omega) ?_
      · rw [h.2, likL_eq, List.map_map]
        rfl
      · exact q H' h.1


theorem okbound {f : Addr} {fd : FuncData} (F : Fun K "bound" "bound" sbound f fd) (B : Bl mg) : FnOk P w K mg base CX0 1 f fd ["one", "other", "scale"] (spbound K) := by
  refine F.ok scbound (fun vs H Q E h => ?_) (fun cdv A outer s H vs Q E hr h => ?_)
  · first
      | (obtain ⟨_, rfl, _⟩ := h; rfl)
      | (obtain ⟨_, _, rfl, _⟩ := h; rfl)
      | (obtain ⟨_, _, _, rfl, _⟩ := h; rfl)
      | (obtain ⟨_, _, _, _, rfl, _⟩ := h; rfl)
      | (obtain ⟨_, _, _, _, _, rfl, _⟩ := h; rfl)
      | (obtain ⟨_, _, _, _, _, _, rfl, _⟩ := h; rfl)
      | (obtain ⟨_, _, _, _, _, _, _, rfl, _⟩ := h; rfl)
      | (obtain ⟨_, _, _, _, _, _, _, _, rfl, _⟩ := h; rfl)
      | (obtain ⟨_, _, _, _, _, _, _, _, _, rfl, _⟩ := h; rfl)
      | (obtain ⟨_, _, _, _, _, _, _, _, _, _, rfl, _⟩ := h; rfl)
      | (obtain ⟨_, _, _, _, _, _, _, _, _, _, _, rfl, _⟩ := h; rfl)
  · obtain ⟨o, t, p, g, l, rfl, hp, ho, ht, g0, g1, q⟩ := h
    refine ⟨_, 
  (pss_cons (ps_asg (pv 2) (pg_tup rfl (pgs_cons (pg_name (i := 3) scbound.nd rfl (.inl rfl)) (pgs_cons (pg_name (i := 4) scbound.nd rfl (.inl rfl)) pgs_nil)))) 
  (pss_one (ps_ret (pe_op op_mul (pv 3) (pe_callB (cr_sum rfl) (by rfl) B.m_sum (by decide +kernel) (pa_cons (pe_lc (own := [("sign", 5)]) (g := gName 5) (tt := tYes) rfl scbound.nd (pi_list (pe_callB (show CallR _ (.builtin "sorted") (rSortTx w) from cr_sortTx rfl hr.units) (by rfl) B.m_sorted (by decide +kernel) (pa_cons (pe_callTy (show CallR _ (.type "set") (rSetTx w) from cr_setTx rfl) (by rfl) B.m_set (by decide +kernel) (pa_cons (pv 0) pa_nil)) pa_nil))) (blkOk_by (N := nbound) (sc := defScope sbound) (by decide +kernel)) (fun _ _ _ _ _ => (pg_name (i := 5) scbound.nd rfl (.inl rfl))) (fun _ _ _ _ _ => pts_nil) (fun _ _ _ _ _ => (pe_callB (call_min2 rfl) (by rfl) B.m_min (by decide +kernel) (pa_cons (pe_m1 PySem.F.slot_str_count PySem.F.type_str_count mt_count (pv 0) (pv 5)) (pa_cons (pe_m1 PySem.F.slot_str_count PySem.F.type_str_count mt_count (pv 1) (pv 5)) pa_nil))))) pa_nil)))))), ?_⟩
    walk_at "vc"
    refine ⟨S o, rfl, by rw [show (S o).cps.size = o.length from len_S o]; omega, fun sp L hL hsp => ?_⟩
    rw [show (S o).cps.toList = o from rfl] at hL
    have sm1 : Same H (upd H sp (ZtO w sp L)) := same_upd hsp
    have hsp1 : upd H sp (ZtO w sp L) sp = some (ZtO w sp L) := upd_same
    have hLn : L.length ≤ 1000 := by
      obtain ⟨cs, e, n1, n2⟩ := uniq_codes hL (.refl _)
      have h1 := congrArg List.length e
      rw [List.length_map, List.length_map] at h1
      have h2 := nat_nodup_len cs o n1 fun c hc => (n2 c).mp hc
      omega
    generalize upd H sp (ZtO w sp L) = H1 at sm1 hsp1
    walk_at "vc"
    refine ⟨sp, L, rfl, hsp1, by omega, fun ys q1 pm hq1 => ?_⟩
    obtain ⟨cs, ecs, n1, n2⟩ := uniq_codes hL pm
    have hcl : cs.length ≤ 1000 := by
      have h2 := nat_nodup_len cs o n1 fun c hc => (n2 c).mp hc
      omega
    rw [ecs]
    have sm2 : Same H1 (upd H1 q1 (.lst ((cs.map sg).map V.str))) := same_upd hq1
    have hq2 : upd H1 q1 (.lst ((cs.map sg).map V.str)) q1 = some (.lst ((cs.map sg).map V.str)) := upd_same
    generalize upd H1 q1 (.lst ((cs.map sg).map V.str)) = H2 at sm2 hq2
    refine x_iListi (SqL.of hq2) ?_
    intro D hD
    refine lc_list (K := K) (a := q1) (xs := (cs.map sg).map V.str) (fun i H' => Same H2 H' ∧ H' D = some (.lst (((cs.take i).map fun c => ((min (o.count c) (t.count c) : Nat) : Int)).map V.int))) ⟨same_upd hD, upd_same⟩ (fun i H' _ h => SqL.of (h.1 _ _ hq2)) ?_ ?_
    · rintro i x H3 hx ⟨sm3, hD3⟩
      rw [List.map_map, List.getElem?_map] at hx
      obtain ⟨c, hc, ex⟩ := Option.map_eq_some_iff.mp hx
      have ex : x = V.str (sg c) := ex.symm
      subst ex
      have hi := (List.getElem?_eq_some_iff.mp hc).1
      walk_at "vc"
      refine ⟨rfl, ?_⟩
      walk_at "vc"
      rw [show Txt.count (S o) (sg c) = ((o.count c : Nat) : Int) by rw [count_sign, tl_S], show Txt.count (S t) (sg c) = ((t.count c : Nat) : Int) by rw [count_sign, tl_S]]
      have em : (if ((t.count c : Nat) : Int) < ((o.count c : Nat) : Int) then ((t.count c : Nat) : Int) else ((o.count c : Nat) : Int)) = ((min (o.count c) (t.count c) : Nat) : Int) := by
        split <;> omega
      rw [em]
      refine ⟨_, hD3, ?_, fun b o e => ?_, ?_⟩
      · rw [List.length_map, List.length_map, List.length_take]
        exact Nat.lt_of_le_of_lt (by omega : _ ≤ 1000) (by decide)
      · rw [upd_ne (ne_of_none e hD)]
        exact sm3 b o e
      · rw [upd_same, List.take_succ, hc]
        simp
    · rintro H3 ⟨sm3, hD3⟩
      rw [List.length_map, List.length_map, List.take_length] at hD3
      refine ⟨D, _, rfl, SqL.of hD3, ?_⟩
      have es : (cs.map fun c => ((min (o.count c) (t.count c) : Nat) : Int)).sum = ((cm o t : Nat) : Int) := by
        rw [← cmS_cm n1 fun c hc => (n2 c).mpr hc]
        unfold cmS
        clear hD3 hq2 hcl n1 n2 ecs
        induction cs with
        | nil => rfl
        | cons c cs ih =>
          rw [List.map_cons, List.map_cons, List.sum_cons, List.sum_cons, ih]
          omega
      rw [es]
      walk_at "vc"
      exact q H3 (sm1.trans (sm2.trans sm3))


theorem ok_law_next {f : Addr} {fd : FuncData} (F : Fun K "_law_next" "_law_next" s_law_next f fd) (B : Bl mg) : FnOk P w K mg base CX0 1 f fd ["_law_h", "_law_many"] (sp_law_next K) := by
  refine F.ok sc_law_next (fun vs H Q E h => ?_) (fun cdv A outer s H vs Q E hr h => ?_)
  · first
      | (obtain ⟨_, rfl, _⟩ := h; rfl)
      | (obtain ⟨_, _, rfl, _⟩ := h; rfl)
      | (obtain ⟨_, _, _, rfl, _⟩ := h; rfl)
      | (obtain ⟨_, _, _, _, rfl, _⟩ := h; rfl)
      | (obtain ⟨_, _, _, _, _, rfl, _⟩ := h; rfl)
      | (obtain ⟨_, _, _, _, _, _, rfl, _⟩ := h; rfl)
      | (obtain ⟨_, _, _, _, _, _, _, rfl, _⟩ := h; rfl)
      | (obtain ⟨_, _, _, _, _, _, _, _, rfl, _⟩ := h; rfl)
      | (obtain ⟨_, _, _, _, _, _, _, _, _, rfl, _⟩ := h; rfl)
      | (obtain ⟨_, _, _, _, _, _, _, _, _, _, rfl, _⟩ := h; rfl)
      | (obtain ⟨_, _, _, _, _, _, _, _, _, _, _, rfl, _⟩ := h; rfl)
  · obtain ⟨a, b, m, rfl, ⟨nab, s0, i0, cs, ha, hb, hcs⟩, hm, hm2, q⟩ := h
    refine ⟨_, 
  (pss_cons (ps_set (i := 2) sc_law_next.nd rfl (.inl rfl) (pe_op op_mod (pe_ix ix_list (pv 0) pe_int (fun _ _ => rfl)) (pe_callB (call_max2 rfl) (by rfl) B.m_max (by decide +kernel) (pa_cons pe_int (pa_cons (pe_callB call_len_seq (by rfl) B.m_len PySem.boot_len (pa_cons (pe_ix ix_list (pv 0) pe_int (fun _ _ => rfl)) pa_nil)) pa_nil))))) 
  (pss_cons (ps_set (i := 3) sc_law_next.nd rfl (.inl rfl) (pe_ifExp (pt_cmpR (op_neD hr.units) (pe_ix ix_list (pv 0) pe_int (fun _ _ => rfl)) (pe_lst pa_nil) (nomark _)) (pe_ix ix_list (pe_ix ix_list (pv 0) pe_int (fun _ _ => rfl)) (pv 2) (fun _ _ => rfl)) pe_int)) 
  (pss_cons (ps_if (pt_cmpR op_ge (pv 3) (pe_op op_pow pe_int pe_int) (nomark _)) 
    (pss_cons (ps_asg (pe_op op_fdiv (pv 3) (pv 1)) (pg_sub (pe_ix ix_list (pv 0) pe_int (fun _ _ => rfl)) (pv 2) set_list)) 
    (pss_one (ps_ret (pe_op op_mod (pv 3) (pv 1))))) pss_nil) 
  (pss_cons (ps_asg (pe_op op_mod (pe_op op_add (pe_op op_add (pe_op op_mul (pe_ix ix_list (pv 0) pe_int (fun _ _ => rfl)) pe_int) (pe_op op_mul (pv 3) pe_int)) pe_int) pe_int) (pg_sub (pv 0) pe_int set_list)) 
  (pss_cons (ps_asg (pe_op op_add (pe_ix ix_list (pv 0) pe_int (fun _ _ => rfl)) pe_int) (pg_sub (pv 0) pe_int set_list)) 
  (pss_one (ps_ret (pe_op op_mod (pe_op op_fdiv (pe_ix ix_list (pv 0) pe_int (fun _ _ => rfl)) pe_int) (pv 1))))))))), ?_⟩
    walk_at "vc"
    refine ⟨by decide, fun p hp => ?_⟩
    have kp : Kp a b H (upd H p (.lst [])) := Kp.new hp
    have ha1 : upd H p (.lst []) a = some (HO.lst [V.int s0, V.ref b, V.int i0]) := by rw [upd_ne (ne_of_none ha hp)]; exact ha
    have hb1 : upd H p (.lst []) b = some (HO.lst (List.map V.int cs)) := by rw [upd_ne (ne_of_none hb hp)]; exact hb
    have hp1 : upd H p (.lst []) p = some (HO.lst []) := upd_same
    generalize upd H p (.lst []) = H1 at kp ha1 hb1 hp1
    refine ⟨.list (cs.map PyData.int), .list [], .lst (SqL.of hb1) (dp_ints cs), .lst (SqL.of hp1) .nil, shaped_ints cs, by decide +kernel, ?_⟩
    have hat : ∃ at_ : Int, (i0 % if ((cs.map V.int).length : Int) > 1 then ((cs.map V.int).length : Int) else 1) = at_ ∧ 0 ≤ at_ ∧ (cs ≠ [] → at_ < (cs.length : Int)) := by
      refine ⟨_, rfl, Int.emod_nonneg _ (by split <;> omega), fun hne => ?_⟩
      have hl : 0 < cs.length := List.length_pos_iff.mpr hne
      rw [List.length_map]
      by_cases h1 : (cs.length : Int) > 1
      · rw [if_pos h1]
        exact Int.emod_lt_of_pos _ (by omega)
      · rw [if_neg h1]
        have := Int.emod_lt_of_pos i0 (show (0 : Int) < 1 by omega)
        omega
    obtain ⟨at_, eat, hat0, hat1⟩ := hat
    rw [eat]
    rw [eqv_ints_nil]
    walk_at "vc"
    by_cases hne : cs = []
    · subst hne
      refine iteF ?_
      walk_at "vc"
      refine ite2 (fun e => absurd (of_decide_eq_true e) (by decide)) (fun e => ?_)
      walk_at "vc"
      refine q _ _ (Int.emod_nonneg _ (by omega)) (Int.emod_lt_of_pos _ hm) ⟨nab, _, _, [], upd_same, ?_, by decide⟩ (kp.trans (Kp.at_a.trans Kp.at_a))
      walk_at "hp"
    · have hb0 : (!cs.isEmpty) = true := by
        cases cs with
        | nil => exact absurd rfl hne
        | cons _ _ => rfl
      rw [hb0]
      refine iteT ?_
      have hl : at_.toNat < cs.length := by have := hat1 hne; omega
      have hix : atI (cs.map V.int) at_ = some (.int cs[at_.toNat]) := atI_of hat0 (ints_at hl)
      have hix2 : ixN (cs.map V.int).length at_ = some at_.toNat := ixN_of hat0 (by rw [List.length_map]; exact hat1 hne)
      walk_at "vc"
      refine ite2 (fun e => ?_) (fun e => ?_)
      · walk_at "vc"
        refine q _ _ (Int.emod_nonneg _ (by omega)) (Int.emod_lt_of_pos _ hm) ⟨nab, s0, i0, cs.set at_.toNat (cs[at_.toNat] / m), ?_, ?_, by rw [List.length_set]; exact hcs⟩ (kp.trans Kp.at_b)
        · walk_at "hp"
        · rw [← map_set_int]
          exact upd_same
      · walk_at "vc"
        refine q _ _ (Int.emod_nonneg _ (by omega)) (Int.emod_lt_of_pos _ hm) ⟨nab, _, _, cs, upd_same, ?_, hcs⟩ (kp.trans (Kp.at_a.trans Kp.at_a))
        walk_at "hp"


theorem ok_law_letters {f : Addr} {fd : FuncData} {f_law_next : Addr} {fd_law_next : FuncData} (F : Fun K "_law_letters" "_law_letters" s_law_letters f fd) (B : Bl mg) (D_law_next : Dn P w K mg base "_law_next" 1 ["_law_h", "_law_many"] (sp_law_next K) f_law_next fd_law_next) : FnOk P w K mg base CX0 2 f fd ["_law_h"] (sp_law_letters K) := by
  refine F.ok sc_law_letters (fun vs H Q E h => ?_) (fun cdv A outer s H vs Q E hr h => ?_)
  · first
      | (obtain ⟨_, rfl, _⟩ := h; rfl)
      | (obtain ⟨_, _, rfl, _⟩ := h; rfl)
      | (obtain ⟨_, _, _, rfl, _⟩ := h; rfl)
      | (obtain ⟨_, _, _, _, rfl, _⟩ := h; rfl)
      | (obtain ⟨_, _, _, _, _, rfl, _⟩ := h; rfl)
      | (obtain ⟨_, _, _, _, _, _, rfl, _⟩ := h; rfl)
      | (obtain ⟨_, _, _, _, _, _, _, rfl, _⟩ := h; rfl)
      | (obtain ⟨_, _, _, _, _, _, _, _, rfl, _⟩ := h; rfl)
      | (obtain ⟨_, _, _, _, _, _, _, _, _, rfl, _⟩ := h; rfl)
      | (obtain ⟨_, _, _, _, _, _, _, _, _, _, rfl, _⟩ := h; rfl)
      | (obtain ⟨_, _, _, _, _, _, _, _, _, _, _, rfl, _⟩ := h; rfl)
  · obtain ⟨a, b, rfl, hs, q⟩ := h
    refine ⟨_, 
  (pss_cons (ps_set (i := 1) sc_law_letters.nd rfl (.inr rfl) (pe_call D_law_next.ok hr (by rfl) D_law_next.g D_law_next.kp D_law_next.b .nil pass0 (pa_cons (pv 0) (pa_cons pe_int pa_nil)))) 
  (pss_one (ps_ret (pe_join pe_str (pe_lc (own := [("_law_k", 2)]) (g := gName 2) (tt := tYes) rfl sc_law_letters.nd (pi_range1 rfl B.m_range (pa_cons (pe_op op_add pe_int (pe_call D_law_next.ok hr (by rfl) D_law_next.g D_law_next.kp D_law_next.b .nil pass0 (pa_cons (pv 0) (pa_cons pe_int pa_nil)))) pa_nil)) (blkOk_by (N := n_law_letters) (sc := defScope s_law_letters) (by decide +kernel)) (fun _ _ _ _ _ => (pg_name (i := 2) sc_law_letters.nd rfl (.inl rfl))) (fun _ _ _ _ _ => pts_nil) (fun _ _ _ _ _ => (pe_ix ix_str pe_str (pe_op op_mod (pe_op op_add (pv 1) (pe_op op_mul pe_int (pv 2))) pe_int) (fun _ _ => rfl)))))))), ?_⟩
    walk_at "vc"
    refine ⟨a, b, 26, rfl, hs, by omega, by omega, fun r H1 r0 r1 hs1 k1 => ?_⟩
    walk_at "vc"
    refine ⟨a, b, 5, rfl, hs1, by omega, by omega, fun r' H2 r2 r3 hs2 k2 => ?_⟩
    walk_at "vc"
    intro D hD
    have hf : ∀ i, i < (2 + r').toNat → atI (("abcdefghijklmnopqrstuvwxyz" : Str).cps.toList) ((r + 7 * (0 + (i : Int))) % 26) = some (97 + (r.toNat + 7 * i) % 26) := fun i hi => by
      have e : (r + 7 * (0 + (i : Int))) % 26 = (((r.toNat + 7 * i) % 26 : Nat) : Int) := by omega
      rw [e]
      refine atI_nat ?_
      have h : (r.toNat + 7 * i) % 26 < 26 := Nat.mod_lt _ (by decide)
      generalize (r.toNat + 7 * i) % 26 = j at h
      have e2 : ("abcdefghijklmnopqrstuvwxyz" : Str).cps.toList = (List.range 26).map (97 + ·) := by decide +kernel
      rw [e2, List.getElem?_map, List.getElem?_range h]
      rfl
    refine lc_range (fun i H' => Same H2 H' ∧ H' D = some (.lst ((List.range i).map fun k => V.str (sg (97 + (r.toNat + 7 * k) % 26))))) ⟨same_upd hD, upd_same⟩ (fun i H' hi h => ?_) (fun H' h => ?_)
    · walk_at "vc"
      refine ⟨rfl, ?_⟩
      walk_at "vc"
      refine x_ixS (by decide +kernel) (hf i hi) ?_
      exact pv_step hD h.1 h.2 (by omega) rfl
    · refine join_end (cs := letL r.toNat (2 + r').toNat) ?_ (by rw [letL_len]; omega) ?_
      · rw [h.2]
        unfold letL
        rw [List.map_map]
        rfl
      · refine q r.toNat (2 + r').toNat H' (by omega) (by omega) (by omega) ?_ (k1.trans (k2.trans (Kp.of h.1)))
        obtain ⟨n, s, i, cs, h1, h2, h3⟩ := hs2
        exact ⟨n, s, i, cs, h.1 _ _ h1, h.1 _ _ h2, h3⟩


theorem ok_law_row {f : Addr} {fd : FuncData} {f_law_next : Addr} {fd_law_next : FuncData} (F : Fun K "_law_row" "_law_row" s_law_row f fd) (B : Bl mg) (D_law_next : Dn P w K mg base "_law_next" 1 ["_law_h", "_law_many"] (sp_law_next K) f_law_next fd_law_next) : FnOk P w K mg base CX0 2 f fd ["_law_h", "_law_letters_here", "_law_most"] (sp_law_row K) := by
  refine F.ok sc_law_row (fun vs H Q E h => ?_) (fun cdv A outer s H vs Q E hr h => ?_)
  · first
      | (obtain ⟨_, rfl, _⟩ := h; rfl)
      | (obtain ⟨_, _, rfl, _⟩ := h; rfl)
      | (obtain ⟨_, _, _, rfl, _⟩ := h; rfl)
      | (obtain ⟨_, _, _, _, rfl, _⟩ := h; rfl)
      | (obtain ⟨_, _, _, _, _, rfl, _⟩ := h; rfl)
      | (obtain ⟨_, _, _, _, _, _, rfl, _⟩ := h; rfl)
      | (obtain ⟨_, _, _, _, _, _, _, rfl, _⟩ := h; rfl)
      | (obtain ⟨_, _, _, _, _, _, _, _, rfl, _⟩ := h; rfl)
      | (obtain ⟨_, _, _, _, _, _, _, _, _, rfl, _⟩ := h; rfl)
      | (obtain ⟨_, _, _, _, _, _, _, _, _, _, rfl, _⟩ := h; rfl)
      | (obtain ⟨_, _, _, _, _, _, _, _, _, _, _, rfl, _⟩ := h; rfl)
  · obtain ⟨a, b, l, m, rfl, hs, hl0, hl1, hm0, hm1, q⟩ := h
    have el : (S l).length = l.length := len_S l
    have hl : (S l).length ≤ sizeLine := hp_sz (by omega)
    refine ⟨_, 
  (pss_one (ps_ret (pe_join pe_str (pe_lc (own := [("_law_k", 3)]) (g := gName 3) (tt := tYes) rfl sc_law_row.nd (pi_range1 rfl B.m_range (pa_cons (pe_call D_law_next.ok hr (by rfl) D_law_next.g D_law_next.kp D_law_next.b .nil pass0 (pa_cons (pv 0) (pa_cons (pe_op op_add (pv 2) pe_int) pa_nil))) pa_nil)) (blkOk_by (N := n_law_row) (sc := defScope s_law_row) (by decide +kernel)) (fun _ _ _ _ _ => (pg_name (i := 3) sc_law_row.nd rfl (.inl rfl))) (fun _ _ _ _ _ => pts_nil) (fun _ _ _ _ _ => (pe_ix ix_str (pv 1) (pe_call D_law_next.ok hr (by rfl) D_law_next.g D_law_next.kp D_law_next.b .nil pass0 (pa_cons (pv 0) (pa_cons (pe_callB call_len_str (by rfl) B.m_len PySem.boot_len (pa_cons (pv 1) pa_nil)) pa_nil))) (fun _ _ => rfl))))))), ?_⟩
    walk_at "vc"
    refine ⟨a, b, m + 1, rfl, hs, by omega, by omega, fun r H1 r0 r1 hs1 k1 => ?_⟩
    walk_at "vc"
    intro D hD
    refine lc_range (fun i H' => Dr a b H1 D (fun c => c ∈ l) i H') (Dr.start hs1 hD) (fun i H' hi h => ?_) (fun H' h => ?_)
    · walk_at "vc"
      refine ⟨rfl, ?_⟩
      walk_at "vc"
      have hsd : Src H' a b := by obtain ⟨_, _, _, x, _⟩ := h; exact x
      refine ⟨a, b, ((S l).length : Nat), rfl, hsd, by omega, by omega, fun r' H2 r2 r3 hs2 k2 => ?_⟩
      have hr' : r'.toNat < l.length := by omega
      refine x_ixS hl (atI_of r2 (List.getElem?_eq_getElem hr')) ?_
      exact h.step hD hs1 (by omega) hs2 k2 (List.getElem_mem hr')
    · obtain ⟨cs, hcl, hok, hsd, kd, hDd⟩ := h
      refine join_end (cs := cs) hDd (by omega) ?_
      exact q cs H' (by omega) hok hsd (k1.trans kd)


theorem ok_law_near {f : Addr} {fd : FuncData} {f_law_row : Addr} {fd_law_row : FuncData} {f_law_next : Addr} {fd_law_next : FuncData} (F : Fun K "_law_near" "_law_near" s_law_near f fd) (B : Bl mg) (D_law_row : Dn P w K mg base "_law_row" 2 ["_law_h", "_law_letters_here", "_law_most"] (sp_law_row K) f_law_row fd_law_row) (D_law_next : Dn P w K mg base "_law_next" 1 ["_law_h", "_law_many"] (sp_law_next K) f_law_next fd_law_next) : FnOk P w K mg base CX0 3 f fd ["_law_h", "_law_row_here", "_law_letters_here"] (sp_law_near K) := by
  refine F.ok sc_law_near (fun vs H Q E h => ?_) (fun cdv A outer s H vs Q E hr h => ?_)
  · first
      | (obtain ⟨_, rfl, _⟩ := h; rfl)
      | (obtain ⟨_, _, rfl, _⟩ := h; rfl)
      | (obtain ⟨_, _, _, rfl, _⟩ := h; rfl)
      | (obtain ⟨_, _, _, _, rfl, _⟩ := h; rfl)
      | (obtain ⟨_, _, _, _, _, rfl, _⟩ := h; rfl)
      | (obtain ⟨_, _, _, _, _, _, rfl, _⟩ := h; rfl)
      | (obtain ⟨_, _, _, _, _, _, _, rfl, _⟩ := h; rfl)
      | (obtain ⟨_, _, _, _, _, _, _, _, rfl, _⟩ := h; rfl)
      | (obtain ⟨_, _, _, _, _, _, _, _, _, rfl, _⟩ := h; rfl)
      | (obtain ⟨_, _, _, _, _, _, _, _, _, _, rfl, _⟩ := h; rfl)
      | (obtain ⟨_, _, _, _, _, _, _, _, _, _, _, rfl, _⟩ := h; rfl)
  · obtain ⟨a, b, r, l, rfl, hs, hl0, hl1, hr1, hrl, q⟩ := h
    have el : (S l).length = l.length := len_S l
    have er : (S r).length = r.length := len_S r
    have hl : (S l).length ≤ sizeLine := hp_sz (by omega)
    refine ⟨_, 
  (pss_cons (ps_set (i := 3) sc_law_near.nd rfl (.inl rfl) (pe_call D_law_row.ok hr (by rfl) D_law_row.g D_law_row.kp D_law_row.b .nil pass0 (pa_cons (pv 0) (pa_cons (pv 2) (pa_cons pe_int pa_nil))))) 
  (pss_cons (ps_set (i := 4) sc_law_near.nd rfl (.inl rfl) (pe_op op_add pe_int (pe_call D_law_next.ok (hr.mono (by decide)) (by rfl) D_law_next.g D_law_next.kp D_law_next.b .nil pass0 (pa_cons (pv 0) (pa_cons pe_int pa_nil))))) 
  (pss_cons (ps_for PassesOwn.never rfl (pi_str (pv 1)) (pg_name (i := 5) sc_law_near.nd rfl (.inl rfl)) 
    (pss_cons (ps_set (i := 6) sc_law_near.nd rfl (.inl rfl) (pe_call D_law_next.ok (hr.mono (by decide)) (by rfl) D_law_next.g D_law_next.kp D_law_next.b .nil pass0 (pa_cons (pv 0) (pa_cons (pv 4) pa_nil)))) 
    (pss_one (ps_if (pt_cmpR op_gt (pv 6) pe_int (nomark _)) 
      (pss_one (ps_set (i := 3) sc_law_near.nd rfl (.inl rfl) (pe_op op_add_str (pv 3) (pv 5)))) 
      (pss_one (ps_if (pt_cmpR op_gt (pe_call D_law_next.ok (hr.mono (by decide)) (by rfl) D_law_next.g D_law_next.kp D_law_next.b .nil pass0 (pa_cons (pv 0) (pa_cons pe_int pa_nil))) pe_int (nomark _)) 
        (pss_one (ps_set (i := 3) sc_law_near.nd rfl (.inl rfl) (pe_op op_add_str (pv 3) (pe_ix ix_str (pv 2) (pe_call D_law_next.ok (hr.mono (by decide)) (by rfl) D_law_next.g D_law_next.kp D_law_next.b .nil pass0 (pa_cons (pv 0) (pa_cons (pe_callB call_len_str (by rfl) B.m_len PySem.boot_len (pa_cons (pv 2) pa_nil)) pa_nil))) (fun _ _ => rfl))))) pss_nil)))))) 
  (pss_one (ps_ret (pe_slice sl_str (pe_op op_add_str (pv 3) (pe_call D_law_row.ok hr (by rfl) D_law_row.g D_law_row.kp D_law_row.b .nil pass0 (pa_cons (pv 0) (pa_cons (pv 2) (pa_cons pe_int pa_nil))))) po_none (po_some pe_int))))))), ?_⟩
    walk_at "vc"
    refine ⟨a, b, l, 6, rfl, hs, hl0, hl1, by omega, by omega, fun f H1 hf1 hf2 hs1 k1 => ?_⟩
    walk_at "vc"
    refine ⟨a, b, 12, rfl, hs1, by omega, by omega, fun kk H2 kk0 kk1 hs2 k2 => ?_⟩
    walk_at "vc"
    refine for_it (walk_str (z := S r)) (fun i σ H' => ∃ (z : List Nat) (y5 y6 : Option V), σ = [some (.ref a), some (.str (S r)), some (.str (S l)), some (.str (S z)), some (.int (2 + kk)), y5, y6] ∧ z.length ≤ 6 + i ∧ (∀ c ∈ z, c ∈ l) ∧ Src H' a b ∧ Kp a b H H')
      ⟨f, none, none, rfl, by omega, hf2, hs2, k1.trans k2⟩ (fun _ _ _ _ _ => trivial) ?_ ?_
    · rintro i x σ H3 H4 hi ⟨z, y5, y6, rfl, hz1, hz2, hs3, k3⟩ ⟨rfl, c, hc, rfl⟩
      have hi' : i < r.length := hi
      have hcl : c ∈ l := by
        refine hrl c ?_
        have : r[i]? = some c := by simpa [S] using hc
        exact List.mem_of_getElem? this
      have ez : (S z).length = z.length := len_S z
      have fin : ∀ (z' : List Nat) (y5 y6 : Option V) (H5 : Hp), z'.length ≤ 6 + (i + 1) → (∀ c ∈ z', c ∈ l) → Src H5 a b → Kp a b H4 H5 → ∃ (z : List Nat) (y5' y6' : Option V), [some (V.ref a), some (.str (S r)), some (.str (S l)), some (.str (S z')), some (.int (2 + kk)), y5, y6] = [some (.ref a), some (.str (S r)), some (.str (S l)), some (.str (S z)), some (.int (2 + kk)), y5', y6'] ∧ z.length ≤ 6 + (i + 1) ∧ (∀ c ∈ z, c ∈ l) ∧ Src H5 a b ∧ Kp a b H H5 :=
        fun z' y5 y6 H5 h1 h2 h3 h4 => ⟨z', y5, y6, rfl, h1, h2, h3, k3.trans h4⟩
      have hadd : ∀ d : Nat, d ∈ l → (z ++ [d]).length ≤ 6 + (i + 1) ∧ ∀ c ∈ z ++ [d], c ∈ l := fun d hd => by
        refine ⟨by rw [List.length_append]; show z.length + 1 ≤ _; omega, fun c hc => ?_⟩
        rcases List.mem_append.mp hc with h | h
        · exact hz2 c h
        · rw [List.mem_singleton.mp h]
          exact hd
      walk_at "vc"
      refine ⟨a, b, 2 + kk, rfl, hs3, by omega, by omega, fun w1 H5 w10 w11 hs5 k5 => ?_⟩
      walk_at "vc"
      refine ite2 (fun e => ?_) (fun e => ?_)
      · walk_at "vc"
        refine ⟨S z, sg c, rfl, rfl, hp_sz (by show (S z).length + 1 ≤ _; omega), ?_⟩
        rw [sg_S, S_app]
        exact fin (z ++ [c]) _ _ H5 (hadd c hcl).1 (hadd c hcl).2 hs5 k5
      · walk_at "vc"
        refine ⟨a, b, 3, rfl, hs5, by omega, by omega, fun w2 H6 w20 w21 hs6 k6 => ?_⟩
        walk_at "vc"
        refine ite2 (fun e => ?_) (fun e => ?_)
        · walk_at "vc"
          refine ⟨a, b, ((S l).length : Nat), rfl, hs6, by omega, by omega, fun w3 H7 w30 w31 hs7 k7 => ?_⟩
          have hw : w3.toNat < l.length := by omega
          refine x_ixS hl (atI_of w30 (List.getElem?_eq_getElem hw)) ?_
          refine ⟨S z, sg l[w3.toNat], rfl, rfl, hp_sz (by show (S z).length + 1 ≤ _; omega), ?_⟩
          walk_at "vc"
          rw [sg_S, S_app]
          exact fin (z ++ [l[w3.toNat]]) _ _ H7 (hadd _ (List.getElem_mem hw)).1 (hadd _ (List.getElem_mem hw)).2 hs7 (k5.trans (k6.trans k7))
        · walk_at "vc"
          exact fin z _ _ H6 (by omega) hz2 hs6 (k5.trans k6)
    · rintro σ H3 ⟨z, y5, y6, rfl, hz1, hz2, hs3, k3⟩
      have hz1' : z.length ≤ 6 + r.length := hz1
      walk_at "vc"
      refine ⟨a, b, l, 6, rfl, hs3, hl0, hl1, by omega, by omega, fun f2 H4 hg1 hg2 hs4 k4 => ?_⟩
      refine ⟨S z, S f2, rfl, rfl, hp_sz (by rw [len_S, len_S]; omega), ?_⟩
      rw [S_app]
      walk_at "vc"
      refine x_slS (hp_sz (by rw [len_S, List.length_append]; omega)) ?_
      have hall : ∀ c ∈ z ++ f2, c ∈ l := fun c hc => by
        rcases List.mem_append.mp hc with h | h
        · exact hz2 c h
        · exact hg2 c h
      have ecut : cutS (S (z ++ f2)) none (some 60) = S ((z ++ f2).take 60) := cutS_take (z ++ f2) 60
      rw [ecut]
      exact q _ H4 (by rw [List.length_take]; omega) (fun c hc => hall c (List.mem_of_mem_take hc)) hs4 (k3.trans k4)


theorem ok_law_scale {f : Addr} {fd : FuncData} {f_law_next : Addr} {fd_law_next : FuncData} (F : Fun K "_law_scale" "_law_scale" s_law_scale f fd) (B : Bl mg) (D_law_next : Dn P w K mg base "_law_next" 1 ["_law_h", "_law_many"] (sp_law_next K) f_law_next fd_law_next) : FnOk P w K mg base CX0 2 f fd ["_law_h"] (sp_law_scale K) := by
  refine F.ok sc_law_scale (fun vs H Q E h => ?_) (fun cdv A outer s H vs Q E hr h => ?_)
  · first
      | (obtain ⟨_, rfl, _⟩ := h; rfl)
      | (obtain ⟨_, _, rfl, _⟩ := h; rfl)
      | (obtain ⟨_, _, _, rfl, _⟩ := h; rfl)
      | (obtain ⟨_, _, _, _, rfl, _⟩ := h; rfl)
      | (obtain ⟨_, _, _, _, _, rfl, _⟩ := h; rfl)
      | (obtain ⟨_, _, _, _, _, _, rfl, _⟩ := h; rfl)
      | (obtain ⟨_, _, _, _, _, _, _, rfl, _⟩ := h; rfl)
      | (obtain ⟨_, _, _, _, _, _, _, _, rfl, _⟩ := h; rfl)
      | (obtain ⟨_, _, _, _, _, _, _, _, _, rfl, _⟩ := h; rfl)
      | (obtain ⟨_, _, _, _, _, _, _, _, _, _, rfl, _⟩ := h; rfl)
      | (obtain ⟨_, _, _, _, _, _, _, _, _, _, _, rfl, _⟩ := h; rfl)
  · obtain ⟨a, b, rfl, hs, q⟩ := h
    refine ⟨_, 
  (pss_one (ps_ret (pe_tup (pa_cons (pe_op op_add pe_int (pe_call D_law_next.ok hr (by rfl) D_law_next.g D_law_next.kp D_law_next.b .nil pass0 (pa_cons (pv 0) (pa_cons (pe_ix ix_list (pe_lst (pa_cons pe_int (pa_cons pe_int pa_nil))) (pe_call D_law_next.ok hr (by rfl) D_law_next.g D_law_next.kp D_law_next.b .nil pass0 (pa_cons (pv 0) (pa_cons pe_int pa_nil))) (fun _ _ => rfl)) pa_nil)))) (pa_cons (pe_op op_add pe_int (pe_call D_law_next.ok hr (by rfl) D_law_next.g D_law_next.kp D_law_next.b .nil pass0 (pa_cons (pv 0) (pa_cons pe_int pa_nil)))) pa_nil))))), ?_⟩
    walk_at "vc"
    refine ⟨by decide, fun p hp => ?_⟩
    walk_at "vc"
    refine ⟨a, b, 2, rfl, hs.new hp, by omega, by omega, fun r H1 r0 r1 hs1 k1 => ?_⟩
    have hp1 : H1 p = some (.lst [.int 9, .int 3]) := k1 p _ (hs.ne_a hp) (hs.ne_b hp) upd_same
    have key : ∃ m : Int, atI [V.int 9, V.int 3] r = some (.int m) ∧ 0 < m ∧ m ≤ 9 := by
      have : r = 0 ∨ r = 1 := by omega
      rcases this with rfl | rfl
      · exact ⟨9, rfl, by omega, by omega⟩
      · exact ⟨3, rfl, by omega, by omega⟩
    obtain ⟨m, em, m0, m1⟩ := key
    walk_at "vc"
    refine ⟨a, b, m, rfl, hs1, by omega, by omega, fun r' H2 r2 r3 hs2 k2 => ?_⟩
    walk_at "vc"
    refine ⟨a, b, 9, rfl, hs2, by omega, by omega, fun r'' H3 r4 r5 hs3 k3 => ?_⟩
    walk_at "vc"
    refine ⟨show 2 ≤ sizeLine by decide, fun t ht => ?_⟩
    exact q _ _ t _ (by omega) (by omega) (by omega) (by omega) upd_same (hs3.ne_a ht) (hs3.ne_b ht) (hs3.new ht) ((Kp.new hp).trans (k1.trans (k2.trans (k3.trans (Kp.new ht)))))


theorem same_step {f : Addr} {fd : FuncData} (F : Fun K "_law_same" "_law_same" s_law_same f fd) (B : Bl mg) (n : Nat) (DD : Dn P w K mg base "_law_same" n ["_law_found", "_law_due"] (sp_sameN n K) f fd) : FnOk P w K mg base CX0 (n + 1) f fd ["_law_found", "_law_due"] (sp_sameN (n + 1) K) := by
  refine F.ok sc_law_same (fun vs H Q E h => ?_) (fun cdv A outer s H vs Q E hr h => ?_)
  · obtain ⟨_, _, _, rfl, _⟩ := h
    rfl
  · obtain ⟨x, y, d, rfl, hx, hy, gd, hdep, q⟩ := h
    refine ⟨_, 
  (pss_cons (ps_if (pt_val (pe_callB call_isiT (by rfl) B.m_isinstance (by decide +kernel) (pa_cons (pv 1) (pa_cons (pe_tup (pa_cons (pe_bltn (v := .ty "list") (by rfl) B.m_list (by decide +kernel) rfl) (pa_cons (pe_bltn (v := .ty "tuple") (by rfl) B.m_tuple (by decide +kernel) rfl) pa_nil))) pa_nil)))) 
    (pss_cons (ps_if (PW.pt (pw_or (pt_cmpR op_ne (pe_callB call_isi (by rfl) B.m_isinstance (by decide +kernel) (pa_cons (pv 0) (pa_cons (pe_bltn (v := .ty "list") (by rfl) B.m_list (by decide +kernel) rfl) pa_nil))) (pe_callB call_isi (by rfl) B.m_isinstance (by decide +kernel) (pa_cons (pv 1) (pa_cons (pe_bltn (v := .ty "list") (by rfl) B.m_list (by decide +kernel) rfl) pa_nil))) (nomark _)) (pw_or1 (pt_cmpR op_ne (pe_callB call_isi (by rfl) B.m_isinstance (by decide +kernel) (pa_cons (pv 0) (pa_cons (pe_bltn (v := .ty "tuple") (by rfl) B.m_tuple (by decide +kernel) rfl) pa_nil))) (pe_callB call_isi (by rfl) B.m_isinstance (by decide +kernel) (pa_cons (pv 1) (pa_cons (pe_bltn (v := .ty "tuple") (by rfl) B.m_tuple (by decide +kernel) rfl) pa_nil))) (nomark _))))) 
      (pss_one (ps_ret pe_bl)) pss_nil) 
    (pss_cons (ps_if (pt_cmpR op_ne (pe_callB call_len_seq (by rfl) B.m_len PySem.boot_len (pa_cons (pv 0) pa_nil)) (pe_callB call_len_seq (by rfl) B.m_len PySem.boot_len (pa_cons (pv 1) pa_nil)) (nomark _)) 
      (pss_one (ps_ret pe_bl)) pss_nil) 
    (pss_cons (ps_for PassesOwn.never rfl (pi_range1 rfl B.m_range (pa_cons (pe_callB call_len_seq (by rfl) B.m_len PySem.boot_len (pa_cons (pv 1) pa_nil)) pa_nil)) (pg_name (i := 2) sc_law_same.nd rfl (.inl rfl)) 
      (pss_one (ps_if (pt_not (pt_val (pe_call DD.ok hr (by rfl) DD.g DD.kp DD.b .nil pass0 (pa_cons (pe_ix ix_seq (pv 0) (pv 2) (fun _ _ => rfl)) (pa_cons (pe_ix ix_seq (pv 1) (pv 2) (fun _ _ => rfl)) pa_nil))))) 
        (pss_one (ps_ret pe_bl)) pss_nil))) 
    (pss_one (ps_ret pe_bl))))) pss_nil) 
  (pss_cons (ps_if (pt_val (pe_callB call_isi (by rfl) B.m_isinstance (by decide +kernel) (pa_cons (pv 1) (pa_cons (pe_bltn (v := .ty "str") (by rfl) B.m_str (by decide +kernel) rfl) pa_nil)))) 
    (pss_one (ps_ret (pe_and (pe_callB call_isi (by rfl) B.m_isinstance (by decide +kernel) (pa_cons (pv 0) (pa_cons (pe_bltn (v := .ty "str") (by rfl) B.m_str (by decide +kernel) rfl) pa_nil))) (pe_one (pe_cmpR op_eq (pv 0) (pv 1) (nomark _)))))) pss_nil) 
  (pss_one (ps_ret (pe_and (pe_callB call_isi (by rfl) B.m_isinstance (by decide +kernel) (pa_cons (pv 0) (pa_cons (pe_bltn (v := .ty "int") (by rfl) B.m_int (by decide +kernel) rfl) pa_nil))) (pe_and (pe_cmpR op_eq (pe_callB call_isi (by rfl) B.m_isinstance (by decide +kernel) (pa_cons (pv 0) (pa_cons (pe_bltn (v := .ty "bool") (by rfl) B.m_bool (by decide +kernel) rfl) pa_nil))) (pe_callB call_isi (by rfl) B.m_isinstance (by decide +kernel) (pa_cons (pv 1) (pa_cons (pe_bltn (v := .ty "bool") (by rfl) B.m_bool (by decide +kernel) rfl) pa_nil))) (nomark _)) (pe_one (pe_cmpR op_eq (pv 0) (pv 1) (nomark _))))))))), ?_⟩
    walk_at "vc"
    refine ⟨show 2 ≤ sizeLine by decide, fun p hp => ?_⟩
    have sm0 := same_upd (o := HO.tup [V.ty "list", V.ty "tuple"]) hp
    have hp1 : upd H p (HO.tup [V.ty "list", V.ty "tuple"]) p = some (HO.tup [V.ty "list", V.ty "tuple"]) := upd_same
    generalize upd H p (HO.tup [V.ty "list", V.ty "tuple"]) = H1 at sm0 hp1
    have hx1 := Dp_same sm0 d x hx
    have hy1 := Dp_same sm0 d y hy
    have tx := dp_ty hx1
    have ty := dp_ty hy1
    rcases seq_view hx1 hy1 gd with ⟨i, rfl, rfl, et⟩ | ⟨z, rfl, rfl, et⟩ | ⟨b, rfl, rfl, et⟩ | ⟨ds, px, py, xs, ys, b1, b2, rfl, rfl, sx, sy, ax, ay, hlen, hgd, hd, k1, k2, kb⟩
    · rw [et] at tx ty
      walk_at "vc"
      refine x_isiLT (b := false) hp1 ty (kit_lt (kit_ty (r := false) (by decide +kernel)) (kit_ty (r := false) (by decide +kernel))) ?_
      walk_at "vc"
      walk_at "vc"
      refine x_isi (n := "str") ty (kit_ty (r := false) (by decide +kernel)) ?_
      walk_at "vc"
      walk_at "vc"
      refine x_isi (n := "int") tx (kit_ty (r := true) (by decide +kernel)) ?_
      walk_at "vc"
      walk_at "vc"
      refine x_isi (n := "bool") tx (kit_ty (r := false) (by decide +kernel)) ?_
      walk_at "vc"
      refine x_isi (n := "bool") ty (kit_ty (r := false) (by decide +kernel)) ?_
      walk_at "vc"
      rw [decide_eq_true rfl]
      walk_at "vc"
      rw [decide_eq_true rfl]
      exact q _ sm0
    · rw [et] at tx ty
      walk_at "vc"
      refine x_isiLT (b := false) hp1 ty (kit_lt (kit_ty (r := false) (by decide +kernel)) (kit_ty (r := false) (by decide +kernel))) ?_
      walk_at "vc"
      walk_at "vc"
      refine x_isi (n := "str") ty (kit_ty (r := true) (by decide +kernel)) ?_
      walk_at "vc"
      walk_at "vc"
      refine x_isi (n := "str") tx (kit_ty (r := true) (by decide +kernel)) ?_
      walk_at "vc"
      rw [decide_eq_true rfl]
      exact q _ sm0
    · rw [et] at tx ty
      walk_at "vc"
      refine x_isiLT (b := false) hp1 ty (kit_lt (kit_ty (r := false) (by decide +kernel)) (kit_ty (r := false) (by decide +kernel))) ?_
      walk_at "vc"
      walk_at "vc"
      refine x_isi (n := "str") ty (kit_ty (r := false) (by decide +kernel)) ?_
      walk_at "vc"
      walk_at "vc"
      refine x_isi (n := "int") tx (kit_ty (r := true) (by decide +kernel)) ?_
      walk_at "vc"
      walk_at "vc"
      refine x_isi (n := "bool") tx (kit_ty (r := true) (by decide +kernel)) ?_
      walk_at "vc"
      refine x_isi (n := "bool") ty (kit_ty (r := true) (by decide +kernel)) ?_
      walk_at "vc"
      rw [decide_eq_true rfl]
      walk_at "vc"
      rw [decide_eq_true rfl]
      exact q _ sm0
    · walk_at "vc"
      refine x_isiLT hp1 ty (kit_lt k1 k2) ?_
      rw [kb]
      walk_at "vc"
      walk_at "vc"
      refine x_isi tx k1 ?_
      walk_at "vc"
      refine x_isi ty k1 ?_
      walk_at "vc"
      rw [decide_eq_true rfl]
      walk_at "vc"
      walk_at "vc"
      refine x_isi tx k2 ?_
      walk_at "vc"
      refine x_isi ty k2 ?_
      walk_at "vc"
      rw [decide_eq_true rfl]
      walk_at "vc"
      have lx := DpAll_len ax
      have ly := DpAll_len ay
      rw [lx, ly, decide_eq_true rfl]
      walk_at "vc"
      have en : ((ds.length : Nat) : Int).toNat = ds.length := rfl
      rw [ly, en]
      refine for_range (fun i σ H' => (∃ y3, σ = [some (.ref px), some (.ref py), y3]) ∧ Same H1 H') ⟨⟨_, rfl⟩, Same.refl _⟩ ?_ ?_
      · rintro i σ H2 hi ⟨⟨y3, rfl⟩, sm⟩
        obtain ⟨vx, d1, ex, ed1, dx⟩ := DpAll_get i ax hi
        obtain ⟨vy, d2, ey, ed2, dy⟩ := DpAll_get i ay hi
        have e12 : d1 = d2 := Option.some.inj (ed1.symm.trans ed2)
        subst e12
        have hm : d1 ∈ ds := List.mem_of_getElem? ed1
        walk_at "vc"
        have e0 : 0 + (i : Int) = ((i : Nat) : Int) := Int.zero_add _
        rw [e0]
        refine x_ixQ (Sq_same sm sx) (atI_nat ex) ?_
        walk_at "vc"
        refine x_ixQ (Sq_same sm sy) (atI_nat ey) ?_
        walk_at "vc"
        refine ⟨vx, vy, d1, rfl, Dp_same sm _ _ dx, Dp_same sm _ _ dy, hgd d1 hm, by have := depth_mem hm; omega, fun H3 sm3 => ?_⟩
        walk_at "vc"
        exact ⟨⟨_, rfl⟩, sm.trans sm3⟩
      · rintro σ H2 ⟨⟨y3, rfl⟩, sm⟩
        walk_at "vc"
        exact q _ (sm0.trans sm)
theorem ok_law_same {f : Addr} {fd : FuncData} (F : Fun K "_law_same" "_law_same" s_law_same f fd) (B : Bl mg) (g : mg "_law_same" = some (.ref f)) (b : Binds K fd ["_law_found", "_law_due"] []) : FnOk P w K mg base CX0 12 f fd ["_law_found", "_law_due"] (sp_law_same K) := by
  have h : ∀ n, FnOk P w K mg base CX0 n f fd ["_law_found", "_law_due"] (sp_sameN n K) := by
    intro n
    induction n with
    | zero => exact fn_never fun vs H Q E ⟨_, _, _, _, _, _, _, h, _⟩ => by omega
    | succ n ih => exact same_step F B n ⟨ih, g, F.kp, b⟩
  exact h 12


theorem oklaw {f : Addr} {fd : FuncData} {f_law_letters : Addr} {fd_law_letters : FuncData} {f_law_scale : Addr} {fd_law_scale : FuncData} {f_law_row : Addr} {fd_law_row : FuncData} {f_law_next : Addr} {fd_law_next : FuncData} {flikes_of : Addr} {fdlikes_of : FuncData} {f_law_near : Addr} {fd_law_near : FuncData} {f_law_same : Addr} {fd_law_same : FuncData} {fbound : Addr} {fdbound : FuncData} (F : Fun K "law" "law" slaw f fd) (B : Bl mg) (D_law_letters : Dn P w K mg base "_law_letters" 2 ["_law_h"] (sp_law_letters K) f_law_letters fd_law_letters) (D_law_scale : Dn P w K mg base "_law_scale" 2 ["_law_h"] (sp_law_scale K) f_law_scale fd_law_scale) (D_law_row : Dn P w K mg base "_law_row" 2 ["_law_h", "_law_letters_here", "_law_most"] (sp_law_row K) f_law_row fd_law_row) (D_law_next : Dn P w K mg base "_law_next" 1 ["_law_h", "_law_many"] (sp_law_next K) f_law_next fd_law_next) (Dlikes_of : Dn P w K mg base "likes_of" 2 ["one", "other", "shift"] (splikes_of K) flikes_of fdlikes_of) (D_law_near : Dn P w K mg base "_law_near" 3 ["_law_h", "_law_row_here", "_law_letters_here"] (sp_law_near K) f_law_near fd_law_near) (D_law_same : Dn P w K mg base "_law_same" 12 ["_law_found", "_law_due"] (sp_law_same K) f_law_same fd_law_same) (Dbound : Dn P w K mg base "bound" 1 ["one", "other", "scale"] (spbound K) fbound fdbound) : FnOk P w K mg base CX0 13 f fd ["_law_script"] (splaw K) := by
  refine F.ok sclaw (fun vs H Q E h => ?_) (fun cdv A outer s H vs Q E hr h => ?_)
  · first
      | (obtain ⟨_, rfl, _⟩ := h; rfl)
      | (obtain ⟨_, _, rfl, _⟩ := h; rfl)
      | (obtain ⟨_, _, _, rfl, _⟩ := h; rfl)
      | (obtain ⟨_, _, _, _, rfl, _⟩ := h; rfl)
      | (obtain ⟨_, _, _, _, _, rfl, _⟩ := h; rfl)
      | (obtain ⟨_, _, _, _, _, _, rfl, _⟩ := h; rfl)
      | (obtain ⟨_, _, _, _, _, _, _, rfl, _⟩ := h; rfl)
      | (obtain ⟨_, _, _, _, _, _, _, _, rfl, _⟩ := h; rfl)
      | (obtain ⟨_, _, _, _, _, _, _, _, _, rfl, _⟩ := h; rfl)
      | (obtain ⟨_, _, _, _, _, _, _, _, _, _, rfl, _⟩ := h; rfl)
      | (obtain ⟨_, _, _, _, _, _, _, _, _, _, _, rfl, _⟩ := h; rfl)
  · obtain ⟨a0, ns, rfl, hS, hlen, q⟩ := h
    refine ⟨_, 
  (pss_cons (ps_set (i := 1) sclaw.nd rfl (.inl rfl) (pe_lst (pa_cons pe_int (pa_cons (pe_callTy call_list_of (by rfl) B.m_list (by decide +kernel) (pa_cons (pv 0) pa_nil)) (pa_cons pe_int pa_nil))))) 
  (pss_cons (ps_set (i := 2) sclaw.nd rfl (.inl rfl) (pe_call D_law_letters.ok (hr.mono (by decide)) (by rfl) D_law_letters.g D_law_letters.kp D_law_letters.b .nil pass0 (pa_cons (pv 1) pa_nil))) 
  (pss_cons (ps_set (i := 3) sclaw.nd rfl (.inl rfl) (pe_call D_law_scale.ok (hr.mono (by decide)) (by rfl) D_law_scale.g D_law_scale.kp D_law_scale.b .nil pass0 (pa_cons (pv 1) pa_nil))) 
  (pss_cons (ps_set (i := 4) sclaw.nd rfl (.inl rfl) (pe_call D_law_row.ok (hr.mono (by decide)) (by rfl) D_law_row.g D_law_row.kp D_law_row.b .nil pass0 (pa_cons (pv 1) (pa_cons (pv 2) (pa_cons pe_int pa_nil))))) 
  (pss_cons (ps_set (i := 5) sclaw.nd rfl (.inl rfl) (pe_ix ix_list (pe_lst (pa_cons (pe_call D_law_row.ok (hr.mono (by decide)) (by rfl) D_law_row.g D_law_row.kp D_law_row.b .nil pass0 (pa_cons (pv 1) (pa_cons (pv 2) (pa_cons pe_int pa_nil)))) (pa_cons (pe_call D_law_near.ok (hr.mono (by decide)) (by rfl) D_law_near.g D_law_near.kp D_law_near.b .nil pass0 (pa_cons (pv 1) (pa_cons (pv 4) (pa_cons (pv 2) pa_nil)))) (pa_cons (pe_revS (pv 4)) pa_nil)))) (pe_call D_law_next.ok (hr.mono (by decide)) (by rfl) D_law_next.g D_law_next.kp D_law_next.b .nil pass0 (pa_cons (pv 1) (pa_cons pe_int pa_nil))) (fun _ _ => rfl))) 
  (pss_cons (ps_set (i := 6) sclaw.nd rfl (.inl rfl) pe_int) 
  (pss_cons (ps_set (i := 7) sclaw.nd rfl (.inl rfl) (pe_callTy (cr_listStr rfl) (by rfl) B.m_list (by decide +kernel) (pa_cons (pv 5) pa_nil))) 
  (pss_cons (ps_for PassesOwn.never rfl (pi_str (pv 4)) (pg_name (i := 8) sclaw.nd rfl (.inl rfl)) 
    (pss_one (ps_if (pt_cmpR op_in_seq (pv 8) (pv 7) (by rfl)) 
      (pss_cons (ps_expr (pe_bm PySem.F.plainAttrs_list PySem.F.slot_list_remove PySem.F.type_list_remove mt_remS (pv 7) (pa_cons (pv 8) pa_nil))) 
      (pss_one (ps_set (i := 6) sclaw.nd rfl (.inl rfl) (pe_op op_add (pv 6) (pe_ix ix_tup (pv 3) pe_int (fun _ _ => rfl)))))) pss_nil))) 
  (pss_cons (ps_if (PW.pt (pw_or (pt_not (pt_val (pe_call D_law_same.ok hr (by rfl) D_law_same.g D_law_same.kp D_law_same.b .nil pass0 (pa_cons (pe_call Dbound.ok (hr.mono (by decide)) (by rfl) Dbound.g Dbound.kp Dbound.b .nil pass0 (pa_cons (pv 4) (pa_cons (pv 5) (pa_cons (pv 3) pa_nil)))) (pa_cons (pv 6) pa_nil))))) (pw_or1 (pt_cmpR op_ne (pe_call Dbound.ok (hr.mono (by decide)) (by rfl) Dbound.g Dbound.kp Dbound.b .nil pass0 (pa_cons (pv 5) (pa_cons (pv 4) (pa_cons (pv 3) pa_nil)))) (pv 6) (nomark _))))) 
    (pss_one (ps_ret pe_bl)) pss_nil) 
  (pss_cons (ps_if (PW.pt (pw_or (pt_cmpR op_ne (pe_call Dbound.ok (hr.mono (by decide)) (by rfl) Dbound.g Dbound.kp Dbound.b .nil pass0 (pa_cons (pv 4) (pa_cons pe_str (pa_cons (pv 3) pa_nil)))) pe_int (nomark _)) (pw_or1 (pt_cmpR op_ne (pe_call Dbound.ok (hr.mono (by decide)) (by rfl) Dbound.g Dbound.kp Dbound.b .nil pass0 (pa_cons (pv 4) (pa_cons (pv 4) (pa_cons (pv 3) pa_nil)))) (pe_op op_mul (pe_ix ix_tup (pv 3) pe_int (fun _ _ => rfl)) (pe_callB call_len_str (by rfl) B.m_len PySem.boot_len (pa_cons (pv 4) pa_nil))) (nomark _))))) 
    (pss_one (ps_ret pe_bl)) pss_nil) 
  (pss_cons (ps_for PassesOwn.never rfl (pi_range1 rfl B.m_range (pa_cons pe_int pa_nil)) (pg_name (i := 9) sclaw.nd rfl (.inl rfl)) 
    (pss_cons (ps_set (i := 10) sclaw.nd rfl (.inl rfl) (pe_call Dlikes_of.ok (hr.mono (by decide)) (by rfl) Dlikes_of.g Dlikes_of.kp Dlikes_of.b .nil pass0 (pa_cons (pv 4) (pa_cons (pv 5) (pa_cons (pe_op op_sub (pe_call D_law_next.ok (hr.mono (by decide)) (by rfl) D_law_next.g D_law_next.kp D_law_next.b .nil pass0 (pa_cons (pv 1) (pa_cons pe_int pa_nil))) pe_int) pa_nil))))) 
    (pss_one (ps_if (pt_cmpR op_gt (pe_op op_mul (pe_ix ix_tup (pv 3) pe_int (fun _ _ => rfl)) (pe_m1 PySem.F.slot_str_count PySem.F.type_str_count mt_count (pv 10) pe_str)) (pv 6) (nomark _)) 
      (pss_one (ps_ret pe_bl)) pss_nil)))) 
  (pss_one (ps_ret pe_bl))))))))))))), ?_⟩
    walk_at "vc"
    intro b hb
    walk_at "vc"
    refine ⟨show 3 ≤ sizeLine by decide, fun a ha => ?_⟩
    have nab : a ≠ b := fun e => by
      rw [e, upd_same] at ha
      cases ha
    have hs0 : Src (upd (upd H b (.lst (ns.map V.int))) a (.lst [.int 79, .ref b, .int 0])) a b := ⟨nab, 79, 0, ns, upd_same, by rw [upd_ne nab.symm, upd_same], hlen⟩
    generalize upd (upd H b (.lst (ns.map V.int))) a (.lst [.int 79, .ref b, .int 0]) = H0 at hs0
    walk_at "vc"
    refine ⟨a, b, rfl, hs0, fun t n H1 ht hn1 hn2 hs1 k1 => ?_⟩
    walk_at "vc"
    refine ⟨a, b, rfl, hs1, fun g l ps H2 hg1 hg2 hl1 hl2 hps npa npb hs2 k2 => ?_⟩
    walk_at "vc"
    have hn : (letL t n).length = n := letL_len t n
    refine ⟨a, b, letL t n, 60, rfl, hs2, by omega, by omega, by omega, by omega, fun o H3 ho hol hs3 k3 => ?_⟩
    walk_at "vc"
    refine ⟨a, b, letL t n, 60, rfl, hs3, by omega, by omega, by omega, by omega, fun o2 H4 ho2 hol2 hs4 k4 => ?_⟩
    walk_at "vc"
    refine ⟨a, b, o, letL t n, rfl, hs4, by omega, by omega, by omega, hol, fun o3 H5 ho3 hol3 hs5 k5 => ?_⟩
    walk_at "vc"
    have eo : (S o).length = o.length := len_S o
    refine ⟨hp_sz (by omega), ?_⟩
    rw [show (⟨(S o).cps.toList.reverse.toArray⟩ : Str) = S o.reverse from rfl]
    walk_at "vc"
    refine ⟨show 3 ≤ sizeLine by decide, fun p6 hp6 => ?_⟩
    have hs6 := hs5.new (o := .lst [.str (S o2), .str (S o3), .str (S o.reverse)]) hp6
    have np6a := hs5.ne_a hp6
    have np6b := hs5.ne_b hp6
    have hps5 : H5 ps = some (.tup [.int g, .int l]) := k5 _ _ npa npb (k4 _ _ npa npb (k3 _ _ npa npb hps))
    have hps6 : upd H5 p6 (.lst [.str (S o2), .str (S o3), .str (S o.reverse)]) ps = some (.tup [.int g, .int l]) := (upd_ne (ne_of_none hps5 hp6)).trans hps5
    have hp66 : upd H5 p6 (.lst [.str (S o2), .str (S o3), .str (S o.reverse)]) p6 = some (.lst [.str (S o2), .str (S o3), .str (S o.reverse)]) := upd_same
    generalize upd H5 p6 (.lst [.str (S o2), .str (S o3), .str (S o.reverse)]) = H6 at hs6 hps6 hp66
    walk_at "vc"
    refine ⟨a, b, 3, rfl, hs6, by omega, by omega, fun r H7 r0 r1 hs7 k7 => ?_⟩
    have hps7 := k7 _ _ npa npb hps6
    have hp7 := k7 _ _ np6a np6b hp66
    have key : ∃ t2 : List Nat, atI [V.str (S o2), .str (S o3), .str (S o.reverse)] r = some (.str (S t2)) ∧ t2.length ≤ 60 := by
      have : r = 0 ∨ r = 1 ∨ r = 2 := by omega
      rcases this with rfl | rfl | rfl
      · exact ⟨o2, rfl, by omega⟩
      · exact ⟨o3, rfl, by omega⟩
      · exact ⟨o.reverse, rfl, by rw [List.length_reverse]; omega⟩
    obtain ⟨t2, et, ht2⟩ := key
    refine x_ixL (SqL.of hp7) et ?_
    walk_at "vc"
    have et2 : (S t2).length = t2.length := len_S t2
    refine ⟨S t2, rfl, hp_sz (by show (S t2).length ≤ _; omega), fun lf hlf => ?_⟩
    have hs8 := hs7.new (o := .lst ((S t2).cps.toList.map fun c => V.str ⟨#[c]⟩)) hlf
    have nla := hs7.ne_a hlf
    have nlb := hs7.ne_b hlf
    have hps8 : upd H7 lf (.lst ((S t2).cps.toList.map fun c => V.str ⟨#[c]⟩)) ps = some (.tup [.int g, .int l]) := (upd_ne (ne_of_none hps7 hlf)).trans hps7
    have hlf8 : upd H7 lf (.lst ((S t2).cps.toList.map fun c => V.str ⟨#[c]⟩)) lf = some (.lst ((t2.map fun c => [c]).map fun y => V.str ⟨y.toArray⟩)) := by
      rw [upd_same, List.map_map]
      rfl
    generalize upd H7 lf (.lst ((S t2).cps.toList.map fun c => V.str ⟨#[c]⟩)) = H8 at hs8 hps8 hlf8
    walk_at "vc"
    have e00 : g * ((cm (o.take 0) t2 : Nat) : Int) = 0 := by
      rw [List.take_zero]
      show g * ((0 : Nat) : Int) = 0
      simp
    refine for_it (walk_str (z := S o)) (fun i σ H' => (∃ y8 y9 y10, σ = [some (.ref a0), some (.ref a), some (.str (S (letL t n))), some (.ref ps), some (.str (S o)), some (.str (S t2)), some (.int (g * (cm (o.take i) t2 : Nat))), some (.ref lf), y8, y9, y10]) ∧ Src H' a b ∧ H' ps = some (.tup [.int g, .int l]) ∧ ∃ left : List Nat, H' lf = some (.lst ((left.map fun c => [c]).map fun y => V.str ⟨y.toArray⟩)) ∧ left.length ≤ 60 ∧ ∀ o', cm (o.take i ++ o') t2 = cm (o.take i) t2 + cm o' left) ⟨⟨_, _, _, by rw [e00]; rfl⟩, hs8, hps8, t2, hlf8, ht2, fun o' => by simp [cm]⟩ (fun _ _ _ _ _ => trivial) ?_ ?_
    · rintro i x σ H9 H10 hi ⟨⟨y8, y9, y10, rfl⟩, hs9, hps9, left, hlf9, hll, hcm⟩ ⟨rfl, c, hci, rfl⟩
      have hzc : o[i]? = some c := by simpa [S] using hci
      have hin : inV (.str ⟨#[c]⟩) ((left.map fun c => [c]).map fun y => V.str ⟨y.toArray⟩) = decide (c ∈ left) := by
        clear hcm hll hlf9
        induction left with
        | nil => simp [inV]
        | cons d left ih =>
          have ih' : (((left.map fun c => [c]).map fun y => V.str ⟨y.toArray⟩).any fun y => eqV y (.str ⟨#[c]⟩)) = decide (c ∈ left) := ih
          show (eqV (.str ⟨#[d]⟩) (.str ⟨#[c]⟩) || (((left.map fun c => [c]).map fun y => V.str ⟨y.toArray⟩).any fun y => eqV y (.str ⟨#[c]⟩))) = _
          rw [ih']
          have e1 : eqV (.str ⟨#[d]⟩) (.str ⟨#[c]⟩) = decide (d = c) := by
            show ((⟨#[d]⟩ : Str) == ⟨#[c]⟩) = _
            by_cases h : d = c
            · subst h; simp
            · rw [decide_eq_false h]
              exact beq_eq_false_iff_ne.mpr fun q => h (by simpa using q)
          rw [e1]
          by_cases h : d = c
          · simp [h]
          · have : c ≠ d := fun q => h q.symm
            simp [h, this]
      have hflat : ((left.map fun c => [c]).map fun y => V.str ⟨y.toArray⟩).all flatV = true := by
        rw [List.all_eq_true]
        intro v hv
        obtain ⟨y, _, rfl⟩ := List.mem_map.mp hv
        rfl
      have etk : o.take (i + 1) = o.take i ++ [c] := by rw [List.take_succ, hzc]; rfl
      have h1 := hcm [c]
      have hcm1 : cm [c] left = if c ∈ left then 1 else 0 := rfl
      walk_at "vc"
      refine ⟨lf, _, rfl, .inl (SqL.of hlf9), rfl, hflat, ?_⟩
      rw [if_neg (by decide), hin]
      refine x_bl ?_
      by_cases hc : c ∈ left
      · rw [decide_eq_true hc]
        walk_at "vc"
        refine ⟨.inl ⟨rfl, _, SqL.of hlf9⟩, ?_⟩
        walk_at "vc"
        refine ⟨lf, left.map fun c => [c], [c], rfl, rfl, hlf9, List.mem_map.mpr ⟨c, hc, rfl⟩, ?_⟩
        have ee : ((left.map fun c => [c]).erase [c]) = (left.erase c).map fun c => [c] := by
          clear hcm hll hlf9 hin hflat hc hcm1 h1
          induction left with
          | nil => rfl
          | cons d left ih =>
            by_cases h : d = c
            · subst h
              rw [List.map_cons, List.erase_cons_head, List.erase_cons_head]
            · rw [List.map_cons, List.erase_cons_tail (by simpa using h), List.erase_cons_tail (by simpa using h), List.map_cons, ih]
        rw [ee]
        have hsb : Src (upd H10 lf (.lst (((left.erase c).map fun c => [c]).map fun y => V.str ⟨y.toArray⟩))) a b := by
          obtain ⟨n1, s1, i1, cs1, e1, e2, e3⟩ := hs9
          exact ⟨n1, s1, i1, cs1, by rw [upd_ne nla.symm]; exact e1, by rw [upd_ne nlb.symm]; exact e2, e3⟩
        have hpsb : upd H10 lf (.lst (((left.erase c).map fun c => [c]).map fun y => V.str ⟨y.toArray⟩)) ps = some (.tup [.int g, .int l]) := by
          rw [upd_ne (fun q : ps = lf => by rw [q, hlf9] at hps9; cases hps9)]
          exact hps9
        have hlfb : upd H10 lf (.lst (((left.erase c).map fun c => [c]).map fun y => V.str ⟨y.toArray⟩)) lf = some (.lst (((left.erase c).map fun c => [c]).map fun y => V.str ⟨y.toArray⟩)) := upd_same
        generalize upd H10 lf (.lst (((left.erase c).map fun c => [c]).map fun y => V.str ⟨y.toArray⟩)) = Hb at hsb hpsb hlfb
        walk_at "vc"
        rw [if_pos hc] at hcm1
        have e9 : g * ((cm (o.take i) t2 : Nat) : Int) + g = g * ((cm (o.take (i + 1)) t2 : Nat) : Int) := by
          rw [etk, h1, hcm1]
          rw [show ((cm (o.take i) t2 + 1 : Nat) : Int) = ((cm (o.take i) t2 : Nat) : Int) + 1 from rfl, Int.mul_add, Int.mul_one]
        rw [e9]
        refine ⟨⟨_, _, _, rfl⟩, hsb, hpsb, left.erase c, hlfb, Nat.le_trans List.length_erase_le hll, fun o' => ?_⟩
        have h2 := hcm (c :: o')
        rw [etk, List.append_assoc, show [c] ++ o' = c :: o' from rfl, h2, h1, hcm1]
        show _ + (if c ∈ left then cm o' (left.erase c) + 1 else _) = _
        rw [if_pos hc]
        omega
      · rw [decide_eq_false hc]
        rw [if_neg hc] at hcm1
        walk_at "vc"
        have e9 : cm (o.take (i + 1)) t2 = cm (o.take i) t2 := by rw [etk, h1, hcm1]; rfl
        rw [e9]
        refine ⟨⟨_, _, _, rfl⟩, hs9, hps9, left, hlf9, hll, fun o' => ?_⟩
        have h2 := hcm (c :: o')
        rw [etk, List.append_assoc, show [c] ++ o' = c :: o' from rfl, h2]
        show _ + (if c ∈ left then _ else cm o' left) = _
        rw [if_neg hc]
    · rintro σ H9 ⟨⟨y8, y9, y10, rfl⟩, hs9, hps9, _⟩
      rw [show (S o).cps.size = o.length from eo, List.take_length]
      have hcl := cm_le o t2
      have hc1 : ∀ H', SqT K H' ps [.int g, .int l] → True := fun _ _ => trivial
      walk_at "vc"
      refine ⟨o, t2, ps, g, l, rfl, SqT.of hps9, by omega, by omega, by omega, by omega, fun H10 sm10 => ?_⟩
      walk_at "vc"
      refine ⟨_, _, .int (g * (cm o t2 : Nat)), rfl, .int _, .int _, .int _, by simp only [PyData.depth]; omega, fun H11 sm11 => ?_⟩
      have sma := sm10.trans sm11
      walk_at "vc"
      refine ⟨t2, o, ps, g, l, rfl, SqT.of (sma _ _ hps9), by omega, by omega, by omega, by omega, fun H12 sm12 => ?_⟩
      rw [cm_comm t2 o]
      walk_at "vc"
      refine x_iteFe (by simp) ?_
      have smb := sma.trans sm12
      walk_at "vc"
      refine ⟨o, [], ps, g, l, rfl, SqT.of (smb _ _ hps9), by omega, by decide, by omega, by omega, fun H13 sm13 => ?_⟩
      rw [cm_nil]
      walk_at "vc"
      refine x_iteFe (by simp) ?_
      have smc := smb.trans sm13
      walk_at "vc"
      refine ⟨o, o, ps, g, l, rfl, SqT.of (smc _ _ hps9), by omega, by omega, by omega, by omega, fun H14 sm14 => ?_⟩
      rw [cm_self]
      have smd := smc.trans sm14
      have hps14 := smd _ _ hps9
      have hs14 := Src_same hs9 smd
      have lo : (S o).length ≤ sizeLine := hp_sz (by omega)
      walk_at "vc"
      refine x_iteFe (by rw [eo]; simp) ?_
      walk_at "vc"
      refine for_range (fun i σ H' => (∃ y8 y9 y10, σ = [some (.ref a0), some (.ref a), some (.str (S (letL t n))), some (.ref ps), some (.str (S o)), some (.str (S t2)), some (.int (g * (cm o t2 : Nat))), some (.ref lf), y8, y9, y10]) ∧ Src H' a b ∧ H' ps = some (.tup [.int g, .int l])) ⟨⟨_, _, _, rfl⟩, hs14, hps14⟩ ?_ ?_
      · clear hs14 hps14
        rintro i σ H15 hi ⟨⟨y8, y9, y10, rfl⟩, hs15, hps15⟩
        walk_at "vc"
        refine ⟨a, b, 41, rfl, hs15, by omega, by omega, fun r H16 r0 r1 hs16 k16 => ?_⟩
        have hps16 := k16 _ _ npa npb hps15
        walk_at "vc"
        refine ⟨o, t2, r - 20, rfl, by omega, by omega, by omega, by omega, fun H17 sm17 => ?_⟩
        have hps17 := sm17 _ _ hps16
        have hlc := lane_cm o t2 (r - 20)
        have hll := List.count_le_length (a := 61) (l := likL o t2 (r - 20))
        have hl2 := likL_le o t2 (r - 20)
        walk_at "vc"
        rw [show Txt.count (S (likL o t2 (r - 20))) (Str.ofString "=") = (((likL o t2 (r - 20)).count 61 : Nat) : Int) from (count_sign _ 61).trans (by rw [tl_S])]
        have hmul : g * (((likL o t2 (r - 20)).count 61 : Nat) : Int) ≤ g * ((cm o t2 : Nat) : Int) := Int.mul_le_mul_of_nonneg_left (by omega) (by omega)
        refine x_iteFe (decide_eq_false (by omega)) ?_
        walk_at "vc"
        exact ⟨⟨_, _, _, rfl⟩, Src_same hs16 sm17, hps17⟩
      · rintro σ H15 ⟨⟨y8, y9, y10, rfl⟩, _, _⟩
        walk_at "vc"
        exact q _

end
theorem all_mk {l : PySem.W.OpenLaw} {w : World} {K : PySem.W.Frag} {h : Heap} {mg : Str → Option Value} {fa : Addr} (X : K.In h) (G : h.Ns mainGlobals mg) (hfa : mg "law" = some (.ref fa))
    {od0 an0 : Option Addr} {sl0 : Array (Option Value)} {oc0 kV0 dc0 pm0 cd0 ct0 : Value} {g0 : Addr} {od1 an1 : Option Addr} {sl1 : Array (Option Value)} {oc1 kV1 dc1 pm1 cd1 ct1 : Value} {g1 : Addr} {od2 an2 : Option Addr} {sl2 : Array (Option Value)} {oc2 kV2 dc2 pm2 cd2 ct2 : Value} {g2 : Addr} {od3 an3 : Option Addr} {sl3 : Array (Option Value)} {oc3 kV3 dc3 pm3 cd3 ct3 : Value} {g3 : Addr} {od4 an4 : Option Addr} {sl4 : Array (Option Value)} {oc4 kV4 dc4 pm4 cd4 ct4 : Value} {g4 : Addr} {od5 an5 : Option Addr} {sl5 : Array (Option Value)} {oc5 kV5 dc5 pm5 cd5 ct5 : Value} {g5 : Addr} {od6 an6 : Option Addr} {sl6 : Array (Option Value)} {oc6 kV6 dc6 pm6 cd6 ct6 : Value} {g6 : Addr} {od7 an7 : Option Addr} {sl7 : Array (Option Value)} {oc7 kV7 dc7 pm7 cd7 ct7 : Value} {g7 : Addr} {od8 an8 : Option Addr} {sl8 : Array (Option Value)} {oc8 kV8 dc8 pm8 cd8 ct8 : Value} {g8 : Addr} {od9 an9 : Option Addr} {sl9 : Array (Option Value)} {oc9 kV9 dc9 pm9 cd9 ct9 : Value} {g9 : Addr} {t_LIKE : Tok} {t_UNLIKE : Tok}
    (a0 : PySem.W.nsIn K mainGlobals "lane_begin" = some (some (.ref g0))) (l0 : K.lookup g0 = some ⟨oc0, od0, .func (PySem.W.fnOf "lane_begin" "lane_begin" (defArgs slane_begin) (defBody slane_begin) (defScope slane_begin) .none kV0 dc0 pm0 an0 cd0 ct0), sl0⟩) (c0 : PySem.W.codeIn K cd0 "lane_begin" = true) (k0 : PySem.W.keepIn K (.ref g0) = true) (a1 : PySem.W.nsIn K mainGlobals "likes_of" = some (some (.ref g1))) (l1 : K.lookup g1 = some ⟨oc1, od1, .func (PySem.W.fnOf "likes_of" "likes_of" (defArgs slikes_of) (defBody slikes_of) (defScope slikes_of) .none kV1 dc1 pm1 an1 cd1 ct1), sl1⟩) (c1 : PySem.W.codeIn K cd1 "likes_of" = true) (k1 : PySem.W.keepIn K (.ref g1) = true) (a2 : PySem.W.nsIn K mainGlobals "bound" = some (some (.ref g2))) (l2 : K.lookup g2 = some ⟨oc2, od2, .func (PySem.W.fnOf "bound" "bound" (defArgs sbound) (defBody sbound) (defScope sbound) .none kV2 dc2 pm2 an2 cd2 ct2), sl2⟩) (c2 : PySem.W.codeIn K cd2 "bound" = true) (k2 : PySem.W.keepIn K (.ref g2) = true) (a3 : PySem.W.nsIn K mainGlobals "_law_next" = some (some (.ref g3))) (l3 : K.lookup g3 = some ⟨oc3, od3, .func (PySem.W.fnOf "_law_next" "_law_next" (defArgs s_law_next) (defBody s_law_next) (defScope s_law_next) .none kV3 dc3 pm3 an3 cd3 ct3), sl3⟩) (c3 : PySem.W.codeIn K cd3 "_law_next" = true) (k3 : PySem.W.keepIn K (.ref g3) = true) (a4 : PySem.W.nsIn K mainGlobals "_law_letters" = some (some (.ref g4))) (l4 : K.lookup g4 = some ⟨oc4, od4, .func (PySem.W.fnOf "_law_letters" "_law_letters" (defArgs s_law_letters) (defBody s_law_letters) (defScope s_law_letters) .none kV4 dc4 pm4 an4 cd4 ct4), sl4⟩) (c4 : PySem.W.codeIn K cd4 "_law_letters" = true) (k4 : PySem.W.keepIn K (.ref g4) = true) (a5 : PySem.W.nsIn K mainGlobals "_law_row" = some (some (.ref g5))) (l5 : K.lookup g5 = some ⟨oc5, od5, .func (PySem.W.fnOf "_law_row" "_law_row" (defArgs s_law_row) (defBody s_law_row) (defScope s_law_row) .none kV5 dc5 pm5 an5 cd5 ct5), sl5⟩) (c5 : PySem.W.codeIn K cd5 "_law_row" = true) (k5 : PySem.W.keepIn K (.ref g5) = true) (a6 : PySem.W.nsIn K mainGlobals "_law_near" = some (some (.ref g6))) (l6 : K.lookup g6 = some ⟨oc6, od6, .func (PySem.W.fnOf "_law_near" "_law_near" (defArgs s_law_near) (defBody s_law_near) (defScope s_law_near) .none kV6 dc6 pm6 an6 cd6 ct6), sl6⟩) (c6 : PySem.W.codeIn K cd6 "_law_near" = true) (k6 : PySem.W.keepIn K (.ref g6) = true) (a7 : PySem.W.nsIn K mainGlobals "_law_scale" = some (some (.ref g7))) (l7 : K.lookup g7 = some ⟨oc7, od7, .func (PySem.W.fnOf "_law_scale" "_law_scale" (defArgs s_law_scale) (defBody s_law_scale) (defScope s_law_scale) .none kV7 dc7 pm7 an7 cd7 ct7), sl7⟩) (c7 : PySem.W.codeIn K cd7 "_law_scale" = true) (k7 : PySem.W.keepIn K (.ref g7) = true) (a8 : PySem.W.nsIn K mainGlobals "_law_same" = some (some (.ref g8))) (l8 : K.lookup g8 = some ⟨oc8, od8, .func (PySem.W.fnOf "_law_same" "_law_same" (defArgs s_law_same) (defBody s_law_same) (defScope s_law_same) .none kV8 dc8 pm8 an8 cd8 ct8), sl8⟩) (c8 : PySem.W.codeIn K cd8 "_law_same" = true) (k8 : PySem.W.keepIn K (.ref g8) = true) (a9 : PySem.W.nsIn K mainGlobals "law" = some (some (.ref g9))) (l9 : K.lookup g9 = some ⟨oc9, od9, .func (PySem.W.fnOf "law" "law" (defArgs slaw) (defBody slaw) (defScope slaw) .none kV9 dc9 pm9 an9 cd9 ct9), sl9⟩) (c9 : PySem.W.codeIn K cd9 "law" = true) (k9 : PySem.W.keepIn K (.ref g9) = true) (z_max : PySem.W.nsIn K mainGlobals "max" = some none) (z_min : PySem.W.nsIn K mainGlobals "min" = some none) (z_len : PySem.W.nsIn K mainGlobals "len" = some none) (z_range : PySem.W.nsIn K mainGlobals "range" = some none) (z_sum : PySem.W.nsIn K mainGlobals "sum" = some none) (z_sorted : PySem.W.nsIn K mainGlobals "sorted" = some none) (z_set : PySem.W.nsIn K mainGlobals "set" = some none) (z_isinstance : PySem.W.nsIn K mainGlobals "isinstance" = some none) (z_str : PySem.W.nsIn K mainGlobals "str" = some none) (z_list : PySem.W.nsIn K mainGlobals "list" = some none) (z_tuple : PySem.W.nsIn K mainGlobals "tuple" = some none) (z_int : PySem.W.nsIn K mainGlobals "int" = some none) (z_bool : PySem.W.nsIn K mainGlobals "bool" = some none) (y_LIKE : PySem.W.nsIn K mainGlobals "LIKE" = some (some (Value.str "=" t_LIKE))) (y_UNLIKE : PySem.W.nsIn K mainGlobals "UNLIKE" = some (some (Value.str "/" t_UNLIKE))) :
    ∃ fd : FuncData, (∀ (s : Shared) (v : Value), BindsTo s fd ⟨[v], []⟩ [("_law_script", v)]) ∧ ∀ base : Heap, K.In base → base.Ns mainGlobals mg → FnOk l.prog w K mg base CX0 13 fa fd ["_law_script"] (splaw K) := by
  have e := hfa.symm.trans (PySem.W.mg_of X G a9)
  cases e
  have F0 := fun_mk (st := slane_begin) l0 c0 k0
  have F1 := fun_mk (st := slikes_of) l1 c1 k1
  have F2 := fun_mk (st := sbound) l2 c2 k2
  have F3 := fun_mk (st := s_law_next) l3 c3 k3
  have F4 := fun_mk (st := s_law_letters) l4 c4 k4
  have F5 := fun_mk (st := s_law_row) l5 c5 k5
  have F6 := fun_mk (st := s_law_near) l6 c6 k6
  have F7 := fun_mk (st := s_law_scale) l7 c7 k7
  have F8 := fun_mk (st := s_law_same) l8 c8 k8
  have F9 := fun_mk (st := slaw) l9 c9 k9
  have b0 := F0.binds (ps := ["shift"]) fun _ _ _ _ _ _ us hl => match us, hl with | [_], _ => rfl
  have b1 := F1.binds (ps := ["one", "other", "shift"]) fun _ _ _ _ _ _ us hl => match us, hl with | [_, _, _], _ => rfl
  have b2 := F2.binds (ps := ["one", "other", "scale"]) fun _ _ _ _ _ _ us hl => match us, hl with | [_, _, _], _ => rfl
  have b3 := F3.binds (ps := ["_law_h", "_law_many"]) fun _ _ _ _ _ _ us hl => match us, hl with | [_, _], _ => rfl
  have b4 := F4.binds (ps := ["_law_h"]) fun _ _ _ _ _ _ us hl => match us, hl with | [_], _ => rfl
  have b5 := F5.binds (ps := ["_law_h", "_law_letters_here", "_law_most"]) fun _ _ _ _ _ _ us hl => match us, hl with | [_, _, _], _ => rfl
  have b6 := F6.binds (ps := ["_law_h", "_law_row_here", "_law_letters_here"]) fun _ _ _ _ _ _ us hl => match us, hl with | [_, _, _], _ => rfl
  have b7 := F7.binds (ps := ["_law_h"]) fun _ _ _ _ _ _ us hl => match us, hl with | [_], _ => rfl
  have b8 := F8.binds (ps := ["_law_found", "_law_due"]) fun _ _ _ _ _ _ us hl => match us, hl with | [_, _], _ => rfl
  have B : Bl mg := ⟨PySem.W.mg_none_of X G z_max, PySem.W.mg_none_of X G z_min, PySem.W.mg_none_of X G z_len, PySem.W.mg_none_of X G z_range, PySem.W.mg_none_of X G z_sum, PySem.W.mg_none_of X G z_sorted, PySem.W.mg_none_of X G z_set, PySem.W.mg_none_of X G z_isinstance, PySem.W.mg_none_of X G z_str, PySem.W.mg_none_of X G z_list, PySem.W.mg_none_of X G z_tuple, PySem.W.mg_none_of X G z_int, PySem.W.mg_none_of X G z_bool⟩
  have C : Cs mg _ _ := ⟨⟨⟨_, rfl⟩, PySem.W.mg_of X G y_LIKE⟩, ⟨⟨_, rfl⟩, PySem.W.mg_of X G y_UNLIKE⟩⟩
  refine ⟨PySem.W.fnOf "law" "law" (defArgs slaw) (defBody slaw) (defScope slaw) .none kV9 dc9 pm9 an9 cd9 ct9, fun s v => .of_eq rfl, fun base _ _ => ?_⟩
  have Dlane_begin : Dn l.prog w K mg base "lane_begin" 1 ["shift"] (splane_begin K) g0 _ := ⟨oklane_begin F0 B, PySem.W.mg_of X G a0, F0.kp, b0⟩
  have Dlikes_of : Dn l.prog w K mg base "likes_of" 2 ["one", "other", "shift"] (splikes_of K) g1 _ := ⟨oklikes_of F1 B C Dlane_begin, PySem.W.mg_of X G a1, F1.kp, b1⟩
  have Dbound : Dn l.prog w K mg base "bound" 1 ["one", "other", "scale"] (spbound K) g2 _ := ⟨okbound F2 B, PySem.W.mg_of X G a2, F2.kp, b2⟩
  have D_law_next : Dn l.prog w K mg base "_law_next" 1 ["_law_h", "_law_many"] (sp_law_next K) g3 _ := ⟨ok_law_next F3 B, PySem.W.mg_of X G a3, F3.kp, b3⟩
  have D_law_letters : Dn l.prog w K mg base "_law_letters" 2 ["_law_h"] (sp_law_letters K) g4 _ := ⟨ok_law_letters F4 B D_law_next, PySem.W.mg_of X G a4, F4.kp, b4⟩
  have D_law_row : Dn l.prog w K mg base "_law_row" 2 ["_law_h", "_law_letters_here", "_law_most"] (sp_law_row K) g5 _ := ⟨ok_law_row F5 B D_law_next, PySem.W.mg_of X G a5, F5.kp, b5⟩
  have D_law_near : Dn l.prog w K mg base "_law_near" 3 ["_law_h", "_law_row_here", "_law_letters_here"] (sp_law_near K) g6 _ := ⟨ok_law_near F6 B D_law_row D_law_next, PySem.W.mg_of X G a6, F6.kp, b6⟩
  have D_law_scale : Dn l.prog w K mg base "_law_scale" 2 ["_law_h"] (sp_law_scale K) g7 _ := ⟨ok_law_scale F7 B D_law_next, PySem.W.mg_of X G a7, F7.kp, b7⟩
  have D_law_same : Dn l.prog w K mg base "_law_same" 12 ["_law_found", "_law_due"] (sp_law_same K) g8 _ := ⟨ok_law_same F8 B (PySem.W.mg_of X G a8) b8, PySem.W.mg_of X G a8, F8.kp, b8⟩
  exact oklaw F9 B D_law_letters D_law_scale D_law_row D_law_next Dlikes_of D_law_near D_law_same Dbound
end Sr
open PySem PySem.W PyProof.Rows
set_option maxHeartbeats 0 in
theorem PySem.Challenge.cw_seedreach_k18_bound_of_two_rows_holds : PySem.Challenge.rw_seedreach_k18_bound_of_two_rows.Holds := by
  w_on; o_law; k_head; (case hw => w_witness2)
  k_fill
  refine L2.walk_of (l := PySem.Challenge.rw_seedreach_k18_bound_of_two_rows) (n := 63) (k := 13) (x := "_law_script") (CX := fun _ => L2.CX0) (sp := fun w => Sr.splaw _) rfl (by decide) rfl ⟨rfl, by decide, by decide⟩ (fun w h Y => PySem.W.kIn_of Y) ?F (fun _ _ a ns hl _ hS => ⟨a, ns, rfl, hS, hl, fun _ => rfl⟩) (fun _ _ _ _ _ h => h)
  case F =>
    intro w mg fa h KX G hmg
    refine' Sr.all_mk KX G hmg ?a0 ?l0 ?c0 ?k0 ?a1 ?l1 ?c1 ?k1 ?a2 ?l2 ?c2 ?k2 ?a3 ?l3 ?c3 ?k3 ?a4 ?l4 ?c4 ?k4 ?a5 ?l5 ?c5 ?k5 ?a6 ?l6 ?c6 ?k6 ?a7 ?l7 ?c7 ?k7 ?a8 ?l8 ?c8 ?k8 ?a9 ?l9 ?c9 ?k9 ?z_max ?z_min ?z_len ?z_range ?z_sum ?z_sorted ?z_set ?z_isinstance ?z_str ?z_list ?z_tuple ?z_int ?z_bool ?y_LIKE ?y_UNLIKE
    (case a0 => k_is)
    (case l0 => k_is)
    (case c0 => k_is)
    (case k0 => k_is)
    (case a1 => k_is)
    (case l1 => k_is)
    (case c1 => k_is)
    (case k1 => k_is)
    (case a2 => k_is)
    (case l2 => k_is)
    (case c2 => k_is)
    (case k2 => k_is)
    (case a3 => k_is)
    (case l3 => k_is)
    (case c3 => k_is)
    (case k3 => k_is)
    (case a4 => k_is)
    (case l4 => k_is)
    (case c4 => k_is)
    (case k4 => k_is)
    (case a5 => k_is)
    (case l5 => k_is)
    (case c5 => k_is)
    (case k5 => k_is)
    (case a6 => k_is)
    (case l6 => k_is)
    (case c6 => k_is)
    (case k6 => k_is)
    (case a7 => k_is)
    (case l7 => k_is)
    (case c7 => k_is)
    (case k7 => k_is)
    (case a8 => k_is)
    (case l8 => k_is)
    (case c8 => k_is)
    (case k8 => k_is)
    (case a9 => k_is)
    (case l9 => k_is)
    (case c9 => k_is)
    (case k9 => k_is)
    (case z_max => k_is)
    (case z_min => k_is)
    (case z_len => k_is)
    (case z_range => k_is)
    (case z_sum => k_is)
    (case z_sorted => k_is)
    (case z_set => k_is)
    (case z_isinstance => k_is)
    (case z_str => k_is)
    (case z_list => k_is)
    (case z_tuple => k_is)
    (case z_int => k_is)
    (case z_bool => k_is)
    (case y_LIKE => k_is)
    (case y_UNLIKE => k_is)
