import PyProof.Rows.All
import Wide.All
import OpenK.AllK
import Wide.FinOn
import HandS.ForMost
import HandS.IsInst
import HandS.Walk
import KE.SortData
import HandS.Style
import HandS.Flow
import HandS.ExcInit
import HandS.ExcField
import HandS.TryMany
import KE.KExcSuper
import KE.KSuper
import KE.KSuperObj
import HandS.Exc
import HandS.ExcOwn
import HandS.WordsExc
import HandS.ExcIs
import HandS.TryOnly
import HandS.SetFor
import KE.KExcIs
import HandS.TupSets
import KE.SortData
import HandS.SetTxt0
import PyProof.DictMoreH
import HandS.Lambda
import HandS.SortKw
import HandS.DictComp
import HandS.StrMore
import HandS.EndTab
import HandS.ListItems
import KE.DataMinKey
import PySem.Challenge.RW_seedreach_k21_two_shelves_apart
set_option Elab.async false
set_option linter.all false
set_option maxRecDepth 100000
set_option maxHeartbeats 4000000
namespace L2
open PySem PySem.Spec PyProof.Rows
/-! ### readings, one step a lemma -/
section
variable {σ : St} {H : Hp} {Q : VK} {i j : Int} {n : Nat} {v : V} {ta tb tc te : TE} {K : PySem.W.Frag} {a p : Addr} {xs ys : List V} {z z' : Str}
theorem x_var (h : σ[n]? = some (some v)) (q : Q v H) : tVar n σ H Q := ⟨v, h, q⟩
theorem x_c (q : Q v H) : tC v σ H Q := q
theorem x_op {r : R2} (q : ta σ H fun x H1 => tb σ H1 fun y H2 => r x y H2 Q) : tOp r ta tb σ H Q := q
theorem x_un {r : V → Hp → VK → Prop} (q : ta σ H fun x H1 => r x H1 Q) : tUn r ta σ H Q := q
theorem x_rI {C : Int → Int → Prop} {g : Int → Int → V} (h : C i j) (q : Q (g i j) H) : rI C g (.int i) (.int j) H Q := ⟨i, j, rfl, rfl, h, q⟩
theorem x_rI0 {g : Int → Int → V} (q : Q (g i j) H) : rI0 g (.int i) (.int j) H Q := ⟨i, j, rfl, rfl, q⟩
theorem x_rU {g : Int → V} (q : Q (g i) H) : rU g (.int i) H Q := ⟨i, rfl, q⟩
theorem x_rEq {x y : V} (h : scal x y = true) (q : Q (.bl (decide (x = y))) H) : rEq x y H Q := ⟨h, q⟩
theorem x_rNe {x y : V} (h : scal x y = true) (q : Q (.bl (!decide (x = y))) H) : rNe x y H Q := ⟨h, q⟩
theorem x_test {t : TE} {R : Bool → Hp → Prop} (q : t σ H fun x H' => ∃ k, x = .bl k ∧ R k H') : tTest t σ H R := q
theorem x_b {t : TE} {R : Bool → Hp → Prop} (q : t σ H fun x H' => ∃ k, x = .bl k ∧ R k H') : tB t σ H R := q
theorem x_bl {b : Bool} {R : Bool → Prop} (q : R b) : ∃ k, V.bl b = V.bl k ∧ R k := ⟨b, rfl, q⟩
theorem x_ifE {t : TT} (q : t σ H fun c H1 => if c = true then ta σ H1 Q else tb σ H1 Q) : tIf t ta tb σ H Q := q
theorem x_ifS {t : TT} {u1 u2 : TS} {D : Ends} (q : t σ H fun c H1 => if c = true then u1 D σ H1 else u2 D σ H1) : tIfS t u1 u2 D σ H := q
theorem x_and {t u : TT} {R : Bool → Hp → Prop} (q : t σ H fun c H1 => if c = true then u σ H1 R else R false H1) : tAnd t u σ H R := q
theorem x_or {t u : TT} {R : Bool → Hp → Prop} (q : t σ H fun c H1 => if c = true then R true H1 else u σ H1 R) : tOr t u σ H R := q
theorem x_not {t : TT} {R : Bool → Hp → Prop} (q : t σ H fun c H1 => R (!c) H1) : tNot t σ H R := q
theorem x_notV (q : ta σ H fun x H1 => ∃ c, x = .bl c ∧ Q (.bl (!c)) H1) : tNotV ta σ H Q := q
theorem x_andV (q : ta σ H fun x H1 => ∃ c, x = .bl c ∧ if c = true then tb σ H1 Q else Q (.bl false) H1) : tAndV ta tb σ H Q := q
theorem x_orV (q : ta σ H fun x H1 => ∃ c, x = .bl c ∧ if c = true then Q (.bl true) H1 else tb σ H1 Q) : tOrV ta tb σ H Q := q
theorem x_cons {tr : TA} {R : List V → Hp → Prop} (q : ta σ H fun x H1 => tr σ H1 fun xs H2 => R (x :: xs) H2) : tCons ta tr σ H R := q
theorem x_nil {R : List V → Hp → Prop} (q : R [] H) : tNil σ H R := q
theorem x_tup {t : TA} (q : t σ H fun xs H1 => xs.length ≤ sizeLine ∧ ∀ p, H1 p = none → Q (.ref p) (upd H1 p (.tup xs))) : tTup t σ H Q := q
theorem x_lst {t : TA} (q : t σ H fun xs H1 => xs.length ≤ sizeLine ∧ ∀ p, H1 p = none → Q (.ref p) (upd H1 p (.lst xs))) : tLst t σ H Q := q
theorem x_cb {r : List V → Hp → VK → Prop} {t : TA} (q : t σ H fun vs H1 => r vs H1 Q) : tCB r t σ H Q := q
theorem x_call {sp : Sp} {dvs : List V} {E : XK} {t : TA} (q : t σ H fun vs H1 => sp (vs ++ dvs) H1 Q E) : tCall sp dvs E t σ H Q := q
theorem x_ixL (h : SqL K H p xs) (e : atI xs i = some v) (q : Q v H) : rIxL K (.ref p) (.int i) H Q := ⟨p, xs, i, v, rfl, rfl, h, e, q⟩
theorem x_ixT (h : SqT K H p xs) (e : atI xs i = some v) (q : Q v H) : rIxT K (.ref p) (.int i) H Q := ⟨p, xs, i, v, rfl, rfl, h, e, q⟩
theorem x_ixS {c : Nat} (h : z.length ≤ sizeLine) (e : atI z.cps.toList i = some c) (q : Q (.str ⟨#[c]⟩) H) : rIxS (.str z) (.int i) H Q := ⟨z, i, c, rfl, rfl, h, e, q⟩
theorem x_lenL {R : List V → Prop} (h : SqL K H p ys ∨ SqT K H p ys) (q : R ys) : ∃ (p' : Addr) (ys : List V), [V.ref p] = [V.ref p'] ∧ (SqL K H p' ys ∨ SqT K H p' ys) ∧ R ys := ⟨p, ys, rfl, h, q⟩
theorem x_lenS {R : Str → Prop} (h : z.length ≤ sizeLine) (q : R z) : ∃ z', [V.str z] = [V.str z'] ∧ z'.length ≤ sizeLine ∧ R z' := ⟨z, rfl, h, q⟩
theorem x_two {R : Int → Int → Prop} (q : R i j) : ∃ i' j', [V.int i, V.int j] = [V.int i', V.int j'] ∧ R i' j' := ⟨i, j, rfl, q⟩
theorem x_intB {R : Int → Prop} {S : Bool → Prop} {k : Bool} (q : S k) : (∃ i, [V.bl k] = [V.int i] ∧ R i) ∨ ∃ k', [V.bl k] = [V.bl k'] ∧ S k' := .inr ⟨k, rfl, q⟩
theorem x_addS {R : Str → Str → Prop} (h : z.length + z'.length ≤ sizeLine) (q : R z z') : ∃ i j, V.str z = V.str i ∧ V.str z' = V.str j ∧ i.length + j.length ≤ sizeLine ∧ R i j := ⟨z, z', rfl, rfl, h, q⟩
theorem x_chain {r r' : R2} (q : ta σ H fun x H1 => tb σ H1 fun y H2 => r x y H2 fun z H3 => ∃ k, z = .bl k ∧ if k = true then tc σ H3 fun w H4 => r' y w H4 Q else Q (.bl false) H3) : tChain r r' ta tb tc σ H Q := q
theorem x_seq {t u : TS} {D : Ends} (q : t { D with nx := u D } σ H) : tSeq t u D σ H := q
theorem x_next {D : Ends} (q : D.nx σ H) : tNext D σ H := q
theorem x_asg {g : TG} {D : Ends} (q : te σ H fun x H1 => g x σ H1 D.nx) : tAsg te g D σ H := q
theorem x_name {R : St → Hp → Prop} (q : R (σ.set n (some v)) H) : gName n v σ H R := q
theorem x_drop {D : Ends} (q : te σ H fun _ H1 => D.nx σ H1) : tDrop te D σ H := q
theorem x_ret {D : Ends} (q : te σ H D.rt) : tRet te D σ H := q
theorem x_gTup {t : TGs} {R : St → Hp → Prop} (h : SqT K H a xs) (hl : xs.length = n) (q : t xs σ H R) : gTup K n t (.ref a) σ H R := ⟨a, xs, rfl, h, hl, q⟩
theorem x_gCons {t : TG} {u : TGs} {vs : List V} {R : St → Hp → Prop} (q : t v σ H fun σ' H' => u vs σ' H' R) : gCons t u (v :: vs) σ H R := ⟨v, vs, rfl, q⟩
theorem x_gNil {R : St → Hp → Prop} (q : R σ H) : gNil [] σ H R := ⟨rfl, q⟩
theorem x_gSub {to ti : TE} {t : TSet} {R : St → Hp → Prop} (q : to σ H fun o H1 => ti σ H1 fun i H2 => t o i v H2 fun H3 => R σ H3) : gSub to ti t v σ H R := q
theorem x_setL {k : Nat} {R : Hp → Prop} (h : H p = some (.lst xs)) (e : ixN xs.length i = some k) (q : R (upd H p (.lst (xs.set k v)))) : rSetL (.ref p) (.int i) v H R := ⟨p, xs, i, k, rfl, rfl, h, e, q⟩
theorem x_bm {T : String} {r : V → List V → Hp → VK → Prop} {to : TE} {t : TA} (q : to σ H fun x H1 => tyV K T x H1 ∧ t σ H1 fun xs H2 => r x xs H2 Q) : tBM K T r to t σ H Q := q
theorem x_m1 {r : V → List V → Hp → VK → Prop} {to : TE} (q : to σ H fun x H1 => (∃ a, x = .str a) ∧ te σ H1 fun y H2 => r x [y] H2 Q) : tM1 r to te σ H Q := q
theorem x_m1s {R : Prop} (q : R) : (∃ a, V.str z = V.str a) ∧ R := ⟨⟨z, rfl⟩, q⟩
theorem x_sl {r : V → Option Int → Option Int → Hp → VK → Prop} {tl th : TO} (q : te σ H fun x H1 => tl σ H1 fun l H2 => th σ H2 fun u H3 => r x l u H3 Q) : tSl r te tl th σ H Q := q
theorem x_noPart {R : Option Int → Hp → Prop} (q : R none H) : tNoPart σ H R := q
theorem x_part {R : Option Int → Hp → Prop} (q : te σ H fun x H1 => ∃ i, x = .int i ∧ R (some i) H1) : tPart te σ H R := q
theorem x_parti {R : Int → Prop} (q : R i) : ∃ i', V.int i = V.int i' ∧ R i' := ⟨i, rfl, q⟩
theorem x_slS {lo hi : Option Int} (h : z.length ≤ sizeLine) (q : Q (.str (cutS z lo hi)) H) : rSlS (.str z) lo hi H Q := ⟨z, rfl, h, q⟩
theorem x_rng1 {t : TA} {R : It → Hp → Prop} (q : t σ H fun vs H1 => ∃ j : Int, vs = [.int j] ∧ -(2 ^ 62) ≤ j ∧ j < 2 ^ 62 ∧ R (Itr 0 j.toNat) H1) : iRng1 t σ H R := q
theorem x_rng1i {R : Int → Prop} (h1 : -(2 ^ 62) ≤ i) (h2 : i < 2 ^ 62) (q : R i) : ∃ j : Int, [V.int i] = [V.int j] ∧ -(2 ^ 62) ≤ j ∧ j < 2 ^ 62 ∧ R j := ⟨i, rfl, h1, h2, q⟩
theorem x_rng2 {t : TA} {R : It → Hp → Prop} (q : t σ H fun vs H1 => ∃ i j : Int, vs = [.int i, .int j] ∧ (-(2 ^ 62) ≤ i ∧ i < 2 ^ 62 ∧ -(2 ^ 62) ≤ j ∧ j < 2 ^ 62) ∧ R (Itr i (j - i).toNat) H1) : iRng2 t σ H R := q
theorem x_rng2i {R : Int → Int → Prop} (h : -(2 ^ 62) ≤ i ∧ i < 2 ^ 62 ∧ -(2 ^ 62) ≤ j ∧ j < 2 ^ 62) (q : R i j) : ∃ i' j' : Int, [V.int i, V.int j] = [V.int i', V.int j'] ∧ (-(2 ^ 62) ≤ i' ∧ i' < 2 ^ 62 ∧ -(2 ^ 62) ≤ j' ∧ j' < 2 ^ 62) ∧ R i' j' := ⟨i, j, rfl, h, q⟩
theorem x_lcR {g : TG} {tt : TT} {vs : List Nat} {wi : TI} (q : wi σ H fun J H1 => ∀ D, H1 D = none → ∃ W : Nat → Nat → Hp → Prop, (∃ m, W 0 m (upd H1 D (.lst []))) ∧ ∀ i m H, W i m H →
  (J.stop i H ∧ Q (.ref D) H) ∨ (J.go i H ∧ ∃ Nx : Hp → Prop, (∀ H', Nx H' → ∃ m', m' < m ∧ W (i + 1) m' H') ∧ ∀ x H', J.yld i H x H' → g x (wipe σ vs) H' fun σ2 H2 => wipe σ2 vs = wipe σ vs ∧ tt σ2 H2 fun b H3 =>
    if b = true then te σ2 H3 fun y H4 => ∃ acc, H4 D = some (.lst acc) ∧ acc.length < sizeLine ∧ Nx (upd H4 D (.lst (acc ++ [y]))) else Nx H3)) : tLc wi g tt te vs σ H Q := q
theorem x_yes {R : Bool → Hp → Prop} (q : R true H) : tYes σ H R := q
theorem x_iList {R : It → Hp → Prop} {tl : TE} (q : tl σ H fun x H1 => ∃ a, x = .ref a ∧ (∃ xs, SqL K H1 a xs) ∧ R (Itl K a) H1) : iList K tl σ H R := q
theorem x_iListi {R : Addr → Prop} (h : SqL K H a xs) (q : R a) : ∃ a', V.ref a = V.ref a' ∧ (∃ xs, SqL K H a' xs) ∧ R a' := ⟨a, rfl, ⟨xs, h⟩, q⟩
theorem x_iStr {R : It → Hp → Prop} (q : te σ H fun v H1 => ∃ x, v = .str x ∧ R (Its x) H1) : iStr te σ H R := q
theorem x_iStri {R : Str → Prop} (q : R z) : ∃ z', V.str z = V.str z' ∧ R z' := ⟨z, rfl, q⟩
theorem x_for {wi : TI} {g : TG} {tb : TS} {D : Ends} (q : wi σ H fun J H1 => ∃ W : Nat → Nat → St → Hp → Prop, (∃ m, W 0 m σ H1) ∧ ∀ i m σ H, W i m σ H →
    ((J.stop i H ∧ D.nx σ H) ∨ (J.go i H ∧ ∃ N : St → Hp → Prop, (∀ σ' H', N σ' H' → ∃ m', m' < m ∧ W (i + 1) m' σ' H') ∧ ∀ x H', J.yld i H x H' → g x σ H' fun σ2 H2 => tb { D with nx := N, ct := N, bk := D.nx } σ2 H2))) : tFor wi g tb D σ H := q
theorem x_append (h : H p = some (.lst xs)) (hl : xs.length < sizeLine) (q : Q .non (upd H p (.lst (xs ++ [v])))) : rAppend (.ref p) [v] H Q := ⟨p, xs, v, rfl, rfl, h, hl, q⟩
theorem x_s1 {R : Str → Str → Prop} (q : R z z') : ∃ a b, V.str z = V.str a ∧ [V.str z'] = [V.str b] ∧ R a b := ⟨z, z', rfl, rfl, q⟩
theorem x_aug {te : TE} {ti : TIp} {D : Ends} {x : V} (h : σ[n]? = some (some x)) (q : te σ H fun y H1 => ti x y H1 fun z H2 => D.nx (σ.set n (some z)) H2) : tAug n te ti D σ H := ⟨x, h, q⟩
theorem x_ipI {f : Int → Int → Int} (q : Q (.int (f i j)) H) : ipI f (.int i) (.int j) H Q := ⟨i, j, rfl, rfl, q⟩
theorem x_enumS {R : Str → Prop} (q : R z) : ∃ x, [V.str z] = [V.str x] ∧ R x := ⟨z, rfl, q⟩
theorem x_par {k : Nat} {t : TA} {D : Ends} (q : t σ H fun vs H1 => ∃ v w, vs = [v, w] ∧ D.nx ((σ.set n (some v)).set k (some w)) H1) : tPar n k t D σ H := q
theorem x_parv {R : V → V → Prop} {v' : V} (q : R v v') : ∃ x y, [v, v'] = [x, y] ∧ R x y := ⟨v, v', rfl, q⟩
theorem x_rIntB {R : Int → Prop} {S : Bool → Prop} (q : R i) : (∃ j, [V.int i] = [V.int j] ∧ R j) ∨ ∃ k, [V.int i] = [V.bl k] ∧ S k := .inl ⟨i, rfl, q⟩
theorem x_join {ys : List Str} {R : Str → List Str → Prop} (h : SqL K H p (ys.map V.str)) (hl : (ys.map (·.length)).sum + ys.length * z.length ≤ 16777216) (q : R z ys) :
    ∃ a p', ∃ ys : List Str, V.str z = V.str a ∧ [V.ref p] = [V.ref p'] ∧ (SqL K H p' (ys.map V.str) ∨ SqT K H p' (ys.map V.str)) ∧ (ys.map (·.length)).sum + ys.length * a.length ≤ 16777216 ∧ R a ys := ⟨z, p, ys, rfl, rfl, .inl h, hl, q⟩
end
theorem x_cutE {te : TE} {σ : St} {H : Hp} {Q : VK} (P : V → Hp → Prop) (h1 : ∀ Q' : VK, (∀ v H', P v H' → Q' v H') → te σ H Q') (h2 : ∀ v H', P v H' → Q v H') : te σ H Q := h1 Q h2
theorem x_cutS {t : TS} {D : Ends} {σ : St} {H : Hp} (P : St → Hp → Prop) (h1 : ∀ nx : St → Hp → Prop, (∀ σ' H', P σ' H' → nx σ' H') → t { D with nx := nx } σ H) (h2 : ∀ σ' H', P σ' H' → D.nx σ' H') : t D σ H := h1 D.nx h2
theorem x_iteNT {A B : Prop} (q : B) : if (!true) = true then A else B := q
theorem x_iteNF {A B : Prop} (q : A) : if (!false) = true then A else B := q
theorem x_iteFe {c : Bool} {A B : Prop} (h : c = false) (q : B) : if c = true then A else B := by
  rw [h]
  exact q
theorem x_iteTe {c : Bool} {A B : Prop} (h : c = true) (q : A) : if c = true then A else B := by
  rw [h]
  exact q
theorem hp_sz {n : Nat} (h : n ≤ 1000000) : n ≤ sizeLine := Nat.le_trans h (by decide)
end L2
namespace L2
open PySem PySem.Spec PyProof.Rows
theorem blkOk_in {X : Cx} {N : List Str} {sc scope inner : Scope} {cl : List (Str × Addr)} {C : Addr} {own : List (Str × Nat)} (hN : X.N = N) (hs : X.env.scope = sc) (h : blkC N (relS scope sc) inner own = true) {s : Shared} {H : Hp} {fp : List Addr} :
    BlkOk (X.blk s H scope (compEnvC scope cl C X.env) fp).N (X.blk s H scope (compEnvC scope cl C X.env) fp).env.scope inner own := by
  subst hN hs
  exact blkOk_by h
end L2

namespace Sr
open PySem PySem.Spec PyProof.Rows L2
/-! ### the source of draws: a list [s, cells, i] at a, its cells at b -/
def Src (H : Hp) (a b : Addr) : Prop := a ≠ b ∧ ∃ (s i : Int) (cs : List Int), H a = some (.lst [.int s, .ref b, .int i]) ∧ H b = some (.lst (cs.map V.int)) ∧ cs.length ≤ 63
/-- all that is tracked but the source stands as it was -/
def Kp (a b : Addr) (H H' : Hp) : Prop := ∀ p o, p ≠ a → p ≠ b → H p = some o → H' p = some o
theorem Kp.refl {a b : Addr} (H : Hp) : Kp a b H H := fun _ _ _ _ h => h
theorem Kp.trans {a b : Addr} {H H1 H2 : Hp} (x : Kp a b H H1) (y : Kp a b H1 H2) : Kp a b H H2 := fun p o h1 h2 h => y p o h1 h2 (x p o h1 h2 h)
theorem Kp.of {a b : Addr} {H H' : Hp} (x : Same H H') : Kp a b H H' := fun p o _ _ h => x p o h
theorem Kp.new {a b p : Addr} {H : Hp} {o : HO} (h : H p = none) : Kp a b H (upd H p o) := fun q u _ _ e => by
  rw [upd_ne (ne_of_none e h)]
  exact e
theorem Kp.at_a {a b : Addr} {H : Hp} {o : HO} : Kp a b H (upd H a o) := fun q u n _ e => by
  rw [upd_ne n]
  exact e
theorem Kp.at_b {a b : Addr} {H : Hp} {o : HO} : Kp a b H (upd H b o) := fun q u _ n e => by
  rw [upd_ne n]
  exact e
theorem Src.new {a b p : Addr} {H : Hp} {o : HO} (x : Src H a b) (h : H p = none) : Src (upd H p o) a b := by
  obtain ⟨n, s, i, cs, h1, h2, h3⟩ := x
  exact ⟨n, s, i, cs, by rw [upd_ne (ne_of_none h1 h)]; exact h1, by rw [upd_ne (ne_of_none h2 h)]; exact h2, h3⟩
/-- an object that is no list of ints and no list that begins so stands apart -/
theorem same_upd {H : Hp} {p : Addr} {o : HO} (h : H p = none) : Same H (upd H p o) := fun b x e => by
  rw [upd_ne (ne_of_none e h)]
  exact e
theorem Src_same {a b : Addr} {H H' : Hp} (x : Src H a b) (e : Same H H') : Src H' a b := by
  obtain ⟨n, s, i, cs, h1, h2, h3⟩ := x
  exact ⟨n, s, i, cs, e _ _ h1, e _ _ h2, h3⟩
theorem atI_of {α : Type} {xs : List α} {i : Int} {v : α} (h0 : 0 ≤ i) (h : xs[i.toNat]? = some v) : atI xs i = some v := by
  have e : i = ((i.toNat : Nat) : Int) := by omega
  rw [e]
  exact atI_nat h
theorem ixN_of {n : Nat} {i : Int} (h0 : 0 ≤ i) (h : i < n) : ixN n i = some i.toNat := by
  unfold ixN
  rw [if_pos h0, if_pos h]
theorem eqv_ints_nil : ∀ cs : List Int, PyData.eqv (.list (cs.map PyData.int)) (.list []) = cs.isEmpty
  | [] => by decide +kernel
  | c :: cs => by
    show PyData.eqv (.list (PyData.int c :: cs.map PyData.int)) (.list []) = false
    simp [PyData.eqv, PyData.eqvAll]
theorem dp_ints {K : PySem.W.Frag} {H : Hp} : ∀ cs : List Int, DpAll K H (cs.map V.int) (cs.map PyData.int)
  | [] => .nil
  | c :: cs => .cons (.int c) (dp_ints cs)
theorem lay_ints : ∀ cs : List Int, PyData.canLayAll0 (cs.map PyData.int) = true
  | [] => by simp [PyData.canLayAll0]
  | c :: cs => by
    have h := lay_ints cs
    simp [PyData.canLayAll0, PyData.canLay0] at h ⊢
    exact h
theorem depth_ints : ∀ cs : List Int, PyData.depthAll (cs.map PyData.int) ≤ 1
  | [] => by simp [PyData.depthAll]
  | c :: cs => by
    have h := depth_ints cs
    simp [PyData.depthAll, PyData.depth] at h ⊢
    omega
theorem shaped_ints (cs : List Int) : SeqAt.shaped (.list (cs.map PyData.int)) = true := by
  unfold SeqAt.shaped
  rw [Bool.and_eq_true]
  refine ⟨lay_ints cs, decide_eq_true ?_⟩
  have h := depth_ints cs
  simp only [PyData.depth]
  omega
theorem ints_at {cs : List Int} {j : Nat} (h : j < cs.length) : (cs.map V.int)[j]? = some (.int cs[j]) := by
  rw [List.getElem?_map, List.getElem?_eq_getElem h]
  rfl
theorem map_set_int (cs : List Int) (j : Nat) (x : Int) : (cs.map V.int).set j (.int x) = (cs.set j x).map V.int := by
  rw [List.map_set]
end Sr

namespace Sr
open PySem PySem.Spec PyProof.Rows L2
open TL (tl)
/-! ### texts by their codes -/
/-- the text of these codes -/
def S (l : List Nat) : Str := ⟨l.toArray⟩
theorem tl_S (l : List Nat) : tl (S l) = l := rfl
theorem S_tl (z : Str) : S (tl z) = z := TL.mk_tl z
theorem S_inj {l m : List Nat} (h : S l = S m) : l = m := congrArg tl h
theorem len_S (l : List Nat) : (S l).length = l.length := by rw [TL.len_tl, tl_S]
theorem S_app (l m : List Nat) : S l ++ S m = S (l ++ m) := TL.ext_tl (by rw [TL.tl_append, tl_S, tl_S, tl_S])
def sg (c : Nat) : Str := ⟨#[c]⟩
theorem sg_S (c : Nat) : sg c = S [c] := rfl
theorem joinL_nil : ∀ ps : List (List Nat), TL.joinL [] ps = ps.flatten
  | [] => rfl
  | [p] => by simp [TL.joinL]
  | p :: q :: r => by
    show p ++ ([] ++ TL.joinL [] (q :: r)) = _
    rw [joinL_nil (q :: r)]
    simp
theorem join_signs (cs : List Nat) : Txt.join "" (cs.map sg) = S cs := by
  refine TL.ext_tl ?_
  rw [TL.join_eq, TL.tl_join, show tl ("" : Str) = [] from rfl, joinL_nil, tl_S, List.map_map]
  induction cs with
  | nil => rfl
  | cons c cs ih =>
    rw [List.map_cons, List.flatten_cons, ih]
    rfl
theorem signs_len (cs : List Nat) : ((cs.map sg).map (·.length)).sum + (cs.map sg).length * ("" : Str).length = cs.length := by
  rw [show ("" : Str).length = 0 from rfl, Nat.mul_zero, Nat.add_zero]
  induction cs with
  | nil => rfl
  | cons c cs ih =>
    rw [List.map_cons, List.map_cons, List.sum_cons, ih, List.length_cons]
    show 1 + cs.length = _
    omega
theorem spl_len (c : Nat) : ∀ (l acc : List Nat), (TL.spl [c] 0 acc l).length = l.count c + 1
  | [], acc => by simp [TL.spl]
  | d :: r, acc => by
    have e : TL.spl [c] 0 acc (d :: r) = if TL.pre [c] (d :: r) = true then acc :: TL.spl [c] 0 [] r else TL.spl [c] 0 (acc ++ [d]) r := rfl
    rw [e]
    by_cases h : d = c
    · subst h
      rw [if_pos (by simp [TL.pre]), List.length_cons, spl_len d r [], List.count_cons_self]
    · have hp : ¬ TL.pre [c] (d :: r) = true := by simp [TL.pre, h]
      rw [if_neg hp, spl_len c r _, List.count_cons_of_ne h]
theorem parts_len (x : Str) (n : Nat) : ∀ (cuts : List Nat) (a : Nat), (StrLaws.partsFrom x n a cuts).length = cuts.length + 1
  | [], _ => rfl
  | c :: r, a => by
    show (_ :: StrLaws.partsFrom x n (c + n) r).length = _
    rw [List.length_cons, parts_len x n r, List.length_cons]
theorem count_sign (z : Str) (c : Nat) : Txt.count z (sg c) = (((tl z).count c : Nat) : Int) := by
  have hy : tl (sg c) ≠ [] := by
    show [c] ≠ []
    simp
  obtain ⟨f, g, hn⟩ := StrLaws.occ_tight z (sg c) (by show 1 ≤ 1; exact Nat.le_refl _)
  have key := congrArg List.length (TL.parts_spl hy _ 0 f (Nat.zero_le _) g hn)
  rw [List.length_map, parts_len, List.drop_zero, show tl (sg c) = [c] from rfl, spl_len] at key
  show ((Builtin.Str.occurrences z (sg c) 0 z.length (z.length + 1)).length : Int) = _
  omega
/-- the worth of likes -/
def wor (g l : Int) : List Nat → Int
  | [] => 0
  | c :: r => (if c = 61 then g else -l) + wor g l r
theorem wor_app (g l : Int) : ∀ a b, wor g l (a ++ b) = wor g l a + wor g l b
  | [], b => by simp [wor]
  | c :: a, b => by
    show (if c = 61 then g else -l) + wor g l (a ++ b) = (if c = 61 then g else -l) + wor g l a + wor g l b
    rw [wor_app g l a b]
    omega
theorem wor_take (g l : Int) {z : List Nat} {i : Nat} (h : i < z.length) : wor g l (z.take (i + 1)) = wor g l (z.take i) + (if z[i] = 61 then g else -l) := by
  rw [List.take_succ_eq_append_getElem h, wor_app]
  show _ + ((if z[i] = 61 then g else -l) + 0) = _
  omega
/-- likes: a text of 61 and 47 alone -/
def Lk (z : List Nat) : Prop := ∀ c ∈ z, c = 61 ∨ c = 47
theorem wor_count (g l : Int) : ∀ {z : List Nat}, Lk z → g * ((z.count 61 : Nat) : Int) - l * ((z.count 47 : Nat) : Int) = wor g l z
  | [], _ => by simp [wor]
  | c :: r, h => by
    have ih := wor_count g l (z := r) fun d hd => h d (List.mem_cons_of_mem _ hd)
    show _ = (if c = 61 then g else -l) + wor g l r
    rcases h c (List.mem_cons_self ..) with e | e
    · subst e
      rw [List.count_cons_self, List.count_cons_of_ne (by decide), if_pos rfl, ← ih, Int.natCast_add, Int.mul_add]
      simp
      omega
    · subst e
      rw [List.count_cons_self, List.count_cons_of_ne (by decide), if_neg (by decide), ← ih, Int.natCast_add, Int.mul_add]
      simp
      omega
/-- the places of a lane -/
def onl (n : Nat) (d : Int) (p : Nat) : Bool := decide (0 ≤ (p : Int) + d) && decide ((p : Int) + d < (n : Int))
def plc (m n : Nat) (d : Int) : List Nat := (List.range m).filter (onl n d)
def bgn (d : Int) : Nat := (-d).toNat
def lkn (m n : Nat) (d : Int) : Nat := (min (m : Int) ((n : Int) - d) - (bgn d : Int)).toNat
theorem plc_eq (n : Nat) (d : Int) : ∀ m, plc m n d = (List.range (lkn m n d)).map (bgn d + ·)
  | 0 => by
    have h : lkn 0 n d = 0 := by unfold lkn bgn; omega
    rw [h]
    rfl
  | m + 1 => by
    have ih := plc_eq n d m
    unfold plc at ih ⊢
    rw [List.range_succ, List.filter_append, ih]
    by_cases h : onl n d m = true
    · have h' : 0 ≤ (m : Int) + d ∧ (m : Int) + d < n := by
        unfold onl at h
        simpa using h
      have e : lkn (m + 1) n d = lkn m n d + 1 := by unfold lkn bgn; omega
      have e2 : m = bgn d + lkn m n d := by unfold lkn bgn; omega
      rw [e, List.range_succ, List.map_append, List.filter_cons, if_pos h]
      show _ ++ [m] = _ ++ [bgn d + lkn m n d]
      rw [← e2]
    · have h' : ¬ (0 ≤ (m : Int) + d ∧ (m : Int) + d < n) := by
        unfold onl at h
        simpa using h
      have e : lkn (m + 1) n d = lkn m n d := by unfold lkn bgn; omega
      rw [e, List.filter_cons, if_neg h]
      simp
/-- the like at a place -/
def lk1 (o t : List Nat) (d : Int) (p : Nat) : Nat := if o[p]? = t[((p : Int) + d).toNat]? then 61 else 47
def likL (o t : List Nat) (d : Int) : List Nat := (plc o.length t.length d).map (lk1 o t d)
theorem likL_Lk (o t : List Nat) (d : Int) : Lk (likL o t d) := fun c h => by
  obtain ⟨p, _, rfl⟩ := List.mem_map.mp h
  unfold lk1
  split
  · exact .inl rfl
  · exact .inr rfl
theorem plc_len (m n : Nat) (d : Int) : (plc m n d).length = lkn m n d := by
  rw [plc_eq, List.length_map, List.length_range]
theorem likL_len (o t : List Nat) (d : Int) : (likL o t d).length = lkn o.length t.length d := by
  unfold likL
  rw [List.length_map, plc_len]
theorem lkn_le (m n : Nat) (d : Int) : lkn m n d ≤ m := by unfold lkn bgn; omega
theorem likL_le (o t : List Nat) (d : Int) : (likL o t d).length ≤ o.length := by rw [likL_len]; exact lkn_le _ _ _
theorem likL_eq (o t : List Nat) (d : Int) : likL o t d = (List.range (lkn o.length t.length d)).map fun i => lk1 o t d (bgn d + i) := by
  unfold likL
  rw [plc_eq, List.map_map]
  rfl
/-- the drawn letters -/
def letL (t n : Nat) : List Nat := (List.range n).map fun k => 97 + (t + 7 * k) % 26
theorem letL_len (t n : Nat) : (letL t n).length = n := by unfold letL; rw [List.length_map, List.length_range]
theorem pv_step {H2 H : Hp} {D : Addr} {f : Nat → V} {i : Nat} {y : V} (hn : H2 D = none) (sm : Same H2 H) (hD : H D = some (.lst ((List.range i).map f))) (hi : i ≤ 1000000) (hy : y = f i) :
    ∃ acc, H D = some (.lst acc) ∧ acc.length < sizeLine ∧ (Same H2 (upd H D (.lst (acc ++ [y]))) ∧ upd H D (.lst (acc ++ [y])) D = some (.lst ((List.range (i + 1)).map f))) := by
  refine ⟨_, hD, ?_, fun b o e => ?_, ?_⟩
  · rw [List.length_map, List.length_range]
    exact Nat.lt_of_le_of_lt hi (by decide)
  · rw [upd_ne (ne_of_none e hn)]
    exact sm b o e
  · rw [upd_same, hy, List.range_succ, List.map_append]
    rfl
theorem lst_map_signs (cs : List Nat) : (cs.map sg).map V.str = cs.map fun c => V.str (sg c) := by rw [List.map_map]; rfl
/-- the end of ''.join of signs -/
theorem join_end {K : PySem.W.Frag} {H : Hp} {p : Addr} {cs : List Nat} {Q : VK} (h : H p = some (.lst (cs.map fun c => V.str (sg c)))) (hl : cs.length ≤ 1000000) (q : Q (.str (S cs)) H) :
    ∃ a p', ∃ ys : List Str, V.str (Str.ofString "") = V.str a ∧ [V.ref p] = [V.ref p'] ∧ (SqL K H p' (ys.map V.str) ∨ SqT K H p' (ys.map V.str)) ∧ (ys.map (·.length)).sum + ys.length * a.length ≤ 16777216 ∧ Q (V.str (Txt.join a ys)) H := by
  refine ⟨_, p, cs.map sg, rfl, rfl, .inl (SqL.of ?_), ?_, ?_⟩
  · rw [lst_map_signs]
    exact h
  · have e := signs_len cs
    show ((cs.map sg).map (·.length)).sum + (cs.map sg).length * ("" : Str).length ≤ 16777216
    rw [e]
    omega
  · have e := join_signs cs
    show Q (V.str (Txt.join "" (cs.map sg))) H
    rw [e]
    exact q
/-- what a comprehension of drawn signs keeps -/
def Dr (a b : Addr) (H0 : Hp) (D : Addr) (ok : Nat → Prop) (i : Nat) (H : Hp) : Prop := ∃ cs : List Nat, cs.length = i ∧ (∀ c ∈ cs, ok c) ∧ Src H a b ∧ Kp a b H0 H ∧ H D = some (.lst (cs.map fun c => V.str (sg c)))
theorem Dr.start {a b : Addr} {H0 : Hp} {D : Addr} {ok : Nat → Prop} (hs : Src H0 a b) (hn : H0 D = none) : Dr a b H0 D ok 0 (upd H0 D (.lst [])) :=
  ⟨[], rfl, (fun c h => nomatch h), hs.new hn, Kp.new hn, upd_same⟩
theorem Src.ne_a {a b D : Addr} {H : Hp} (h : Src H a b) (hn : H D = none) : D ≠ a := by
  obtain ⟨_, _, _, _, h1, _⟩ := h
  exact (ne_of_none h1 hn).symm
theorem Src.ne_b {a b D : Addr} {H : Hp} (h : Src H a b) (hn : H D = none) : D ≠ b := by
  obtain ⟨_, _, _, _, _, h1, _⟩ := h
  exact (ne_of_none h1 hn).symm
theorem Src.upd {a b D : Addr} {H : Hp} {o : HO} (h : Src H a b) (na : D ≠ a) (nb : D ≠ b) : Src (upd H D o) a b := by
  obtain ⟨n, s, i, cs, h1, h2, h3⟩ := h
  exact ⟨n, s, i, cs, by rw [upd_ne na.symm]; exact h1, by rw [upd_ne nb.symm]; exact h2, h3⟩
/-- a turn: the element drew in between (H to H'), then its sign is appended -/
theorem Dr.step {a b : Addr} {H0 H H' : Hp} {D : Addr} {ok : Nat → Prop} {i c : Nat} (hn : H0 D = none) (hs0 : Src H0 a b) (h : Dr a b H0 D ok i H) (hi : i ≤ 1000000) (hs : Src H' a b) (k : Kp a b H H') (hc : ok c) :
    ∃ acc, H' D = some (.lst acc) ∧ acc.length < sizeLine ∧ Dr a b H0 D ok (i + 1) (L2.upd H' D (.lst (acc ++ [V.str (sg c)]))) := by
  obtain ⟨cs, hl, hok, _, k0, hD⟩ := h
  have na := hs0.ne_a hn
  have nb := hs0.ne_b hn
  refine ⟨_, k D _ na nb hD, ?_, cs ++ [c], ?_, ?_, hs.upd na nb, fun p o h1 h2 e => ?_, ?_⟩
  · rw [List.length_map, hl]
    exact Nat.lt_of_le_of_lt hi (by decide)
  · rw [List.length_append, hl]
    rfl
  · intro d hd
    rcases List.mem_append.mp hd with h1 | h1
    · exact hok d h1
    · rw [List.mem_singleton.mp h1]
      exact hc
  · rw [upd_ne (ne_of_none e hn)]
    exact k p o h1 h2 (k0 p o h1 h2 e)
  · rw [upd_same, List.map_append]
    rfl
end Sr
namespace Sr
open PySem PySem.Spec PyProof.Rows L2
/-! ### data that the law compares -/
inductive Gd : PyData → Prop where
  | int (i : Int) : Gd (.int i)
  | str (x : Str) : Gd (.str x)
  | bl (b : Bool) : Gd (.bool b)
  | lst (ds : List PyData) (hl : ds.length ≤ 100000) (h : ∀ d ∈ ds, Gd d) : Gd (.list ds)
  | tup (ds : List PyData) (hl : ds.length ≤ 100000) (h : ∀ d ∈ ds, Gd d) : Gd (.tuple ds)
theorem SqT_same {K : PySem.W.Frag} {H H' : Hp} {a : Addr} {xs : List V} (e : Same H H') (h : SqT K H a xs) : SqT K H' a xs := by
  rcases h with (h | ⟨o, h⟩) | h
  · exact .inl (.inl (e _ _ h))
  · exact .inl (.inr ⟨o, e _ _ h⟩)
  · exact .inr h
section
variable {K : PySem.W.Frag} {H H' : Hp}
mutual
theorem Dp_same (e : Same H H') : ∀ (d : PyData) (v : V), Dp K H v d → Dp K H' v d
  | .none, _, h => by cases h; exact .non
  | .bool b, _, h => by cases h; exact .bl b
  | .int i, _, h => by cases h; exact .int i
  | .str x, _, h => by cases h; exact .str x
  | .list ds, _, h => by
    cases h with
    | lst hs ha => exact .lst (e.seq hs) (DpAll_same e ds _ ha)
  | .tuple ds, _, h => by
    cases h with
    | tup hs ha => exact .tup (SqT_same e hs) (DpAll_same e ds _ ha)
  | .dict _, _, h => by cases h
theorem DpAll_same (e : Same H H') : ∀ (ds : List PyData) (vs : List V), DpAll K H vs ds → DpAll K H' vs ds
  | [], _, h => by cases h; exact .nil
  | d :: ds, _, h => by
    cases h with
    | cons h1 h2 => exact .cons (Dp_same e d _ h1) (DpAll_same e ds _ h2)
end
theorem DpAll_len : ∀ {ds : List PyData} {vs : List V}, DpAll K H vs ds → vs.length = ds.length
  | [], _, h => by cases h; rfl
  | d :: ds, _, h => by
    cases h with
    | cons h1 h2 => rw [List.length_cons, List.length_cons, DpAll_len h2]
theorem DpAll_get : ∀ {ds : List PyData} {vs : List V} (i : Nat), DpAll K H vs ds → i < ds.length → ∃ v d, vs[i]? = some v ∧ ds[i]? = some d ∧ Dp K H v d
  | [], _, i, h, hi => by simp at hi
  | d :: ds, _, 0, h, hi => by
    cases h with
    | cons h1 h2 => exact ⟨_, _, rfl, rfl, h1⟩
  | d :: ds, _, i + 1, h, hi => by
    cases h with
    | cons h1 h2 =>
      obtain ⟨v, d', e1, e2, h3⟩ := DpAll_get i h2 (by simpa using hi)
      exact ⟨v, d', e1, e2, h3⟩
def tname : PyData → String
  | .none => "NoneType"
  | .bool _ => "bool"
  | .int _ => "int"
  | .str _ => "str"
  | .list _ => "list"
  | .tuple _ => "tuple"
  | .dict _ => "dict"
theorem dp_ty {v : V} {d : PyData} (h : Dp K H v d) : TyX K H v (.type (tname d)) := by
  cases h with
  | non => exact .base .non
  | bl b => exact .base (.bl b)
  | int i => exact .base (.int i)
  | str x => exact .base (.str x)
  | lst hs _ =>
    rcases hs with (h | ⟨o, h⟩) | ⟨o, its, n, h1, h2, _⟩
    · exact .base (.lst h)
    · exact .base (.frz h)
    · exact .kList h1 h2
  | tup hs _ =>
    rcases hs with (h | ⟨o, h⟩) | ⟨o, its, n, h1, h2, _⟩
    · exact .base (.tup h)
    · exact .fTuple h
    · exact .kTuple h1 h2
theorem kit_lt {tn : String} {b1 b2 : Bool} (h1 : PySem.W.kitOne K (.type tn) (.type "list") = some b1) (h2 : PySem.W.kitOne K (.type tn) (.type "tuple") = some b2) :
    PySem.W.kitAny K (.type tn) [.type "list", .type "tuple"] = some (b1 || b2) :=
  kitAny_cons h1 (fun e => kitAny_cons h2 (fun e2 => by rw [e, e2]; exact kitAny_nil) fun e2 => by rw [e2, Bool.or_true]) fun e => by rw [e, Bool.true_or]
/-- a def that is never called where its promise asks the impossible -/
theorem fn_never {P : Program} {w : World} {mg : Str → Option Value} {base : Heap} {CX : CXT} {k : Nat} {f : Addr} {fd : FuncData} {ps : List Str} {sp : Sp} (h : ∀ vs H Q E, ¬ sp vs H Q E) : FnOk P w K mg base CX k f fd ps sp :=
  ⟨fun vs H Q E z => (h vs H Q E z).elim, fun _ _ _ _ _ _ _ _ _ _ _ _ _ z => (h _ _ _ _ z).elim⟩
theorem x_ixQ {p : Addr} {xs : List V} {i : Int} {v : V} {Q : VK} (h : SqL K H p xs ∨ SqT K H p xs) (e : atI xs i = some v) (q : Q v H) : rIx K (.ref p) (.int i) H Q := by
  rcases h with h | h
  · exact .inl ⟨p, xs, i, v, rfl, rfl, h, e, q⟩
  · exact .inr (.inl ⟨p, xs, i, v, rfl, rfl, h, e, q⟩)
theorem x_isi {x : V} {n tn : String} {b : Bool} {Q : VK} (ht : TyX K H x (.type tn)) (k : PySem.W.kitOne K (.type tn) (.type n) = some b) (q : Q (.bl b) H) : rIsi K [x, .ty n] H Q :=
  ⟨x, .ty n, _, _, b, rfl, .ty n, ht, k, q⟩
theorem x_isiLT {x : V} {tn : String} {p : Addr} {b : Bool} {Q : VK} (hp : H p = some (.tup [.ty "list", .ty "tuple"])) (ht : TyX K H x (.type tn)) (k : PySem.W.kitAny K (.type tn) [.type "list", .type "tuple"] = some b) (q : Q (.bl b) H) : rIsiT K [x, .ref p] H Q :=
  ⟨x, p, _, _, _, b, rfl, hp, .cons (.ty _) (.cons (.ty _) .nil), ht, k, q⟩
theorem TyX_same (e : Same H H') {v : V} {d : PyData} (h : Dp K H v d) : TyX K H' v (.type (tname d)) := dp_ty (Dp_same e d v h)
theorem depth_mem : ∀ {ds : List PyData} {d : PyData}, d ∈ ds → d.depth ≤ PyData.depthAll ds
  | x :: xs, d, h => by
    simp only [PyData.depthAll]
    rcases List.mem_cons.mp h with e | e
    · subst e
      exact Nat.le_max_left _ _
    · exact Nat.le_trans (depth_mem e) (Nat.le_max_right _ _)
end
end Sr
namespace Sr
open PySem PySem.Spec PyProof.Rows L2
theorem cutS_take (z : List Nat) (k : Nat) : cutS (S z) none (some (k : Int)) = S (z.take k) := by
  unfold cutS
  have e0 : HT.sIx (S z).length 0 none = 0 := rfl
  have e1 : HT.sIx (S z).length (S z).length (some (k : Int)) = min k (S z).length := HT.sIx_nat _ _ _
  rw [e0, e1, List.drop_zero, Nat.sub_zero, len_S]
  show S (z.take (min k z.length)) = _
  congr 1
  by_cases h : k ≤ z.length
  · rw [Nat.min_eq_left h]
  · rw [Nat.min_eq_right (by omega), List.take_of_length_le (Nat.le_refl _), List.take_of_length_le (by omega)]
theorem cutS_drop (z : List Nat) (k : Nat) : cutS (S z) (some (k : Int)) none = S (z.drop k) := by
  unfold cutS
  have e0 : HT.sIx (S z).length 0 (some (k : Int)) = min k (S z).length := HT.sIx_nat _ _ _
  have e1 : HT.sIx (S z).length (S z).length none = (S z).length := rfl
  rw [e0, e1, len_S]
  show S ((z.drop (min k z.length)).take (z.length - min k z.length)) = _
  congr 1
  by_cases h : k ≤ z.length
  · rw [Nat.min_eq_left h]
    exact List.take_of_length_le (by rw [List.length_drop]; exact Nat.le_refl _)
  · rw [Nat.min_eq_right (by omega), List.drop_eq_nil_of_le (Nat.le_refl _), List.drop_eq_nil_of_le (by omega)]
    simp
theorem cutS_cut (z : List Nat) (i j : Nat) (h : j ≤ z.length) : cutS (S z) (some (i : Int)) (some (j : Int)) = S ((z.drop i).take (j - i)) := by
  unfold cutS
  have e0 : HT.sIx (S z).length 0 (some (i : Int)) = min i (S z).length := HT.sIx_nat _ _ _
  have e1 : HT.sIx (S z).length (S z).length (some (j : Int)) = min j (S z).length := HT.sIx_nat _ _ _
  rw [e0, e1, len_S, Nat.min_eq_left h]
  show S ((z.drop (min i z.length)).take (j - min i z.length)) = _
  congr 1
  by_cases h2 : i ≤ z.length
  · rw [Nat.min_eq_left h2]
  · rw [Nat.min_eq_right (by omega), List.drop_eq_nil_of_le (Nat.le_refl _), List.drop_eq_nil_of_le (by omega)]
    simp
end Sr
namespace Sr
open PySem PySem.Spec PyProof.Rows L2
theorem seq_view {K : PySem.W.Frag} {H : Hp} {x y : V} {d : PyData} (hx : Dp K H x d) (hy : Dp K H y d) (g : Gd d) :
    (∃ i, x = .int i ∧ y = .int i ∧ tname d = "int") ∨ (∃ z, x = .str z ∧ y = .str z ∧ tname d = "str") ∨ (∃ b, x = .bl b ∧ y = .bl b ∧ tname d = "bool") ∨
    ∃ (ds : List PyData) (px py : Addr) (xs ys : List V) (b1 b2 : Bool), x = .ref px ∧ y = .ref py ∧ (SqL K H px xs ∨ SqT K H px xs) ∧ (SqL K H py ys ∨ SqT K H py ys) ∧ DpAll K H xs ds ∧ DpAll K H ys ds ∧ ds.length ≤ 100000 ∧ (∀ d ∈ ds, Gd d) ∧
      d.depth = PyData.depthAll ds + 1 ∧ PySem.W.kitOne K (.type (tname d)) (.type "list") = some b1 ∧ PySem.W.kitOne K (.type (tname d)) (.type "tuple") = some b2 ∧ (b1 || b2) = true := by
  cases g with
  | int i =>
    cases hx
    cases hy
    exact .inl ⟨i, rfl, rfl, rfl⟩
  | str z =>
    cases hx
    cases hy
    exact .inr (.inl ⟨z, rfl, rfl, rfl⟩)
  | bl b =>
    cases hx
    cases hy
    exact .inr (.inr (.inl ⟨b, rfl, rfl, rfl⟩))
  | lst ds hl h =>
    cases hx with
    | lst h1 h2 =>
      cases hy with
      | lst h3 h4 => exact .inr (.inr (.inr ⟨ds, _, _, _, _, true, false, rfl, rfl, .inl h1, .inl h3, h2, h4, hl, h, by simp only [PyData.depth], kit_ty (a := "list") (by decide +kernel), kit_ty (a := "list") (by decide +kernel), rfl⟩))
  | tup ds hl h =>
    cases hx with
    | tup h1 h2 =>
      cases hy with
      | tup h3 h4 => exact .inr (.inr (.inr ⟨ds, _, _, _, _, false, true, rfl, rfl, .inr h1, .inr h3, h2, h4, hl, h, by simp only [PyData.depth], kit_ty (a := "tuple") (by decide +kernel), kit_ty (a := "tuple") (by decide +kernel), rfl⟩))
theorem Sq_same {K : PySem.W.Frag} {H H' : Hp} {a : Addr} {xs : List V} (e : Same H H') (h : SqL K H a xs ∨ SqT K H a xs) : SqL K H' a xs ∨ SqT K H' a xs := h.elim (fun h => .inl (e.seq h)) fun h => .inr (SqT_same e h)
end Sr

namespace L2
open PySem PySem.Spec PyProof.Rows
/-! ### del xs[a:], by the model's own list.__delitem__ -/
section
variable {prog : Program} {w : World} {A : Around} {E : Value → Shared → Prop} {s : Shared}
theorem cut_zip {p : Nat → Bool} {a : Nat} : ∀ (l : List Value) (i : Nat), (∀ k, i ≤ k → k < i + l.length → p k = decide (a ≤ k)) → (l.zipIdx i).filterMap (fun (x, k) => if p k then none else some x) = l.take (a - i)
  | [], i, _ => by simp
  | x :: l, i, h => by
    rw [List.zipIdx_cons, List.filterMap_cons]
    have ih := cut_zip (p := p) (a := a) l (i + 1) fun k h1 h2 => h k (by omega) (by rw [List.length_cons]; omega)
    have h0 := h i (Nat.le_refl _) (by rw [List.length_cons]; omega)
    by_cases hai : a ≤ i
    · rw [decide_eq_true hai] at h0
      simp only [h0, if_true]
      rw [ih, show a - (i + 1) = 0 by omega, show a - i = 0 by omega]
      simp
    · rw [decide_eq_false hai] at h0
      simp only [h0, Bool.false_eq_true, if_false]
      rw [ih, show a - i = (a - (i + 1)) + 1 by omega, List.take_succ_cons]
theorem bounds_from {a n : Nat} (h : a ≤ n) : sliceBounds (some (a : Int)) none none n = ((a : Int), (n : Int), 1) := by
  simp only [sliceBounds, Option.getD_none]
  have h1 : ¬ ((a : Int) < 0) := by omega
  simp only [h1, if_false, show (1 : Int) > 0 by decide, if_true]
  congr 1
  omega
set_option maxRecDepth 100000 in
theorem delItem_from {l sl : Addr} {items : Array Value} {n : Nat} {vl : Value} {a : Nat} {Q : Unit → Shared → Prop}
    (e : s.heap.get? l = some { cls := .type "list", data := .seq items n }) (hs : s.heap.IsSliceOf sl vl .none .none) (pl : IsPart vl (some (a : Int))) (ha : a ≤ items.size)
    (hsz : items.size ≤ sizeLine) (h : ∀ f : Array Value → Array Value, f items = (items.toList.take a).toArray → Q () { s with heap := s.heap.update l (Obj.mapSeq f) }) :
    wpAny (model prog w) A (delItem (.ref l) (.ref sl)) Q E s := by
  have hl : s.heap.IsList l items := PySem.IsL.isList e
  obtain ⟨os, hos, hcs, hds⟩ := id hs
  have hTs : s.TypeIs (.ref sl) "slice" := ⟨os, hos, hcs⟩
  have hstep : ¬ ((rawPart none == rawInt 0) = true) := Bool.false_ne_true
  refine wpAny_delItem_slot hl.typeIs (by decide) F.slot_list_delitem (wpAny_call_entry F.slot_list_delitem hl.typeIs F.entry_list_delitem ?_ (F.args_list_delitem_2 _ _))
  show wpAny _ _ (Builtin.List.listSubscript? (.ref sl) >>= _) _ _ s
  refine wpAny_bind ?_
  unfold Builtin.List.listSubscript?
  refine wpAny_bind (wpAny_specialOf hTs slice_no_index ?_)
  simp only [Option.isNone_none, if_true]
  refine wpAny_pure ?_
  show wpAny _ _ (typeOf (.ref sl) >>= _) _ _ s
  refine wpAny_bind (wpAny_typeOf hTs ?_)
  rw [if_neg (by decide)]
  rw [listSliceParts_eq]
  refine wpAny_bind (wpAny_bind (wpAny_field hos hds (x := .none) rfl (wpAny_bind (wpAny_listPart .none ?_))))
  rw [if_neg hstep]
  refine wpAny_bind (wpAny_field hos hds (x := vl) rfl (wpAny_bind (wpAny_listPart pl ?_)))
  refine wpAny_bind (wpAny_field hos hds (x := .none) rfl (wpAny_bind (wpAny_listPart .none (wpAny_pure ?_))))
  unfold Builtin.List.listItems
  refine wpAny_bind (wpAny_bind (wpAny_seqItems e rfl (wpAny_pure ?_)))
  refine wpAny_bind (wpAny_of_eq ((sliceIndices_raw (some (a : Int)) none none items.size (by simp)).trans (congrArg (pure : Int × Int × Int → Sem (Int × Int × Int)) (bounds_from ha))) ?_)
  refine wpAny_bind (wpAny_rule ?_)
  have key : ∀ (p : Nat → Bool) (f : Array Value → Array Value), (∀ k, k < items.size → p k = decide (a ≤ k)) → (∀ xs, f xs = (xs.toList.zipIdx.filterMap fun (x, k) => if p k then none else some x).toArray) → f items = (items.toList.take a).toArray := fun p f hp hf => by
    rw [hf, cut_zip (a := a) items.toList 0 fun k _ h2 => hp k (by simpa using h2)]
    rfl
  have sz : ∀ f : Array Value → Array Value, f items = (items.toList.take a).toArray → (f items).size ≤ sizeLine + 1 := fun f hf => by
    rw [hf, List.size_toArray, List.length_take, Array.length_toList]
    omega
  have pk : ∀ k, k < items.size → (if (1 : Int) > 0 then decide ((a : Int) ≤ (k : Int)) && decide ((k : Int) < (items.size : Int)) && (((k : Int) - (a : Int)) % 1 == 0) else decide ((items.size : Int) < (k : Int)) && decide ((k : Int) ≤ (a : Int)) && (((a : Int) - (k : Int)) % (-1) == 0)) = decide (a ≤ k) := fun k hk => by
    rw [if_pos (by decide), Int.emod_one, decide_eq_true (show (k : Int) < (items.size : Int) by omega), Bool.and_true]
    simp
  have fk : (fun xs : Array Value => (xs.toList.zipIdx.filterMap fun (x, k) => if (if (1 : Int) > 0 then decide ((a : Int) ≤ (k : Int)) && decide ((k : Int) < (items.size : Int)) && (((k : Int) - (a : Int)) % 1 == 0) else decide ((items.size : Int) < (k : Int)) && decide ((k : Int) ≤ (a : Int)) && (((a : Int) - (k : Int)) % (-1) == 0)) then none else some x).toArray) items = (items.toList.take a).toArray := key (fun k : Nat => (if (1 : Int) > 0 then decide ((a : Int) ≤ (k : Int)) && decide ((k : Int) < (items.size : Int)) && (((k : Int) - (a : Int)) % 1 == 0) else decide ((items.size : Int) < (k : Int)) && decide ((k : Int) ≤ (a : Int)) && (((a : Int) - (k : Int)) % (-1) == 0))) _ pk (fun xs => rfl)
  generalize hf0 : (fun xs : Array Value => (xs.toList.zipIdx.filterMap fun (x, k) => if (if (1 : Int) > 0 then decide ((a : Int) ≤ (k : Int)) && decide ((k : Int) < (items.size : Int)) && (((k : Int) - (a : Int)) % 1 == 0) else decide ((items.size : Int) < (k : Int)) && decide ((k : Int) ≤ (a : Int)) && (((a : Int) - (k : Int)) % (-1) == 0)) then none else some x).toArray) = f0 at fk
  refine wpAny_bind (wpAny_updateSeq (hz := hsz) (_hz' := by have z := sz f0 fk; subst hf0; exact z) e rfl ?_)
  refine wpAny_bind (wpAny_letGo ?_)
  exact wpAny_pure ⟨.none, rfl, by have z := h f0 fk; subst hf0; exact z⟩
end
end L2
namespace L2
open PySem PySem.Spec PyProof.Rows
section
variable {X : Cx}
/-- del xs[a:] -/
def tDelFrom (to tl : TE) : TS := fun D σ H => to σ H fun x H1 => tl σ H1 fun y H2 => ∃ (l : Addr) (xs : List V) (a : Nat), x = .ref l ∧ y = .int (a : Nat) ∧ H2 l = some (.lst xs) ∧ a ≤ xs.length ∧ D.nx σ (upd H2 l (.lst (xs.take a)))
theorem ps_delFrom {o lo : Expr} {to tl : TE} {tpos p2 pos : Pos} (ho : PE X o to) (hl : PE X lo tl) : PS X (.Delete [.Subscript o (.Slice (some lo) none none p2) tpos] pos) (tDelFrom to tl) := by
  refine ⟨fun pins s σ H D I h => ?_⟩
  refine wpAny_Delete (wpAny_deleteEach_cons (wpAny_delete_Subscript (thn (ho.run pins s σ H _ I h) fun u s1 ⟨x, H1, I1, rx, q1⟩ => ?_)))
  refine wpAny_Slice ?_
  rw [evalPart_some, evalPart_none]
  refine thn (hl.run pins s1 σ H1 _ I1 q1) fun vl s2 ⟨y, H2, I2, ry, q2⟩ => ?_
  refine wpAny_pure ?_
  refine wpAny_pure ?_
  obtain ⟨l, xs, a, ex, ey, hH, ha, q⟩ := q2
  subst ex
  subst ey
  cases (show u = Value.ref l from rx)
  obtain ⟨t, rfl⟩ := (show ∃ t, vl = Value.int (a : Nat) t from ry)
  have I3 : Inv X pins σ H2 { s2 with heap := s2.heap.push { cls := .type "slice", data := .fields #[.int (a : Nat) t, .none, .none] } } := I2.kept (t' := s2.toks) fun b ob z => Heap.get?_push_of_some _ z
  obtain ⟨z, its, n, r, hlen, e⟩ := I3.lstM hH
  refine delItem_from (a := a) e (Heap.IsSliceOf.new ..) (.int _ _) (by rw [List.size_toArray]; omega) (by rw [List.size_toArray]; omega) fun f hf => ?_
  refine wpAny_deleteEach_nil ⟨σ, _, ?_, q⟩
  refine I3.lset (its' := its.take a) (t' := s2.toks) hH e ?_ (r.take a) ?_
  · rw [hf]
  · rw [List.length_take]
    omega
end
/-! ### enumerate(text) -/
def Ities (x : Str) : It :=
  ⟨fun i _ => i < x.cps.size, fun i H v H' => ∃ T c, v = .ref T ∧ H T = none ∧ x.cps[i]? = some c ∧ H' = upd H T (.tup [.int (i : Nat), .str ⟨#[c]⟩]), fun i _ => i = x.cps.size⟩
theorem turn_enumS {P : Program} {w : World} {K : PySem.W.Frag} {elts : List Expr} {kk : Nat} {tpos : Pos} (x : Str) (t : Tok) (e it : Addr) (ty : String) (hty : ty = "str_ascii_iterator" ∨ ty = "str_iterator") :
    Turn P w K (.Tuple elts kk tpos) (Ities x) [e, it] e (fun i h => (∃ old, IsEnum h e it ((i : Nat) : Int) old) ∧ h.IsStrIter it ty x t i ∧ e ≠ it) where
  mem := by simp
  obj := fun i h st b hb => by
    obtain ⟨⟨old, he⟩, ⟨o, ho, hc, hd⟩, _⟩ := st
    have e' : b = e ∨ b = it := by simpa using hb
    rcases e' with z | z
    · rw [z]; exact ⟨_, he, fun v q => nomatch q⟩
    · rw [z]; exact ⟨o, ho, fun v q => by rw [hd] at q; cases q⟩
  keep := fun i h h' st k => let ⟨⟨old, he⟩, ⟨o, ho, r⟩, hne⟩ := st; ⟨⟨old, k e (by simp) _ he⟩, ⟨o, k it (by simp) o ho, r⟩, hne⟩
  item := by
    intro X hP hw hK hc i pins s σ H E I hf st hg
    subst hP hw hK
    obtain ⟨⟨old, he⟩, hit, hne⟩ := st
    have hel : e < s.heap.objs.size := Heap.lt_size he
    have hil : it < s.heap.objs.size := by obtain ⟨_, q, _⟩ := hit; exact Heap.lt_size q
    have W : Draws X.prog X.w X.A.in1 it [it] x.cps.size (fun i v => ∃ c u, x.cps[i]? = some c ∧ v = .str ⟨#[c]⟩ u) (fun i h => h.IsStrIter it ty x t i) := by
      rcases hty with q | q
      · rw [q]; exact Draws.strAscii (A := X.A.in1) (show X.A.in1.handled = none from I.ok.hd hc) it x t
      · rw [q]; exact Draws.strWide (A := X.A.in1) (show X.A.in1.handled = none from I.ok.hd hc) it x t
    refine wpAny_pyNext_enum_itemD W he hit hg hne (by simpa using hne) fun v h' tk hv ho hit' hT hsz hk => ?_
    obtain ⟨c, u, hcx, rfl⟩ := hv
    refine ⟨_, rfl, wpAny_letOwnedTupleGo_enum (s := { s with heap := h', toks := tk + 1 }) ho fun h'' he' sb => ?_⟩
    have hT2 : h''.get? s.heap.objs.size = some { cls := .type "tuple", data := .seq #[.int i tk, .str ⟨#[c]⟩ u] } := (sb.2 _ (Nat.ne_of_gt hel)).trans hT
    have new : ObjOk X.prog X.w (upd H s.heap.objs.size (.tup [.int (i : Nat), .str ⟨#[c]⟩])) h'' s.heap.objs.size (.tup [.int (i : Nat), .str ⟨#[c]⟩]) :=
      ⟨by show 2 ≤ sizeLine; decide, [.int i tk, .str ⟨#[c]⟩ u], .cons ⟨_, rfl⟩ (.cons ⟨_, rfl⟩ .nil), ⟨_, hT2, rfl, _, rfl⟩⟩
    have I1 : Inv X pins σ (upd H s.heap.objs.size (.tup [.int (i : Nat), .str ⟨#[c]⟩])) { s with heap := h'', toks := tk + 1 } :=
      I.turnedNew (ch := [e, it]) (fun b ob hb q => (sb.2 b (fun z => hb (by simp [z]))).trans (hk b ob (fun z => hb (by simp [z])) (fun z => hb (by simp [z])) q)) hf (Nat.le_refl _) new
    refine ⟨.ref s.heap.objs.size, _, I1, rfl, ⟨_, c, rfl, I.hok.fresh (Nat.le_refl _), hcx, rfl⟩, ⟨⟨.str ⟨#[c]⟩ u, ?_⟩, ?_, hne⟩, fun b hb => ?_⟩
    · have e1 : ((i + 1 : Nat) : Int) = (i : Int) + 1 := by omega
      rw [e1]; exact he'
    · obtain ⟨o, ho2, r⟩ := hit'
      exact ⟨o, (sb.2 it (Ne.symm hne)).trans ho2, r⟩
    · have hb' : b < s.heap.objs.size := by
        have e' : b = e ∨ b = it := by simpa using hb
        rcases e' with z | z
        · rw [z]; exact hel
        · rw [z]; exact hil
      rw [upd_ne (Nat.ne_of_lt hb')]
      exact (hf b hb).1
  done := by
    intro X hP hw hK hc i pins s σ H E I hf st hg
    subst hP hw hK
    obtain ⟨⟨old, he⟩, hit, hne⟩ := st
    have hg' : i = x.cps.size := hg
    subst hg'
    have W : Draws X.prog X.w X.A.in1 it [it] x.cps.size (fun i v => ∃ c u, x.cps[i]? = some c ∧ v = .str ⟨#[c]⟩ u) (fun i h => h.IsStrIter it ty x t i) := by
      rcases hty with q | q
      · rw [q]; exact Draws.strAscii (A := X.A.in1) (show X.A.in1.handled = none from I.ok.hd hc) it x t
      · rw [q]; exact Draws.strWide (A := X.A.in1) (show X.A.in1.handled = none from I.ok.hd hc) it x t
    obtain ⟨f0, f1, f2, f3, f4, f5⟩ := hf it (by simp)
    exact wpAny_pyNext_enum_endD W he hit fun h' eb => ⟨rfl, I.turned (t' := s.toks) (fun b o hb q => eb b o hb q) f0 f1 f3 f4 f5⟩
  self := fun A i s Q E st h => let ⟨⟨_, he⟩, _⟩ := st; wpAny_pyIter_enum he h
def iEnumS (ta : TA) : TI := fun σ H R => ta σ H fun vs H1 => ∃ x, vs = [.str x] ∧ R (Ities x) H1
theorem pi_enumS {X : Cx} {e : Expr} {ta : TA} {p pos tpos : Pos} {elts : List Expr} {kk : Nat} (hg : Gl X "enumerate") (hm : X.mg "enumerate" = none) (ha : PA X [e] ta) (hs : starEach [e] X.env = [(false, eval e X.env)] := by rfl) :
    PI X (.Tuple elts kk tpos) (.Call (.Name "enumerate" p) [e] [] pos) (iEnumS ta) := by
  refine ⟨fun pins s σ H R I h => ?_⟩
  refine Call_ (ld_blt I hg hm boot_enumerate (PyProof.Rows.callWith_type1 (thn (ha.run pos pins s σ H _ I h) fun us s1 ⟨vs, H1, I1, r1, q1⟩ => ?_) hs rfl))
  obtain ⟨x, ex, q⟩ := q1
  subst ex
  cases r1 with
  | cons r rr =>
    cases rr
    obtain ⟨t, rfl⟩ := r
    refine call_enumerate_str fun h' he hit hsz hk => wpAny_pyIter_enum he ?_
    have I2 : Inv X pins σ H1 { s1 with heap := h' } := I1.kept (t' := s1.toks) hk
    have hty : strIterType x = "str_ascii_iterator" ∨ strIterType x = "str_iterator" := by
      unfold strIterType
      split
      · exact .inl rfl
      · exact .inr rfl
    refine ⟨s1.heap.objs.size + 1, [s1.heap.objs.size + 1, s1.heap.objs.size], _, _, H1, rfl, I2, turn_enumS x t (s1.heap.objs.size + 1) s1.heap.objs.size _ hty, ⟨⟨.none, he⟩, hit, Nat.succ_ne_self _⟩, fun b hb => ?_, q⟩
    have e' : b = s1.heap.objs.size + 1 ∨ b = s1.heap.objs.size := by simpa using hb
    have hle : s1.heap.objs.size ≤ b := by
      rcases e' with z | z
      · rw [z]; exact Nat.le_add_right _ _
      · rw [z]; exact Nat.le_refl _
    exact I1.fpOk hle (I1.hok.fresh hle)
theorem walk_enumS {x : Str} : Walk (Ities x) x.cps.size (fun _ => True) (fun i H v H' => ∃ T c, v = .ref T ∧ H T = none ∧ x.cps[i]? = some c ∧ H' = upd H T (.tup [.int (i : Nat), .str ⟨#[c]⟩])) :=
  ⟨fun _ _ hi _ => hi, fun _ _ => rfl, fun _ _ _ _ _ _ y => y⟩
end L2
namespace L2
open PySem PySem.Spec PyProof.Rows
theorem x_del {to tl : TE} {D : Ends} {σ : St} {H : Hp} (q : to σ H fun x H1 => tl σ H1 fun y H2 => ∃ (l : Addr) (xs : List V) (a : Nat), x = .ref l ∧ y = .int (a : Nat) ∧ H2 l = some (.lst xs) ∧ a ≤ xs.length ∧ D.nx σ (upd H2 l (.lst (xs.take a)))) : tDelFrom to tl D σ H := q
theorem x_iEnumS {t : TA} {σ : St} {H : Hp} {R : It → Hp → Prop} (q : t σ H fun vs H1 => ∃ x, vs = [.str x] ∧ R (Ities x) H1) : iEnumS t σ H R := q
theorem x_delFrom {p : Addr} {xs : List V} {i : Int} {k : Nat} {H : Hp} {R : Addr → List V → Nat → Prop} (h : H p = some (.lst xs)) (e : i = (k : Int)) (hk : k ≤ xs.length) (q : R p xs k) :
    ∃ (l : Addr) (xs : List V) (a : Nat), V.ref p = .ref l ∧ V.int i = .int (a : Nat) ∧ H l = some (.lst xs) ∧ a ≤ xs.length ∧ R l xs a := ⟨p, xs, k, rfl, by rw [e], h, hk, q⟩
end L2
namespace L2
open PySem PySem.Spec PyProof.Rows
/-! ### a test of three comparisons in a row -/
section
variable {X : Cx} {a b c d : Expr} {ta tb tc td : TE} {pos : Pos}
def tChain3 (r r' r'' : R2) (ta tb tc td : TE) : TT := fun σ H R => ta σ H fun x H1 => tb σ H1 fun y H2 => r x y H2 fun z H3 => ∃ k, z = .bl k ∧
  (if k = true then tc σ H3 fun w' H4 => r' y w' H4 fun z2 H5 => ∃ k2, z2 = .bl k2 ∧ (if k2 = true then td σ H5 fun v' H6 => r'' w' v' H6 fun z3 H7 => ∃ k3, z3 = .bl k3 ∧ R k3 H7 else R false H5) else R false H3)
theorem pt_chain3 {op op' op'' : CmpOp} {r r' r'' : R2} (ho : OpR X (compareOp op) r) (ho' : OpR X (compareOp op') r') (ho'' : OpR X (compareOp op'') r'') (ha : PE X a ta) (hb : PE X b tb) (hc : PE X c tc) (hd : PE X d td)
    (hm : lastMarks [op, op', op''] [b, c, d] = false := by with_unfolding_all rfl) : PT X (.Compare a [op, op', op''] [b, c, d] pos) (tChain3 r r' r'' ta tb tc td) := by
  refine ⟨fun pins s σ H Q I h => ?_⟩
  refine isTrue_chain (thn (ha.run pins s σ H _ I h) fun v s1 ⟨x, H1, I1, r1, q1⟩ => test_link (thn (hb.run pins s1 σ H1 _ I1 q1) fun u s2 ⟨y, H2, I2, r2, q2⟩ =>
    thn (ho pins s2 σ H2 x y v u _ I2 r1 r2 q2) fun d s3 ⟨z, H3, I3, r3, k, e, q3⟩ => ?_)) hm
  subst e
  cases r3
  refine wpAny_truthy_bool ?_
  cases k with
  | false => exact ite_ff ⟨H3, I3, q3⟩
  | true =>
    refine ite_tt (test_link (thn (hc.run pins s3 σ H3 _ I3 q3) fun w' s4 ⟨z', H4, I4, r4, q4⟩ => thn (ho' pins s4 σ H4 y z' u w' _ I4 r2 r4 q4) fun d' s5 ⟨z2, H5, I5, r5, k2, e2, q5⟩ => ?_))
    subst e2
    cases r5
    refine wpAny_truthy_bool ?_
    cases k2 with
    | false => exact ite_ff ⟨H5, I5, q5⟩
    | true =>
      refine ite_tt (test_last (thn (hd.run pins s5 σ H5 _ I5 q5) fun v' s6 ⟨z4, H6, I6, r6, q6⟩ => thn (ho'' pins s6 σ H6 z' z4 w' v' _ I6 r4 r6 q6) fun d2 s7 ⟨z5, H7, I7, r7, k3, e3, q7⟩ => ?_))
      subst e3
      cases r7
      exact wpAny_truthy_bool ⟨H7, I7, q7⟩
theorem x_chain3 {r r' r'' : R2} {σ : St} {H : Hp} {R : Bool → Hp → Prop} (q : ta σ H fun x H1 => tb σ H1 fun y H2 => r x y H2 fun z H3 => ∃ k, z = .bl k ∧
  (if k = true then tc σ H3 fun w' H4 => r' y w' H4 fun z2 H5 => ∃ k2, z2 = .bl k2 ∧ (if k2 = true then td σ H5 fun v' H6 => r'' w' v' H6 fun z3 H7 => ∃ k3, z3 = .bl k3 ∧ R k3 H7 else R false H5) else R false H3)) : tChain3 r r' r'' ta tb tc td σ H R := q
end
end L2

namespace Sr
/-! ### stretches by levels -/
/-- (b, e) stands by itself: the level at b is lower, at e higher, than every other one between -/
def St (s : Nat → Int) (b e : Nat) : Prop := b < e ∧ (∀ j, b < j → j ≤ e → s b < s j) ∧ (∀ j, b ≤ j → j < e → s j < s e)
def Ripe (s : Nat → Int) (n b e : Nat) : Prop := St s b e ∧ e ≤ n ∧ ∀ b' e', St s b' e' → e' ≤ n → b' ≤ b → e ≤ e' → b' = b ∧ e' = e
def Apt (p q : Nat × Nat) : Prop := p.2 ≤ q.1
structure RL (s : Nat → Int) (n : Nat) (L : List (Nat × Nat)) : Prop where
  ripe : ∀ p ∈ L, Ripe s n p.1 p.2
  all : ∀ b e, Ripe s n b e → (b, e) ∈ L
  apt : L.Pairwise Apt
section
variable {s : Nat → Int}
theorem argmax_first (s : Nat → Int) (b : Nat) : ∀ k : Nat, ∃ m, b ≤ m ∧ m ≤ b + k ∧ (∀ j, b ≤ j → j < m → s j < s m) ∧ ∀ j, b ≤ j → j ≤ b + k → s j ≤ s m
  | 0 => ⟨b, Nat.le_refl _, Nat.le_refl _, fun j h1 h2 => by omega, fun j h1 h2 => by
    have : j = b := by omega
    subst this
    exact Int.le_refl _⟩
  | k + 1 => by
    obtain ⟨m, h1, h2, h3, h4⟩ := argmax_first s b k
    by_cases h : s m < s (b + (k + 1))
    · refine ⟨b + (k + 1), by omega, Nat.le_refl _, fun j j1 j2 => ?_, fun j j1 j2 => ?_⟩
      · have := h4 j j1 (by omega)
        omega
      · by_cases hj : j = b + (k + 1)
        · subst hj
          exact Int.le_refl _
        · have := h4 j j1 (by omega)
          omega
    · refine ⟨m, h1, by omega, h3, fun j j1 j2 => ?_⟩
      by_cases hj : j = b + (k + 1)
      · subst hj
        omega
      · exact h4 j j1 (by omega)
theorem argmin_last (s : Nat → Int) (b : Nat) : ∀ k : Nat, ∃ m, b ≤ m ∧ m ≤ b + k ∧ (∀ j, m < j → j ≤ b + k → s m < s j) ∧ ∀ j, b ≤ j → j ≤ b + k → s m ≤ s j
  | 0 => ⟨b, Nat.le_refl _, Nat.le_refl _, fun j h1 h2 => by omega, fun j h1 h2 => by
    have : j = b := by omega
    subst this
    exact Int.le_refl _⟩
  | k + 1 => by
    obtain ⟨m, h1, h2, h3, h4⟩ := argmin_last s b k
    by_cases h : s (b + (k + 1)) ≤ s m
    · refine ⟨b + (k + 1), by omega, Nat.le_refl _, fun j j1 j2 => by omega, fun j j1 j2 => ?_⟩
      by_cases hj : j = b + (k + 1)
      · subst hj
        exact Int.le_refl _
      · have := h4 j j1 (by omega)
        omega
    · refine ⟨m, h1, by omega, fun j j1 j2 => ?_, fun j j1 j2 => ?_⟩
      · by_cases hj : j = b + (k + 1)
        · subst hj
          omega
        · exact h3 j j1 (by omega)
      · by_cases hj : j = b + (k + 1)
        · subst hj
          omega
        · exact h4 j j1 (by omega)
theorem ripe_of {n : Nat} : ∀ (k b e : Nat), n - (e - b) ≤ k → St s b e → e ≤ n → ∃ b' e', Ripe s n b' e' ∧ b' ≤ b ∧ e ≤ e' := by
  intro k
  induction k with
  | zero =>
    intro b e hk h he
    refine ⟨b, e, ⟨h, he, fun b' e' h' he' h1 h2 => ?_⟩, Nat.le_refl _, Nat.le_refl _⟩
    have := h.1
    have := h'.1
    omega
  | succ k ih =>
    intro b e hk h he
    by_cases hr : Ripe s n b e
    · exact ⟨b, e, hr, Nat.le_refl _, Nat.le_refl _⟩
    · have : ∃ b' e', St s b' e' ∧ e' ≤ n ∧ b' ≤ b ∧ e ≤ e' ∧ ¬ (b' = b ∧ e' = e) := by
        apply Classical.byContradiction
        intro hc
        exact hr ⟨h, he, fun b' e' h1 h2 h3 h4 => Classical.byContradiction fun hn => hc ⟨b', e', h1, h2, h3, h4, hn⟩⟩
      obtain ⟨b', e', h1, h2, h3, h4, h5⟩ := this
      have := h.1
      obtain ⟨b2, e2, r, h6, h7⟩ := ih b' e' (by omega) h1 h2
      exact ⟨b2, e2, r, by omega, by omega⟩
theorem ripe_over {n b e : Nat} (h : St s b e) (he : e ≤ n) : ∃ b' e', Ripe s n b' e' ∧ b' ≤ b ∧ e ≤ e' := ripe_of _ b e (Nat.le_refl _) h he
theorem St.join {b1 e1 b2 e2 : Nat} (h1 : St s b1 e1) (h2 : St s b2 e2) (hb : b1 ≤ b2) (hm : b2 < e1) (he : e1 ≤ e2) : St s b1 e2 := by
  have l12 : s b1 ≤ s b2 := by
    by_cases h : b1 = b2
    · subst h
      exact Int.le_refl _
    · have := h1.2.1 b2 (by omega) (by omega)
      omega
  have g12 : s e1 ≤ s e2 := by
    by_cases h : e1 = e2
    · subst h
      exact Int.le_refl _
    · have := h2.2.2 e1 (by omega) (by omega)
      omega
  refine ⟨by have := h2.1; omega, fun j j1 j2 => ?_, fun j j1 j2 => ?_⟩
  · by_cases h : j ≤ e1
    · exact h1.2.1 j j1 h
    · have := h2.2.1 j (by omega) j2
      omega
  · by_cases h : b2 ≤ j
    · exact h2.2.2 j h j2
    · have := h1.2.2 j j1 (by omega)
      omega
theorem ripe_apart {n b1 e1 b2 e2 : Nat} (h1 : Ripe s n b1 e1) (h2 : Ripe s n b2 e2) (hb : b1 ≤ b2) : (b1 = b2 ∧ e1 = e2) ∨ e1 ≤ b2 := by
  by_cases hm : e1 ≤ b2
  · exact .inr hm
  · left
    by_cases he : e1 ≤ e2
    · have j := h1.1.join h2.1 hb (by omega) he
      have k1 := h1.2.2 b1 e2 j h2.2.1 (Nat.le_refl _) he
      have k2 := h2.2.2 b1 e2 j h2.2.1 hb (Nat.le_refl _)
      exact ⟨k2.1, k1.2.symm⟩
    · have k2 := h2.2.2 b1 e1 h1.1 h1.2.1 hb (by omega)
      exact k2
/-- a beginning b of a stretch that ends behind the like pair at i; R: what is ripe ahead of b -/
structure Cand (s : Nat → Int) (i b : Nat) (R : List (Nat × Nat)) : Prop where
  st : St s b (i + 1)
  ripe : ∀ p ∈ R, Ripe s i p.1 p.2 ∧ p.2 ≤ b
  all : ∀ b' e', Ripe s i b' e' → e' ≤ b → (b', e') ∈ R
  cut : ∀ b' e', Ripe s i b' e' → e' ≤ b ∨ b ≤ b'
  apt : R.Pairwise Apt
theorem Cand.start {i : Nat} {L : List (Nat × Nat)} (h : RL s i L) (hi : s i < s (i + 1)) : Cand s i i L where
  st := ⟨by omega, fun j j1 j2 => by
    have : j = i + 1 := by omega
    subst this
    exact hi, fun j j1 j2 => by
    have : j = i := by omega
    subst this
    exact hi⟩
  ripe := fun p hp => ⟨h.ripe p hp, (h.ripe p hp).2.1⟩
  all := fun b' e' r _ => h.all b' e' r
  cut := fun b' e' r => .inl r.2.1
  apt := h.apt
theorem Cand.le {i b : Nat} {R : List (Nat × Nat)} (h : Cand s i b R) : b ≤ i := by
  have := h.st.1
  omega
theorem mem_split {R1 R2 : List (Nat × Nat)} {q p : Nat × Nat} (h : p ∈ R1 ++ q :: R2) : p ∈ R1 ∨ p = q ∨ p ∈ R2 := by
  rcases List.mem_append.mp h with h | h
  · exact .inl h
  · rcases List.mem_cons.mp h with h | h
    · exact .inr (.inl h)
    · exact .inr (.inr h)
theorem apt_split {R1 R2 : List (Nat × Nat)} {q : Nat × Nat} (h : (R1 ++ q :: R2).Pairwise Apt) : R1.Pairwise Apt ∧ (∀ p ∈ R1, Apt p q) ∧ (∀ p ∈ R2, Apt q p) := by
  rw [List.pairwise_append] at h
  obtain ⟨h1, h2, h3⟩ := h
  refine ⟨h1, fun p hp => h3 p hp q (List.mem_cons_self ..), fun p hp => ?_⟩
  rw [List.pairwise_cons] at h2
  exact h2.1 p hp
/-- no beginning further left -/
theorem Cand.leftmost {i b : Nat} {R : List (Nat × Nat)} (h : Cand s i b R)
    (hc : (∀ p ∈ R, s b ≤ s p.1) ∨ ∃ R1 R2 bk ek, R = R1 ++ (bk, ek) :: R2 ∧ (∀ p ∈ R2, s b ≤ s p.1) ∧ s (i + 1) ≤ s ek) : ∀ b', b' < b → ¬ St s b' (i + 1) := by
  intro b' hb hs
  have hbi := h.le
  have l1 : s b' < s b := hs.2.1 b hb (by omega)
  obtain ⟨m, m1, m2, m3, m4⟩ := argmax_first s b' (b - b')
  have hm : b' ≠ m := fun e => by
    have := m4 b (by omega) (by omega)
    rw [← e] at this
    omega
  have st2 : St s b' m := ⟨by omega, fun j j1 j2 => hs.2.1 j j1 (by omega), fun j j1 j2 => m3 j j1 j2⟩
  obtain ⟨bj, ej, r, r1, r2⟩ := ripe_over (n := i) st2 (by omega)
  have hej : ej ≤ b := by
    rcases h.cut bj ej r with z | z
    · exact z
    · omega
  have hmem := h.all bj ej r hej
  have l2 : s bj ≤ s b' := by
    by_cases hz : bj = b'
    · subst hz
      exact Int.le_refl _
    · have := r.1.2.1 b' (by omega) (by omega)
      omega
  rcases hc with hc | ⟨R1, R2, bk, ek, rfl, hc1, hc2⟩
  · have := hc _ hmem
    show False
    simp only at this
    omega
  · obtain ⟨a1, a2, a3⟩ := apt_split h.apt
    have rk : Ripe s i bk ek ∧ ek ≤ b := h.ripe (bk, ek) (by simp)
    have hk1 : bk < ek := rk.1.1.1
    have hk2 : ek ≤ b := rk.2
    rcases mem_split hmem with z | z | z
    · have : ej ≤ bk := a2 _ z
      have := hs.2.2 ek (by omega) (by omega)
      omega
    · have e1 : bj = bk := congrArg Prod.fst z
      have e2 : ej = ek := congrArg Prod.snd z
      have := hs.2.2 ek (by omega) (by omega)
      omega
    · have := hc1 _ z
      simp only at this
      omega
theorem Cand.step {i b bk ek : Nat} {R1 R2 : List (Nat × Nat)} (h : Cand s i b (R1 ++ (bk, ek) :: R2)) (h2 : ∀ p ∈ R2, s b ≤ s p.1) (hl : s bk < s b) (hh : s ek < s (i + 1)) : Cand s i bk R1 := by
  have hbi := h.le
  obtain ⟨a1, a2, a3⟩ := apt_split h.apt
  have rk : Ripe s i bk ek ∧ ek ≤ b := h.ripe (bk, ek) (by simp)
  have hk1 : bk < ek := rk.1.1.1
  have hk2 : ek ≤ b := rk.2
  have gapL : ∀ j, bk < j → j ≤ b → s bk < s j := by
    intro j j1 j2
    by_cases hj : j ≤ ek
    · exact rk.1.1.2.1 j j1 hj
    · apply Classical.byContradiction
      intro hn
      obtain ⟨m, m1, m2, m3, m4⟩ := argmin_last s j (b - j)
      have lm : s m ≤ s bk := by
        have := m4 j (Nat.le_refl _) (by omega)
        omega
      have hmb : m ≠ b := fun e => by
        rw [e] at lm
        omega
      obtain ⟨e2, e21, e22, e23, e24⟩ := argmax_first s m (b - m)
      have hne : m ≠ e2 := fun e => by
        have := e24 b (by omega) (by omega)
        rw [← e] at this
        omega
      have st2 : St s m e2 := ⟨by omega, fun x x1 x2 => m3 x x1 (by omega), fun x x1 x2 => e23 x x1 x2⟩
      obtain ⟨bj, ej, r, r1, r2⟩ := ripe_over (n := i) st2 (by omega)
      have hej : ej ≤ b := by
        rcases h.cut bj ej r with z | z
        · exact z
        · omega
      have l2 : s bj ≤ s m := by
        by_cases hz : bj = m
        · subst hz
          exact Int.le_refl _
        · have := r.1.2.1 m (by omega) (by omega)
          omega
      rcases mem_split (h.all bj ej r hej) with z | z | z
      · have : ej ≤ bk := a2 _ z
        omega
      · have e3 : ej = ek := congrArg Prod.snd z
        omega
      · have := h2 _ z
        simp only at this
        omega
  have gapH : ∀ j, bk ≤ j → j ≤ b → s j < s (i + 1) := by
    intro j j1 j2
    by_cases hj : j ≤ ek
    · by_cases hz : j = ek
      · rw [hz]
        exact hh
      · have := rk.1.1.2.2 j j1 (by omega)
        omega
    · apply Classical.byContradiction
      intro hn
      obtain ⟨m, m1, m2, m3, m4⟩ := argmax_first s bk (j - bk)
      have hm : s (i + 1) ≤ s m := by
        have := m4 j (by omega) (by omega)
        omega
      have hek : s ek < s m := by omega
      have hme : ek < m := by
        apply Classical.byContradiction
        intro hz
        by_cases hz2 : m = ek
        · rw [hz2] at hek
          omega
        · have := rk.1.1.2.2 m m1 (by omega)
          omega
      have st2 : St s bk m := ⟨by omega, fun x x1 x2 => gapL x x1 (by omega), fun x x1 x2 => m3 x x1 x2⟩
      have := rk.1.2.2 bk m st2 (by omega) (Nat.le_refl _) (Nat.le_of_lt hme)
      simp only at this
      omega
  refine ⟨⟨by omega, fun j j1 j2 => ?_, fun j j1 j2 => ?_⟩, fun p hp => ⟨(h.ripe p (by simp [hp])).1, a2 p hp⟩, fun b' e' r he => ?_, fun b' e' r => ?_, a1⟩
  · by_cases hj : j ≤ b
    · exact gapL j j1 hj
    · have := h.st.2.1 j (by omega) j2
      omega
  · by_cases hj : j ≤ b
    · exact gapH j j1 hj
    · exact h.st.2.2 j (by omega) j2
  · rcases mem_split (h.all b' e' r (by omega)) with z | z | z
    · exact z
    · have e3 : e' = ek := congrArg Prod.snd z
      omega
    · have : ek ≤ b' := a3 _ z
      have := r.1.1
      omega
  · by_cases hz : b' ≤ bk
    · rcases ripe_apart r rk.1 hz with ⟨z, _⟩ | z
      · exact .inr (by omega)
      · exact .inl z
    · exact .inr (by omega)
theorem Cand.done {i b : Nat} {R : List (Nat × Nat)} (h : Cand s i b R) (hl : ∀ b', b' < b → ¬ St s b' (i + 1)) : RL s (i + 1) (R ++ [(b, i + 1)]) := by
  have hbi := h.le
  have rb : Ripe s (i + 1) b (i + 1) := ⟨h.st, Nat.le_refl _, fun b' e' st he hb hi => by
    have e2 : e' = i + 1 := by omega
    subst e2
    refine ⟨?_, rfl⟩
    by_cases hz : b' < b
    · exact absurd st (hl b' hz)
    · omega⟩
  refine ⟨fun p hp => ?_, fun b' e' r => ?_, ?_⟩
  · rcases List.mem_append.mp hp with z | z
    · obtain ⟨r, hr⟩ := h.ripe p z
      refine ⟨r.1, by have := r.2.1; omega, fun b' e' st he hb hi => ?_⟩
      by_cases hz : e' ≤ i
      · exact r.2.2 b' e' st hz hb hi
      · have e2 : e' = i + 1 := by omega
        subst e2
        have := r.1.1
        exact absurd st (hl b' (by omega))
    · rw [List.mem_singleton.mp z]
      exact rb
  · by_cases hz : e' ≤ i
    · have r' : Ripe s i b' e' := ⟨r.1, hz, fun b2 e2 st he hb hi => r.2.2 b2 e2 st (by omega) hb hi⟩
      rcases h.cut b' e' r' with z | z
      · exact List.mem_append.mpr (.inl (h.all b' e' r' z))
      · have := r.2.2 b (i + 1) h.st (Nat.le_refl _) z (by omega)
        omega
    · have e2 : e' = i + 1 := by
        have := r.2.1
        omega
      subst e2
      by_cases hlt : b' < b
      · exact absurd r.1 (hl b' hlt)
      · have := r.2.2 b (i + 1) h.st (Nat.le_refl _) (by omega) (Nat.le_refl _)
        rw [← this.1]
        simp
  · rw [List.pairwise_append]
    refine ⟨h.apt, by simp, fun p hp q hq => ?_⟩
    rw [List.mem_singleton.mp hq]
    exact (h.ripe p hp).2
theorem RL.unlike {i : Nat} {L : List (Nat × Nat)} (h : RL s i L) (hi : s (i + 1) < s i) : RL s (i + 1) L := by
  have no : ∀ b e, St s b e → e ≤ i + 1 → e ≤ i := fun b e st he => by
    apply Classical.byContradiction
    intro hn
    have e2 : e = i + 1 := by omega
    subst e2
    have := st.2.2 i (by have := st.1; omega) (by omega)
    omega
  refine ⟨fun p hp => ?_, fun b e r => ?_, h.apt⟩
  · have r := h.ripe p hp
    exact ⟨r.1, by have := r.2.1; omega, fun b' e' st he hb hi => r.2.2 b' e' st (no _ _ st he) hb hi⟩
  · exact h.all b e ⟨r.1, no _ _ r.1 r.2.1, fun b' e' st he hb hi => r.2.2 b' e' st (by omega) hb hi⟩
theorem RL.zero (s : Nat → Int) : RL s 0 [] := ⟨(fun p hp => nomatch hp), (fun b e r => by
  have := r.1.1
  have := r.2.1
  omega), .nil⟩
theorem same_sorted : ∀ {L M : List (Nat × Nat)}, L.Pairwise (fun p q => p.1 < q.1) → M.Pairwise (fun p q => p.1 < q.1) → (∀ p, p ∈ L ↔ p ∈ M) → L = M
  | [], [], _, _, _ => rfl
  | [], q :: M, _, _, h => by
    have := (h q).mpr (List.mem_cons_self ..)
    cases this
  | p :: L, [], _, _, h => by
    have := (h p).mp (List.mem_cons_self ..)
    cases this
  | p :: L, q :: M, h1, h2, h => by
    rw [List.pairwise_cons] at h1 h2
    have e : p = q := by
      rcases List.mem_cons.mp ((h p).mp (List.mem_cons_self ..)) with z | z
      · exact z
      · rcases List.mem_cons.mp ((h q).mpr (List.mem_cons_self ..)) with z2 | z2
        · exact z2.symm
        · have := h2.1 p z
          have := h1.1 q z2
          omega
    subst e
    rw [same_sorted h1.2 h2.2 fun x => ⟨fun hx => ?_, fun hx => ?_⟩]
    · rcases List.mem_cons.mp ((h x).mp (List.mem_cons_of_mem _ hx)) with z | z
      · have := h1.1 x hx
        rw [z] at this
        omega
      · exact z
    · rcases List.mem_cons.mp ((h x).mpr (List.mem_cons_of_mem _ hx)) with z | z
      · have := h2.1 x hx
        rw [z] at this
        omega
      · exact z
theorem RL.lt {n : Nat} {L : List (Nat × Nat)} (h : RL s n L) : L.Pairwise (fun p q => p.1 < q.1) := by
  refine List.Pairwise.imp_of_mem ?_ h.apt
  intro p q hp hq hpq
  have := (h.ripe p hp).1.1
  have : p.2 ≤ q.1 := hpq
  omega
theorem RL.unique {n : Nat} {L M : List (Nat × Nat)} (h1 : RL s n L) (h2 : RL s n M) : L = M :=
  same_sorted h1.lt h2.lt fun p => ⟨fun hp => h2.all _ _ (h1.ripe p hp), fun hp => h1.all _ _ (h2.ripe p hp)⟩
/-- it is enough that two of these that differ begin at unlike places, ascending -/
theorem RL.of_lt {n : Nat} {L : List (Nat × Nat)} (h1 : ∀ p ∈ L, Ripe s n p.1 p.2) (h2 : ∀ b e, Ripe s n b e → (b, e) ∈ L) (h3 : L.Pairwise (fun p q => p.1 ≤ q.1 ∧ p ≠ q)) : RL s n L := by
  refine ⟨h1, h2, ?_⟩
  refine List.Pairwise.imp_of_mem ?_ h3
  intro p q hp hq hpq
  rcases ripe_apart (h1 p hp) (h1 q hq) hpq.1 with ⟨z1, z2⟩ | z
  · exact absurd (Prod.ext z1 z2) hpq.2
  · exact z
/-- what the document says of a stretch that stands by itself -/
theorem St_iff {b e : Nat} (hb : b < e) : St s b e ↔ 0 < s e - s b ∧ ∀ b' e', b ≤ b' → b' < e' → e' ≤ e → (b', e') ≠ (b, e) → s e' - s b' < s e - s b := by
  constructor
  · intro h
    refine ⟨by have := h.2.1 e hb (Nat.le_refl _); omega, fun b' e' h1 h2 h3 h4 => ?_⟩
    have k1 : s b ≤ s b' := by
      by_cases hz : b = b'
      · subst hz
        exact Int.le_refl _
      · have := h.2.1 b' (by omega) (by omega)
        omega
    have k2 : s e' ≤ s e := by
      by_cases hz : e' = e
      · subst hz
        exact Int.le_refl _
      · have := h.2.2 e' (by omega) (by omega)
        omega
    by_cases hz : b = b'
    · have : e' ≠ e := fun q => h4 (by rw [hz, q])
      have := h.2.2 e' (by omega) (by omega)
      omega
    · have := h.2.1 b' (by omega) (by omega)
      omega
  · rintro ⟨h1, h2⟩
    refine ⟨hb, fun j j1 j2 => ?_, fun j j1 j2 => ?_⟩
    · by_cases hz : j = e
      · subst hz
        omega
      · have := h2 j e (by omega) (by omega) (Nat.le_refl _) (fun q => by have := congrArg Prod.fst q; simp only at this; omega)
        omega
    · by_cases hz : j = b
      · subst hz
        omega
      · have := h2 b j (Nat.le_refl _) (by omega) (by omega) (fun q => by have := congrArg Prod.snd q; simp only at this; omega)
        omega
end
end Sr
namespace Sr
open PySem PySem.Spec PyProof.Rows L2
/-! ### levels of likes; parts and stretches as tuples -/
def lev (g l : Int) (z : List Nat) (i : Nat) : Int := wor g l (z.take i)
theorem lev_succ (g l : Int) {z : List Nat} {i : Nat} (h : i < z.length) : lev g l z (i + 1) = lev g l z i + (if z[i] = 61 then g else -l) := wor_take g l h
theorem lev_zero (g l : Int) (z : List Nat) : lev g l z 0 = 0 := by
  unfold lev
  rw [List.take_zero]
  rfl
/-- only the object at a is another -/
def K1 (a : Addr) (H H' : Hp) : Prop := ∀ p o, p ≠ a → H p = some o → H' p = some o
theorem K1.refl {a : Addr} (H : Hp) : K1 a H H := fun _ _ _ h => h
theorem K1.trans {a : Addr} {H H1 H2 : Hp} (x : K1 a H H1) (y : K1 a H1 H2) : K1 a H H2 := fun p o h1 h => y p o h1 (x p o h1 h)
theorem K1.of {a : Addr} {H H' : Hp} (x : Same H H') : K1 a H H' := fun p o _ h => x p o h
theorem K1.at {a : Addr} {H : Hp} {o : HO} : K1 a H (upd H a o) := fun q u n e => by
  rw [upd_ne n]
  exact e
theorem K1.same {a : Addr} {H0 H H' : Hp} (x : K1 a H H') (h0 : H0 a = none) (s : Same H0 H) : Same H0 H' := fun p o h => x p o (ne_of_none h h0) (s p o h)
/-- the tuples at as tell L, each by f -/
def Tup {α : Type} (f : α → List V) (H : Hp) (as : List Addr) (L : List α) : Prop := as.length = L.length ∧ ∀ (j : Nat) (a : Addr) (p : α), as[j]? = some a → L[j]? = some p → H a = some (.tup (f p))
section
variable {α : Type} {f : α → List V} {H H' : Hp} {as : List Addr} {L : List α}
theorem Tup.nil : Tup f H [] [] := ⟨rfl, fun j a p h => by simp at h⟩
theorem Tup.k1 {a : Addr} {xs : List V} (h : Tup f H as L) (k : K1 a H H') (ha : H a = some (.lst xs)) : Tup f H' as L := ⟨h.1, fun j b p h1 h2 => by
  have h3 := h.2 j b p h1 h2
  exact k b _ (ne_of h3 ha (by intro q; cases q)) h3⟩
theorem Tup.same (h : Tup f H as L) (k : Same H H') : Tup f H' as L := ⟨h.1, fun j b p h1 h2 => k b _ (h.2 j b p h1 h2)⟩
theorem Tup.take (h : Tup f H as L) (k : Nat) : Tup f H (as.take k) (L.take k) := ⟨by rw [List.length_take, List.length_take, h.1], fun j b p h1 h2 => by
  rw [List.getElem?_take] at h1 h2
  split at h1
  · rename_i hj
    rw [if_pos hj] at h2
    exact h.2 j b p h1 h2
  · cases h1⟩
theorem Tup.snoc {a : Addr} {p : α} (h : Tup f H as L) (ha : H a = some (.tup (f p))) : Tup f H (as ++ [a]) (L ++ [p]) := ⟨by rw [List.length_append, List.length_append, h.1]; rfl, fun j b q h1 h2 => by
  by_cases hj : j < as.length
  · rw [List.getElem?_append_left hj] at h1
    rw [List.getElem?_append_left (by rw [← h.1]; exact hj)] at h2
    exact h.2 j b q h1 h2
  · rw [List.getElem?_append_right (by omega)] at h1
    rw [List.getElem?_append_right (by rw [← h.1]; omega)] at h2
    have e1 : j - as.length = 0 := by
      apply Classical.byContradiction
      intro hn
      rw [List.getElem?_eq_none (by simp; omega)] at h1
      cases h1
    rw [e1] at h1
    rw [← h.1, e1] at h2
    have : a = b := Option.some.inj h1
    have : p = q := Option.some.inj h2
    subst_vars
    exact ha⟩
theorem Tup.get (h : Tup f H as L) {j : Nat} {p : α} (hp : L[j]? = some p) : ∃ a, as[j]? = some a ∧ (as.map V.ref)[j]? = some (.ref a) ∧ H a = some (.tup (f p)) := by
  have hj : j < as.length := by
    rw [h.1]
    exact (List.getElem?_eq_some_iff.mp hp).1
  refine ⟨as[j], List.getElem?_eq_getElem hj, by rw [List.getElem?_map, List.getElem?_eq_getElem hj]; rfl, h.2 j _ p (List.getElem?_eq_getElem hj) hp⟩
theorem Tup.len (h : Tup f H as L) : (as.map V.ref).length = L.length := by rw [List.length_map, h.1]
theorem Tup.dp {K : PySem.W.Frag} {g : α → List PyData} (hg : ∀ p, DpAll K H (f p) (g p)) : ∀ {as : List Addr} {L : List α}, Tup f H as L → DpAll K H (as.map V.ref) (L.map fun p => PyData.tuple (g p))
  | [], [], _ => .nil
  | [], p :: L, h => by have := h.1; simp at this
  | a :: as, [], h => by have := h.1; simp at this
  | a :: as, p :: L, h => .cons (.tup (SqT.of (h.2 0 a p rfl rfl)) (hg p)) (Tup.dp hg ⟨by simpa using h.1, fun j b q h1 h2 => h.2 (j + 1) b q h1 h2⟩)
end
/-- a part: its stretch, and the levels at its ends -/
def part4 (s : Nat → Int) (p : Nat × Nat) : List V := [.int (p.1 : Nat), .int (p.2 : Nat), .int (s p.1), .int (s p.2)]
def pair2 (p : Nat × Nat) : List V := [.int (p.1 : Nat), .int (p.2 : Nat)]
def pairD (p : Nat × Nat) : List PyData := [.int (p.1 : Nat), .int (p.2 : Nat)]
theorem pair2_dp {K : PySem.W.Frag} {H : Hp} (p : Nat × Nat) : DpAll K H (pair2 p) (pairD p) := .cons (.int _) (.cons (.int _) .nil)
theorem len_sorted : ∀ {L : List (Nat × Nat)} {k n : Nat}, L.Pairwise (fun p q => p.1 < q.1) → (∀ p ∈ L, k ≤ p.1 ∧ p.1 < n) → L.length ≤ n - k
  | [], _, _, _, _ => by simp
  | p :: L, k, n, h, hb => by
    rw [List.pairwise_cons] at h
    have hp := hb p (List.mem_cons_self ..)
    have ih := len_sorted (k := p.1 + 1) (n := n) h.2 fun q hq => ⟨h.1 q hq, (hb q (List.mem_cons_of_mem _ hq)).2⟩
    rw [List.length_cons]
    omega
theorem RL.len {s : Nat → Int} {n : Nat} {L : List (Nat × Nat)} (h : RL s n L) : L.length ≤ n := by
  have := len_sorted (k := 0) (n := n) h.lt fun p hp => ⟨Nat.zero_le _, by
    have r := h.ripe p hp
    have := r.1.1
    have := r.2.1
    omega⟩
  omega
theorem Gd_pairs (L : List (Nat × Nat)) (h : L.length ≤ 100000) : Gd (.list (L.map fun p => PyData.tuple (pairD p))) := by
  refine .lst _ (by rw [List.length_map]; exact h) fun d hd => ?_
  obtain ⟨p, _, rfl⟩ := List.mem_map.mp hd
  refine .tup _ (by show 2 ≤ 100000; omega) fun e he => ?_
  rcases List.mem_cons.mp he with rfl | he
  · exact .int _
  · rcases List.mem_cons.mp he with rfl | he
    · exact .int _
    · cases he
theorem depth_pairs (L : List (Nat × Nat)) : PyData.depthAll (L.map fun p => PyData.tuple (pairD p)) ≤ 1 := by
  induction L with
  | nil => simp [PyData.depthAll]
  | cons p L ih =>
    have h : (PyData.tuple (pairD p)).depth = 1 := by simp [pairD, PyData.depth, PyData.depthAll]
    rw [List.map_cons, PyData.depthAll, h]
    exact Nat.max_le.mpr ⟨Nat.le_refl _, ih⟩
theorem eq_like (c : Nat) : decide (V.str (sg c) = V.str (Str.ofString "=")) = decide (c = 61) := by
  by_cases h : c = 61
  · subst h
    rfl
  · rw [decide_eq_false h]
    refine decide_eq_false fun q => h ?_
    have : S [c] = S [61] := V.str.inj q
    have := S_inj this
    exact (List.cons.inj this).1
theorem x_slT {K : PySem.W.Frag} {H : Hp} {a : Addr} {xs : List V} {lo hi : Option Int} {Q : VK} (h : SqT K H a xs) (hn : ¬ (HT.sIx xs.length 0 lo = 0 ∧ HT.sIx xs.length xs.length hi = xs.length)) (q : ∀ p, H p = none → Q (.ref p) (upd H p (.tup (cutV xs lo hi)))) :
    rSlT K (.ref a) lo hi H Q := ⟨a, xs, rfl, h, hn, q⟩
/-- a new tuple t is appended to the list of tuples at D -/
theorem tup_push {α : Type} {f : α → List V} {H0 H : Hp} {D t : Addr} {as : List Addr} {M : List α} {p : α} (hD0 : H0 D = none) (sm : Same H0 H) (hD : H D = some (.lst (as.map V.ref))) (hT : Tup f H as M) (ht : H t = none) :
    Same H0 (upd (upd H t (.tup (f p))) D (.lst (as.map V.ref ++ [.ref t]))) ∧ upd (upd H t (.tup (f p))) D (.lst (as.map V.ref ++ [.ref t])) D = some (.lst ((as ++ [t]).map V.ref)) ∧
      Tup f (upd (upd H t (.tup (f p))) D (.lst (as.map V.ref ++ [.ref t]))) (as ++ [t]) (M ++ [p]) := by
  have hne : D ≠ t := ne_of_none hD ht
  have k : K1 D H (upd (upd H t (.tup (f p))) D (.lst (as.map V.ref ++ [.ref t]))) := (K1.of (same_upd ht)).trans K1.at
  refine ⟨k.same hD0 sm, by rw [upd_same, List.map_append]; rfl, Tup.snoc (hT.k1 k hD) ?_⟩
  rw [upd_ne hne.symm, upd_same]
theorem wor_cut (g l : Int) (z : List Nat) {i j : Nat} (h : i ≤ j) : wor g l ((z.drop i).take (j - i)) = lev g l z j - lev g l z i := by
  have e : z.take j = z.take i ++ (z.drop i).take (j - i) := by
    have hj : j = i + (j - i) := by omega
    rw [hj, List.take_add, ← hj]
  unfold lev
  rw [e, wor_app]
  omega
theorem eqv_pair (a b c d : Int) : PyData.eqv (.tuple [.int a, .int b]) (.tuple [.int c, .int d]) = decide (a = c ∧ b = d) := by
  simp [PyData.eqv, PyData.eqvAll]
  by_cases h1 : a = c <;> by_cases h2 : b = d <;> simp [h1, h2]
theorem dp_pair {K : PySem.W.Frag} {H : Hp} {p : Addr} {a b : Int} (h : H p = some (.tup [.int a, .int b])) : Dp K H (.ref p) (.tuple [.int a, .int b]) := .tup (SqT.of h) (.cons (.int a) (.cons (.int b) .nil))
/-- all stretches that stand by themselves, as far as the walk has come: ahead of (bi, ei) -/
def Lex (p q : Nat × Nat) : Prop := p.1 < q.1 ∨ (p.1 = q.1 ∧ p.2 < q.2)
structure SLI (s : Nat → Int) (n bi ei : Nat) (L : List (Nat × Nat)) : Prop where
  st : ∀ p ∈ L, St s p.1 p.2 ∧ p.2 ≤ n
  all : ∀ b e, St s b e → e ≤ n → (b < bi ∨ (b = bi ∧ e < ei)) → (b, e) ∈ L
  lt : L.Pairwise Lex
  top : ∀ p ∈ L, p.1 < bi ∨ (p.1 = bi ∧ p.2 < ei)
  len : L.length ≤ bi * (n + 1) + ei
theorem SLI.zero (s : Nat → Int) (n : Nat) : SLI s n 0 1 [] := ⟨(fun p h => nomatch h), (fun b e h _ h2 => by have := h.1; omega), .nil, (fun p h => nomatch h), by simp⟩
theorem SLI.row {s : Nat → Int} {n i : Nat} {L : List (Nat × Nat)} (h : SLI s n i (n + 1) L) : SLI s n (i + 1) (i + 1 + 1) L := by
  refine ⟨h.st, fun b e hs he h2 => h.all b e hs he ?_, h.lt, fun p hp => ?_, ?_⟩
  · have := hs.1
    omega
  · have := h.top p hp
    omega
  · have := h.len
    rw [Nat.succ_mul]
    omega
theorem SLI.no {s : Nat → Int} {n i e : Nat} {L : List (Nat × Nat)} (h : SLI s n i e L) (hn : ¬ St s i e) : SLI s n i (e + 1) L := by
  refine ⟨h.st, fun b e' hs he h2 => h.all b e' hs he ?_, h.lt, fun p hp => ?_, ?_⟩
  · by_cases hz : b = i ∧ e' = e
    · obtain ⟨z1, z2⟩ := hz
      subst z1 z2
      exact absurd hs hn
    · omega
  · have := h.top p hp
    omega
  · have := h.len
    omega
theorem SLI.yes {s : Nat → Int} {n i e : Nat} {L : List (Nat × Nat)} (h : SLI s n i e L) (hy : St s i e) (he : e ≤ n) : SLI s n i (e + 1) (L ++ [(i, e)]) := by
  refine ⟨fun p hp => ?_, fun b e' hs he h2 => ?_, ?_, fun p hp => ?_, ?_⟩
  · rcases List.mem_append.mp hp with z | z
    · exact h.st p z
    · rw [List.mem_singleton.mp z]
      exact ⟨hy, he⟩
  · by_cases hz : b = i ∧ e' = e
    · rw [hz.1, hz.2]
      simp
    · exact List.mem_append.mpr (.inl (h.all b e' hs he (by omega)))
  · rw [List.pairwise_append]
    refine ⟨h.lt, by simp, fun p hp q hq => ?_⟩
    rw [List.mem_singleton.mp hq]
    exact h.top p hp
  · rcases List.mem_append.mp hp with z | z
    · have := h.top p z
      omega
    · rw [List.mem_singleton.mp z]
      exact .inr ⟨rfl, Nat.lt_succ_self _⟩
  · have := h.len
    rw [List.length_append]
    show L.length + 1 ≤ _
    omega
/-- q holds p within, and is another -/
def cont (p q : Nat × Nat) : Bool := decide (q.1 ≤ p.1) && (decide (p.2 ≤ q.2) && !decide (q = p))
def mxs (L : List (Nat × Nat)) (p : Nat × Nat) : Bool := (L.filter (cont p)).isEmpty
theorem SLI.ripe {s : Nat → Int} {n : Nat} {L : List (Nat × Nat)} (h : SLI s n n (n + 1) L) : RL s n (L.filter (mxs L)) := by
  have all : ∀ b e, St s b e → e ≤ n → (b, e) ∈ L := fun b e hs he => h.all b e hs he (by have := hs.1; omega)
  refine RL.of_lt (fun p hp => ?_) (fun b e r => ?_) ?_
  · obtain ⟨h1, h2⟩ := List.mem_filter.mp hp
    obtain ⟨h3, h4⟩ := h.st p h1
    refine ⟨h3, h4, fun b' e' hs he hb hi => ?_⟩
    apply Classical.byContradiction
    intro hn
    have hc : cont p (b', e') = true := by
      unfold cont
      rw [decide_eq_true (show (b', e').1 ≤ p.1 from hb), decide_eq_true (show p.2 ≤ (b', e').2 from hi), decide_eq_false (show ¬ (b', e') = p from fun q => hn ⟨congrArg Prod.fst q, congrArg Prod.snd q⟩)]
      rfl
    have hm : (b', e') ∈ L.filter (cont p) := List.mem_filter.mpr ⟨all b' e' hs he, hc⟩
    unfold mxs at h2
    rw [List.isEmpty_iff] at h2
    rw [h2] at hm
    cases hm
  · refine List.mem_filter.mpr ⟨all b e r.1 r.2.1, ?_⟩
    unfold mxs
    rw [List.isEmpty_iff, List.filter_eq_nil_iff]
    intro q hq hc
    unfold cont at hc
    simp only [Bool.and_eq_true, decide_eq_true_eq, Bool.not_eq_true', decide_eq_false_iff_not] at hc
    obtain ⟨h3, h4⟩ := h.st q hq
    have := r.2.2 q.1 q.2 h3 h4 hc.1 hc.2.1
    exact hc.2.2 (Prod.ext this.1 this.2)
  · refine (h.lt.filter _).imp fun {p q} hpq => ⟨?_, fun e => ?_⟩
    · rcases hpq with z | z <;> omega
    · subst e
      rcases hpq with z | z <;> omega
theorem SLI.skip {s : Nat → Int} {n i e e' : Nat} {L : List (Nat × Nat)} (h : SLI s n i e L) (hn : ∀ x, e ≤ x → ¬ St s i x) (hle : e ≤ e') : SLI s n i e' L := by
  refine ⟨h.st, fun b x hs he h2 => h.all b x hs he ?_, h.lt, fun p hp => ?_, ?_⟩
  · by_cases hz : b = i ∧ e ≤ x
    · obtain ⟨z1, z2⟩ := hz
      subst z1
      exact absurd hs (hn x z2)
    · omega
  · have := h.top p hp
    omega
  · have := h.len
    omega
/-- some stretch that stands by itself is worth as much as any two levels differ -/
theorem St.of_diff {s : Nat → Int} {i j : Nat} (hij : i < j) (h : s i < s j) : ∃ b e, i ≤ b ∧ b < e ∧ e ≤ j ∧ St s b e ∧ s j - s i ≤ s e - s b := by
  obtain ⟨e, e1, e2, e3, e4⟩ := argmax_first s i (j - i)
  have he := e4 j (by omega) (by omega)
  have hie : i ≠ e := fun q => by
    rw [← q] at he
    omega
  obtain ⟨b, b1, b2, b3, b4⟩ := argmin_last s i (e - i)
  have hb := b4 i (Nat.le_refl _) (by omega)
  have hbe : b ≠ e := fun q => by
    rw [q] at hb
    have := e3 i (Nat.le_refl _) (by omega)
    omega
  exact ⟨b, e, b1, by omega, by omega, ⟨by omega, fun x x1 x2 => b3 x x1 (by omega), fun x x1 x2 => e3 x (by omega) x2⟩, by omega⟩
theorem RL.best {s : Nat → Int} {n : Nat} {L : List (Nat × Nat)} (h : RL s n L) {i j : Nat} (hij : i < j) (hj : j ≤ n) (hd : s i < s j) : ∃ p ∈ L, s j - s i ≤ s p.2 - s p.1 := by
  obtain ⟨b, e, h1, h2, h3, h4, h5⟩ := St.of_diff hij hd
  obtain ⟨b', e', r, r1, r2⟩ := ripe_over (n := n) h4 (by omega)
  refine ⟨(b', e'), h.all b' e' r, ?_⟩
  have k1 : s b' ≤ s b := by
    by_cases hz : b' = b
    · subst hz
      exact Int.le_refl _
    · have := r.1.2.1 b (by omega) (by omega)
      omega
  have k2 : s e ≤ s e' := by
    by_cases hz : e = e'
    · subst hz
      exact Int.le_refl _
    · have := r.1.2.2 e (by omega) (by omega)
      omega
  show s j - s i ≤ s e' - s b'
  omega
theorem lev_add (g l : Int) {z : List Nat} {i : Nat} (h : i < z.length) : wor g l [z[i]] = lev g l z (i + 1) - lev g l z i := by
  rw [lev_succ g l h]
  show (if z[i] = 61 then g else -l) + 0 = _
  omega
end Sr

namespace L2
open PySem PySem.Spec PyProof.Rows
/-! ### an exception that a suite holds: isinstance of it, with what must be known of it told in the reading -/
/-- what stands of the exception at a: its class is own class D, its dict is tracked -/
def Caught (K : PySem.W.Frag) (cls : Value) (d : Option Addr) (H : Hp) (D : Addr) : Prop :=
  cls = .ref D ∧ ExcC K D ∧ (d = none ∨ ∃ dd fs, d = some dd ∧ H dd = some (.xd fs))
theorem caught_at {X : Cx} {a D : Addr} {oe : Obj} {cls : Value} {d : Option Addr} {pn pins : List (Addr × Obj)} {σ : St} {H : Hp} {s : Shared} (hz : Zc cls d oe) (hf : ∃ vs, oe.data = .fields vs)
    (I : Inv (X.suite a ((a, oe) :: pn)) pins σ H s) (C : Caught X.K cls d H D) : ∃ od, PySem.W.InstAt s.heap a oe D od := by
  obtain ⟨ec, _, hd⟩ := C
  obtain ⟨hget, _⟩ := I.pin (a, oe) (List.mem_append_left _ List.mem_cons_self)
  obtain ⟨vs, hv⟩ := hf
  subst ec
  obtain ⟨zc, zd⟩ := hz
  have nc : PySem.W.notCls oe := by
    unfold PySem.W.notCls
    rw [hv]
  rcases hd with e | ⟨dd, fs, e, hH⟩
  · exact ⟨none, hget, zc, nc, by rw [zd, e]; trivial⟩
  · have k : ObjOk X.prog X.w H s.heap dd (.xd fs) := I.hok dd _ hH
    obtain ⟨mA, hns, _⟩ := k
    obtain ⟨od, ho, _⟩ := lookIn_ns hns
    exact ⟨some od, hget, zc, nc, by rw [zd, e]; exact ho⟩
def rIsC (K : PySem.W.Frag) (a : Addr) (cls : Value) (d : Option Addr) : List V → Hp → VK → Prop := fun xs H Q =>
  ∃ (D : Addr) (c : V) (u : Value) (b : Bool), Caught K cls d H D ∧ xs = [.ref a, c] ∧ ClsV c u ∧ PySem.W.kitOne K (.ref D) u = some b ∧ Q (.bl b) H
theorem call_isC {X : Cx} {a : Addr} {oe : Obj} {cls : Value} {d : Option Addr} {pn : List (Addr × Obj)} (hz : Zc cls d oe) (hf : ∃ vs, oe.data = .fields vs) : CallR (X.suite a ((a, oe) :: pn)) (.builtin "isinstance") (rIsC X.K a cls d) := by
  intro pins s σ H xs us Q I r h
  obtain ⟨D, c, u, b, C, rfl, k, e, q⟩ := h
  obtain ⟨u1, u2, rfl, r1, r2⟩ := vals2 r
  cases r1
  have e2 := k.eq r2
  subst e2
  obtain ⟨od, J⟩ := caught_at hz hf I C
  have F := C.2.1
  exact PySem.W.kia_one (PySem.W.kitx_exc (by obtain ⟨cd, hc, _⟩ := PySem.W.any_some F.hd; rw [hc]; rfl) F.hg F.hk F.hs F.ha F.hn F.ht F.hm) I.kIn J e (fun z => nomatch z) fun tk => ⟨.bl b, H, I.kept (t' := tk) fun _ _ z => z, rfl, q⟩
def rIsCT (K : PySem.W.Frag) (a : Addr) (cls : Value) (d : Option Addr) : List V → Hp → VK → Prop := fun xs H Q =>
  ∃ (D tp : Addr) (cs : List V) (us : List Value) (b : Bool), Caught K cls d H D ∧ xs = [.ref a, .ref tp] ∧ H tp = some (.tup cs) ∧ Paired ClsV cs us ∧ PySem.W.kitAny K (.ref D) us = some b ∧ Q (.bl b) H
theorem call_isCT {X : Cx} {a : Addr} {oe : Obj} {cls : Value} {d : Option Addr} {pn : List (Addr × Obj)} (hz : Zc cls d oe) (hf : ∃ vs, oe.data = .fields vs) : CallR (X.suite a ((a, oe) :: pn)) (.builtin "isinstance") (rIsCT X.K a cls d) := by
  intro pins s σ H xs us Q I r h
  obtain ⟨D, tp, cs, ws, b, C, rfl, hT, k, e, q⟩ := h
  obtain ⟨u1, u2, rfl, r1, r2⟩ := vals2 r
  cases r1
  cases (show u2 = Value.ref tp from r2)
  obtain ⟨od, J⟩ := caught_at hz hf I C
  have F := C.2.1
  obtain ⟨_, its, rv, o, h1, h2, n, h3⟩ := (show ObjOk X.prog X.w H s.heap tp (.tup cs) from I.hok tp _ hT)
  have e3 := ClsV.all k rv
  subst e3
  obtain ⟨oc, oo, dt, sl⟩ := o
  dsimp only at h2 h3
  cases h2
  cases h3
  exact PySem.W.kia_tup (PySem.W.kitx_exc (by obtain ⟨cd, hc, _⟩ := PySem.W.any_some F.hd; rw [hc]; rfl) F.hg F.hk F.hs F.ha F.hn F.ht F.hm) I.kIn J h1 e (fun z => nomatch z) fun tk => ⟨.bl b, H, I.kept (t' := tk) fun _ _ z => z, rfl, q⟩
/-- what is known of two own classes: D is under C or not -/
theorem kit_own {K : PySem.W.Frag} {D C : Addr} {b : Bool} (hC : PySem.W.hasDictIn K C = true) (ht : PySem.W.typeIn K (.ref C) = some (.type "type")) (hb : PySem.W.subIn K (.ref D) (.ref C) = some b) (hD : PySem.W.subIn K (.ref D) (.ref D) = some true) : PySem.W.kitOne K (.ref D) (.ref C) = some b := by
  unfold PySem.W.kitOne
  by_cases e : D = C
  · subst e
    rw [if_pos (by simp)]
    exact hD.symm.trans hb
  · rw [if_neg (by simpa using e)]
    obtain ⟨cd, hc, _⟩ := PySem.W.any_some hC
    show (if ((PySem.W.clsIn K C).isSome && PySem.W.typeIn K (.ref C) == some (.type "type")) = true then PySem.W.subIn K (.ref D) (.ref C) else none) = some b
    rw [if_pos (by rw [hc, ht]; rfl)]
    exact hb
theorem kit_typ {K : PySem.W.Frag} {D : Addr} {T : String} {b : Bool} (hT : PySem.W.kitMeta T = true) (hb : PySem.W.subIn K (.ref D) (.type T) = some b) : PySem.W.kitOne K (.ref D) (.type T) = some b := by
  unfold PySem.W.kitOne
  rw [if_neg (by simp)]
  show (if PySem.W.kitMeta T = true then PySem.W.subIn K (.ref D) (.type T) else none) = some b
  rw [if_pos hT]
  exact hb
/-! ### list.count of flat things -/
def rCntF (K : PySem.W.Frag) : V → List V → Hp → VK → Prop := fun x xs H Q => ∃ (p : Addr) (ys : List V) (y : V), x = .ref p ∧ xs = [y] ∧ SqL K H p ys ∧ flatV y = true ∧ ys.all flatV = true ∧ Q (.int ((ys.countP fun z => eqV z y) : Nat)) H
theorem cnt_eqU {y : V} : ∀ {ys : List V} {us : List Value}, Vals ys us → ys.all flatV = true → us.countP (eqU y) = ys.countP fun z => eqV z y
  | _, _, .nil, _ => rfl
  | z :: ys, u :: us, .cons r t, f => by
    rw [List.all_cons, Bool.and_eq_true] at f
    rw [List.countP_cons, List.countP_cons, cnt_eqU t f.2, eqU_of r f.1]
theorem mt_countF {X : Cx} : MtR X "list.count" (rCntF X.K) := by
  intro pins s σ H x xs v us Q I rx rxs h
  obtain ⟨p, ys, y, rfl, rfl, hs, fy, fys, q⟩ := h
  cases rx
  obtain ⟨u, rfl, ru⟩ := rxs.one
  obtain ⟨its, rv, ⟨⟨cls, dd, data, sl⟩, n, ho, hc, hdn, hd⟩, hlen⟩ := I.list hs
  dsimp only at hc hd
  cases hc
  cases hd
  refine call_meets PySem.F.slot_list_count ⟨_, ho, rfl⟩ PySem.F.entry_list_count (PySem.F.args_list_count_2 _ _)
    (SeqAt.list_countAt p its.toArray n dd sl u (eqU y)) ⟨ho, fun z hz => mem_eqAt ru fy rv fys z (by simpa using hz), ?_⟩
  refine ⟨.int ((ys.countP fun z => eqV z y) : Nat), H, I.tok _, ⟨s.toks, ?_⟩, q⟩
  have ec := cnt_eqU (y := y) rv fys
  show Value.int ((its.toArray.toList.countP (eqU y) : Nat) : Int) s.toks = Value.int ((ys.countP fun z => eqV z y : Nat) : Int) s.toks
  rw [show its.toArray.toList = its from rfl, ec]
end L2
namespace L2
open PySem PySem.Spec PyProof.Rows
theorem x_callS {sp : Sp} {E : St → XK} {t : TA} {σ : St} {H : Hp} {Q : VK} (q : t σ H fun vs H1 => sp vs H1 Q (E σ)) : tCallS sp E t σ H Q := q
end L2
namespace L2
open PySem PySem.Spec PyProof.Rows
section
variable {X : Cx} {K : PySem.W.Frag} {T id : String} {name : Str} {o e : Expr} {es : List Expr} {to : TE} {t : TA} {apos cpos : Pos} {r : V → List V → Hp → VK → Prop}
/-- a built-in's method, the written part named -/
theorem pe_bmK (hK : X.K = K) (pa : PlainAttrs T) (slot : Slot T name id) (hty : typeOf (.builtin id) = pure (.type "method_descriptor")) (hm : MtR X id r) (ho : PE X o to) (ha : PA X (e :: es) t)
    (h1 : attributeBase o name X.env (eval o X.env) = eval o X.env := by rfl)
    (h2 : ((backTo cpos (starEach (e :: es) X.env)).all (fun x => !x.1) && (backToKw cpos (keywordEach [] X.env)).all (fun x => x.1.isSome) && decide ((e :: es).length + ([] : List Keyword).length + (if ([] : List Keyword).isEmpty then 0 else 1) < 30)) = true := by rfl)
    (h3 : (apos.endLine == cpos.line) = true := by rfl) (h4 : starEach (e :: es) X.env = (false, eval e X.env) :: starEach es X.env := by rfl) (h5 : (backTo cpos (starEach es X.env)).any (·.1) = false := by rfl) :
    PE X (.Call (.Attribute o name apos) (e :: es) [] cpos) (tBM K T r to t) := by
  subst hK
  exact pe_bm pa slot hty hm ho ha h1 h2 h3 h4 h5
end
end L2
namespace L2
open PySem PySem.Spec PyProof.Rows
section
variable {K : PySem.W.Frag} {a D tp p : Addr} {cls : Value} {d : Option Addr} {H : Hp} {Q : VK} {c y : V} {u : Value} {us : List Value} {cs ys : List V} {b : Bool} {n : Nat}
theorem x_isC (C : Caught K cls d H D) (k : ClsV c u) (e : PySem.W.kitOne K (.ref D) u = some b) (q : Q (.bl b) H) : rIsC K a cls d [.ref a, c] H Q := ⟨D, c, u, b, C, rfl, k, e, q⟩
theorem x_isCT (C : Caught K cls d H D) (h : H tp = some (.tup cs)) (k : Paired ClsV cs us) (e : PySem.W.kitAny K (.ref D) us = some b) (q : Q (.bl b) H) : rIsCT K a cls d [.ref a, .ref tp] H Q := ⟨D, tp, cs, us, b, C, rfl, h, k, e, q⟩
theorem x_cntF (h : SqL K H p ys) (f : flatV y = true) (g : ys.all flatV = true) (e : (ys.countP fun z => eqV z y) = n) (q : Q (.int n) H) : rCntF K (.ref p) [y] H Q := ⟨p, ys, y, rfl, rfl, h, f, g, by rw [e]; exact q⟩
theorem x_indexF {j : Nat} {z : V} (h : SqL K H p ys) (f : flatV y = true) (g : ys.all flatV = true) (e : ys[j]? = some z) (e1 : eqV z y = true) (e2 : ∀ m z', m < j → ys[m]? = some z' → eqV z' y = false) (q : Q (.int j) H) : rIndex K (.ref p) [y] H Q := ⟨p, ys, y, j, z, rfl, rfl, h, f, g, e, e1, e2, q⟩
end
end L2

namespace L2
open PySem PySem.Spec PyProof.Rows
/-! ### text * int; is of truth values -/
theorem foldl_cps (c : Array Nat) : ∀ (n : Nat) (acc : Array Nat), ((List.replicate n c).foldl (· ++ ·) acc).toList = acc.toList ++ (List.replicate n c.toList).flatten
  | 0, acc => by simp
  | n + 1, acc => by
    rw [List.replicate_succ, List.foldl_cons, foldl_cps c n, List.replicate_succ, List.flatten_cons, Array.toList_append, List.append_assoc]
def rMulS : R2 := fun x y H Q => ∃ (z : Str) (n : Int), x = .str z ∧ y = .int n ∧ n ≤ 1000 ∧ -1000 ≤ n ∧ z.length ≤ 1000 ∧ Q (.str ⟨((List.replicate n.toNat z.cps.toList).flatten).toArray⟩) H
theorem rep_le (z : List Nat) (n : Nat) : ((List.replicate n z).flatten).length = n * z.length := by
  induction n with
  | zero => simp
  | succ n ih => rw [List.replicate_succ, List.flatten_cons, List.length_append, ih, Nat.succ_mul, Nat.add_comm]
theorem op_mulS {X : Cx} : OpR X (binaryOp .Mult) rMulS := by
  intro pins s σ H x y v u Q I rx ry h
  obtain ⟨z, n, rfl, rfl, h1, h2, hz, q⟩ := h
  obtain ⟨t, rfl⟩ := rx
  obtain ⟨t', rfl⟩ := ry
  have hlen : z.cps.toList.length = z.length := by simp [Str.length]
  have hm : z.length * n.toNat ≤ 1000 * 1000 := Nat.mul_le_mul hz (by omega)
  refine P.mul_str ?_ (fun h3 h4 => ?_) (fun h3 h4 => ?_) ?_
  · rw [decide_eq_false (by omega), decide_eq_false (by omega)]
    rfl
  · have h5 : (1000 : Int) ≤ (2 ^ 63 - 1) / n := Int.le_ediv_of_mul_le (by omega) (by omega)
    omega
  · unfold Builtin.Str.tooLong
    exact decide_eq_false (by have : (1000000 : Nat) ≤ sizeLine := by decide
                              omega)
  · by_cases h3 : n < 1
    · rw [if_pos h3]
      have e0 : n.toNat = 0 := by omega
      rw [e0] at q
      exact ⟨by decide, .str _, H, I.tok _, ⟨_, rfl⟩, q⟩
    · rw [if_neg h3]
      have ef : (⟨(List.replicate n.toNat z.cps).foldl (· ++ ·) #[]⟩ : Str) = ⟨((List.replicate n.toNat z.cps.toList).flatten).toArray⟩ := by
        have e := foldl_cps z.cps n.toNat #[]
        have e2 : (List.replicate n.toNat z.cps).foldl (· ++ ·) #[] = ((List.replicate n.toNat z.cps.toList).flatten).toArray := by
          apply Array.toList_inj.mp
          rw [e]
          simp
        rw [e2]
      by_cases h4 : (n == 1 || z.length == 0) = true
      · rw [if_pos h4]
        have ez : (⟨((List.replicate n.toNat z.cps.toList).flatten).toArray⟩ : Str) = z := by
          rcases Bool.or_eq_true _ _ |>.mp h4 with h5 | h5
          · have : n = 1 := by simpa using h5
            subst this
            show (⟨((List.replicate 1 z.cps.toList).flatten).toArray⟩ : Str) = z
            simp
          · have h6 : z.length = 0 := by simpa using h5
            have h7 : z.cps.toList = [] := List.length_eq_zero_iff.mp (by rw [hlen]; exact h6)
            apply TL.ext_tl
            show ((List.replicate n.toNat z.cps.toList).flatten) = z.cps.toList
            rw [h7]
            simp
        rw [ez] at q
        exact ⟨.str z, H, I, ⟨t, rfl⟩, q⟩
      · rw [if_neg h4, ef]
        refine ⟨?_, .str _, H, I.tok _, ⟨_, rfl⟩, q⟩
        show ((List.replicate n.toNat z.cps.toList).flatten).toArray.size ≤ sizeLine
        rw [List.size_toArray, rep_le, hlen]
        have : (1000000 : Nat) ≤ sizeLine := by decide
        have := Nat.mul_comm n.toNat z.length
        omega
theorem x_mulS {z : List Nat} {n : Int} {H : Hp} {Q : VK} (h1 : n ≤ 1000) (h2 : -1000 ≤ n) (hz : z.length ≤ 1000) (q : Q (.str (Sr.S (List.replicate n.toNat z).flatten)) H) : rMulS (.str (Sr.S z)) (.int n) H Q :=
  ⟨Sr.S z, n, rfl, rfl, h1, h2, by rw [Sr.len_S]; exact hz, q⟩
theorem x_isBl {a b : Bool} {H : Hp} {Q : VK} (q : Q (.bl (decide (a = b))) H) : rIsB (.bl a) (.bl b) H Q := ⟨a, b, rfl, rfl, q⟩
theorem x_notBl {a b : Bool} {H : Hp} {Q : VK} (q : Q (.bl (!decide (a = b))) H) : rNotB (.bl a) (.bl b) H Q := ⟨a, b, rfl, rfl, q⟩
section
variable {X : Cx} {K : PySem.W.Frag} {σ : St} {H : Hp} {Q : VK} {ta : TE} {t : TA}
theorem x_make {C : Addr} {sp : Sp} {dvs : List V} {E : XK} (q : t σ H fun vs H1 => ∀ x dx, H1 x = none → H1 dx = none → dx ≠ x → sp (.ref x :: (vs ++ dvs)) (upd (upd H1 dx (.own x)) x (.ins C dx [])) (fun v H2 => v = .non ∧ Q (.ref x) H2) E) : tMake C sp dvs E t σ H Q := q
theorem x_meth {C : Addr} {m : Str} {sp : Sp} {dvs : List V} {E : XK} (q : ta σ H fun x H1 => ∃ a dx fs, x = .ref a ∧ H1 a = some (.ins C dx fs) ∧ fs.lookup m = none ∧ t σ H1 fun vs H2 => sp (x :: (vs ++ dvs)) H2 Q E) : tMeth C m sp dvs E ta t σ H Q := q
end
end L2
namespace L2
open PySem PySem.Spec PyProof.Rows
theorem x_notT {K : PySem.W.Frag} {ta : TE} {σ : St} {H : Hp} {Q : VK} (q : ta σ H fun x H1 => ∃ k, TruV K x H1 k ∧ Q (.bl (!k)) H1) : tNotT K ta σ H Q := q
end L2

namespace Sr
open PySem PySem.Spec PyProof.Rows L2
/-! ### seeds: 35 a pick, 45 a gap; likes: 61 like, 47 unlike -/
def matB : List Nat → List Nat → Bool
  | [], _ => true
  | _ :: _, [] => false
  | c :: s, d :: z => !(c == 35 && d == 47) && matB s z
/-- a seed fits in likes at a place, any whole number -/
def fitsB (sd z : List Nat) (p : Int) : Bool := decide (0 ≤ p) && matB sd (z.drop p.toNat)
def seededB (sds : List (List Nat)) (z : List Nat) : Bool := sds.any fun sd => (List.range z.length).any fun p => fitsB sd z (p : Int)
theorem matB_iff : ∀ {sd z : List Nat}, matB sd z = true ↔ sd.length ≤ z.length ∧ ∀ k, k < sd.length → ¬ (sd[k]? = some 35 ∧ z[k]? = some 47)
  | [], z => by simp [matB]
  | c :: s, [] => by simp [matB]
  | c :: s, d :: z => by
    rw [matB, Bool.and_eq_true, matB_iff]
    constructor
    · rintro ⟨h1, h2, h3⟩
      refine ⟨by simpa using h2, fun k hk => ?_⟩
      cases k with
      | zero =>
        rintro ⟨e1, e2⟩
        have e1' : c = 35 := Option.some.inj e1
        have e2' : d = 47 := Option.some.inj e2
        subst e1' e2'
        simp at h1
      | succ k =>
        have := h3 k (by simpa using hk)
        simpa using this
    · rintro ⟨h2, h3⟩
      refine ⟨?_, by simpa using h2, fun k hk => ?_⟩
      · have := h3 0 (by simp)
        simp only [List.getElem?_cons_zero, Option.some.injEq] at this
        by_cases e1 : c = 35
        · by_cases e2 : d = 47
          · exact absurd ⟨e1, e2⟩ this
          · simp [e2]
        · simp [e1]
      · have := h3 (k + 1) (by simpa using hk)
        simpa using this
theorem fitsB_iff {sd z : List Nat} {p : Int} (h1 : 1 ≤ sd.length) : fitsB sd z p = true ↔ 0 ≤ p ∧ p + sd.length ≤ z.length ∧ ∀ k, k < sd.length → ¬ (sd[k]? = some 35 ∧ z[p.toNat + k]? = some 47) := by
  unfold fitsB
  rw [Bool.and_eq_true, decide_eq_true_eq, matB_iff, List.length_drop]
  constructor
  · rintro ⟨h2, h3, h4⟩
    refine ⟨h2, by omega, fun k hk => ?_⟩
    have := h4 k hk
    rw [List.getElem?_drop] at this
    exact this
  · rintro ⟨h2, h3, h4⟩
    refine ⟨h2, by omega, fun k hk => ?_⟩
    have := h4 k hk
    rw [List.getElem?_drop]
    exact this
/-- what a seed is -/
structure Sd (n : Nat) (sd : List Nat) : Prop where
  one : 1 ≤ sd.length
  most : sd.length ≤ n
  all : ∀ c ∈ sd, c = 35 ∨ c = 45
  first : sd[0]? = some 35
  last : sd[sd.length - 1]? = some 35
theorem Sd.wide {n m : Nat} {sd : List Nat} (h : Sd n sd) (hm : n ≤ m) : Sd m sd := ⟨h.one, Nat.le_trans h.most hm, h.all, h.first, h.last⟩
theorem eq_sign (c d : Nat) (x : Str) (hx : x = sg d) : decide (V.str (sg c) = V.str x) = decide (c = d) := by
  subst hx
  by_cases h : c = d
  · subst h
    rw [decide_eq_true rfl, decide_eq_true rfl]
  · rw [decide_eq_false h]
    refine decide_eq_false fun q => h ?_
    have : S [c] = S [d] := V.str.inj q
    exact (List.cons.inj (S_inj this)).1
/-- a list of ints is kept by a filter over a range -/
theorem range_filter_empty {f : Nat → Bool} {n : Nat} : ((List.range n).filter f).isEmpty = true ↔ ∀ k, k < n → ¬ f k = true := by
  rw [List.isEmpty_iff, List.filter_eq_nil_iff]
  exact ⟨fun h k hk => h k (List.mem_range.mpr hk), fun h k hk => h k (List.mem_range.mp hk)⟩
theorem range_filter_snoc (f : Nat → Bool) (n : Nat) : (List.range (n + 1)).filter f = (List.range n).filter f ++ if f n = true then [n] else [] := by
  rw [List.range_succ, List.filter_append, List.filter_cons]
  rfl
theorem filter_len_le (f : Nat → Bool) (n : Nat) : ((List.range n).filter f).length ≤ n := by
  have := List.length_filter_le f (List.range n)
  rw [List.length_range] at this
  exact this
/-- a comprehension over a range that keeps its own ints: a turn -/
theorem flt_yes {H0 H : Hp} {D : Addr} {f : Nat → Bool} {i : Nat} (hn : H0 D = none) (sm : Same H0 H) (hD : H D = some (.lst (((List.range i).filter f).map fun p => V.int (p : Nat)))) (hi : i ≤ 1000000) (hf : f i = true) {v : V} (hv : v = V.int (i : Nat)) :
    ∃ acc, H D = some (.lst acc) ∧ acc.length < sizeLine ∧ (Same H0 (upd H D (.lst (acc ++ [v]))) ∧ upd H D (.lst (acc ++ [v])) D = some (.lst (((List.range (i + 1)).filter f).map fun p => V.int (p : Nat)))) := by
  refine ⟨_, hD, ?_, fun b x e => ?_, ?_⟩
  · rw [List.length_map]
    exact Nat.lt_of_le_of_lt (Nat.le_trans (filter_len_le f i) hi) (by decide)
  · rw [upd_ne (ne_of_none e hn)]
    exact sm b x e
  · rw [upd_same, range_filter_snoc, if_pos hf, List.map_append, hv]
    rfl
theorem flt_no {H0 H : Hp} {D : Addr} {f : Nat → Bool} {i : Nat} (sm : Same H0 H) (hD : H D = some (.lst (((List.range i).filter f).map fun p => V.int (p : Nat)))) (hf : ¬ f i = true) :
    Same H0 H ∧ H D = some (.lst (((List.range (i + 1)).filter f).map fun p => V.int (p : Nat))) := by
  refine ⟨sm, ?_⟩
  rw [range_filter_snoc, if_neg hf, List.append_nil]
  exact hD
theorem map_int_nat (l : List Nat) : (l.map fun p => V.int (p : Nat)) = (l.map fun p => ((p : Nat) : Int)).map V.int := by rw [List.map_map]; rfl
theorem isEmpty_map {α β : Type} (f : α → β) (l : List α) : (l.map f).isEmpty = l.isEmpty := by cases l <;> rfl
/-- .. == [] of such a list -/
theorem eqD_nil {K : PySem.W.Frag} {H : Hp} {D p : Addr} {cs : List Int} (hD : H D = some (.lst (cs.map V.int))) (hp : H p = some (.lst [])) {Q : VK} (q : Q (.bl cs.isEmpty) H) : rEqD K (.ref D) (.ref p) H Q :=
  ⟨.list (cs.map PyData.int), .list [], .lst (SqL.of hD) (dp_ints _), .lst (SqL.of hp) .nil, shaped_ints _, by decide +kernel, by rw [eqv_ints_nil]; exact q⟩
theorem neD_nil {K : PySem.W.Frag} {H : Hp} {D p : Addr} {cs : List Int} (hD : H D = some (.lst (cs.map V.int))) (hp : H p = some (.lst [])) {Q : VK} (q : Q (.bl (!cs.isEmpty)) H) : rNeD K (.ref D) (.ref p) H Q :=
  ⟨.list (cs.map PyData.int), .list [], .lst (SqL.of hD) (dp_ints _), .lst (SqL.of hp) .nil, shaped_ints _, by decide +kernel, by rw [eqv_ints_nil]; exact q⟩
/-- texts as values -/
def strV (z : List Nat) : V := .str (S z)
end Sr
namespace Sr
theorem filter_any {α : Type} (f : α → Bool) : ∀ l : List α, (!(l.filter f).isEmpty) = l.any f
  | [] => rfl
  | x :: l => by
    rw [List.filter_cons, List.any_cons, ← filter_any f l]
    by_cases h : f x = true
    · rw [if_pos h, h]
      rfl
    · rw [if_neg h, Bool.eq_false_iff.mpr h, Bool.false_or]
end Sr
namespace Sr
open PySem PySem.Spec PyProof.Rows L2
/-! ### lists of texts as data -/
def strD (z : List Nat) : PyData := .str (S z)
theorem dp_strs {K : PySem.W.Frag} {H : Hp} : ∀ l : List (List Nat), DpAll K H (l.map strV) (l.map strD)
  | [] => .nil
  | c :: cs => .cons (.str _) (dp_strs cs)
theorem strOk_S {z : List Nat} (h : ∀ c ∈ z, c < 1114112) : PyData.strOk (S z) = true := by
  unfold PyData.strOk S
  rw [Array.all_eq_true']
  intro c hc
  exact decide_eq_true (h c (by simpa using hc))
def Cd (l : List (List Nat)) : Prop := ∀ z ∈ l, ∀ c ∈ z, c < 1114112
theorem lay_strs : ∀ {cs : List (List Nat)}, Cd cs → PyData.canLayAll0 (cs.map strD) = true
  | [], _ => by simp [PyData.canLayAll0]
  | c :: cs, hc => by
    have h := lay_strs (cs := cs) fun z hz => hc z (List.mem_cons_of_mem _ hz)
    rw [List.map_cons]
    simp only [strD, PyData.canLayAll0, PyData.canLay0, Bool.and_eq_true]
    exact ⟨strOk_S (hc c List.mem_cons_self), h⟩
theorem Cd.sds {m : Nat} {l : List (List Nat)} (h : ∀ sd ∈ l, Sd m sd) : Cd l := fun z hz c hc => by
  rcases (h z hz).all c hc with e | e <;> omega
theorem depth_strs : ∀ cs : List (List Nat), PyData.depthAll (cs.map strD) ≤ 1
  | [] => by simp [PyData.depthAll]
  | c :: cs => by
    have h := depth_strs cs
    simp [strD, PyData.depthAll, PyData.depth] at h ⊢
    omega
theorem shaped_strs {cs : List (List Nat)} (hc : Cd cs) : SeqAt.shaped (.list (cs.map strD)) = true := by
  unfold SeqAt.shaped
  rw [Bool.and_eq_true]
  refine ⟨lay_strs hc, decide_eq_true ?_⟩
  have h := depth_strs cs
  simp only [PyData.depth]
  omega
theorem eqv_strs_same {l : List (List Nat)} (hl : Cd l) : PyData.eqv (.list (l.map strD)) (.list (l.map strD)) = true := SeqAt.eqv_refl _ (lay_strs hl)
theorem ne_strs_same {K : PySem.W.Frag} {H : Hp} {a b : Addr} {l : List (List Nat)} (hl : Cd l) (ha : SqL K H a (l.map strV)) (hb : SqL K H b (l.map strV)) {Q : VK} (q : Q (.bl false) H) : rNeD K (.ref a) (.ref b) H Q :=
  ⟨.list (l.map strD), .list (l.map strD), .lst ha (dp_strs l), .lst hb (dp_strs l), shaped_strs hl, shaped_strs hl, by rw [eqv_strs_same hl]; exact q⟩
end Sr
namespace Sr
def ulK (sd z : List Nat) (p : Nat) (k : Nat) : Bool := decide (sd[k]? = some 35) && decide (z[p + k]? = some 47)
def ulL (sd z : List Nat) (p : Nat) : List Nat := (List.range sd.length).filter (ulK sd z p)
end Sr

namespace Sr
open PySem PySem.Spec PyProof.Rows L2
/-! ### sorted of tuples of data, any number -/
def rSortD (K : PySem.W.Frag) : List V → Hp → VK → Prop := fun vs H Q => ∃ (α : Type) (a : Addr) (as : List Addr) (L : List α) (f : α → List V) (g : α → List PyData), vs = [.ref a] ∧ SqL K H a (as.map V.ref) ∧ Tup f H as L ∧ (∀ p, DpAll K H (f p) (g p)) ∧
  PySem.W.AllAlike (L.map fun p => PyData.tuple (g p)) ∧ (∀ p ∈ L, g p ≠ []) ∧ (∀ p ∈ L, (PyData.tuple (g p)).depth ≤ 60) ∧
  ∀ (D : Addr) (as' : List Addr), H D = none → Tup f H as' (L.mergeSort (PySem.W.dataLe false fun p => PyData.tuple (g p))) → Q (.ref D) (upd H D (.lst (as'.map V.ref)))
theorem refs_of : ∀ {as : List Addr} {us : List Value}, Vals (as.map V.ref) us → us = as.map Value.ref
  | [], _, h => by
    cases h
    rfl
  | a :: as, _, h => by
    cases h with
    | cons h1 h2 =>
      have e1 : _ = Value.ref a := h1
      rw [e1, refs_of h2]
      rfl
theorem vals_refs : ∀ as : List Addr, Vals (as.map V.ref) (as.map Value.ref)
  | [] => .nil
  | a :: as => .cons rfl (vals_refs as)
theorem each_tup {α : Type} {f : α → List V} {H : Hp} : ∀ {as : List Addr} {L : List α}, Tup f H as L → PySem.W.EachIs (fun (v : Value) (p : α) => ∃ t, v = .ref t ∧ H t = some (.tup (f p))) (as.map Value.ref) L
  | [], [], _ => .nil
  | [], p :: L, h => by have := h.1; simp at this
  | a :: as, [], h => by have := h.1; simp at this
  | a :: as, p :: L, h => .cons ⟨a, rfl, h.2 0 a p rfl rfl⟩ (each_tup ⟨by simpa using h.1, fun j b q h1 h2 => h.2 (j + 1) b q h1 h2⟩)
theorem tup_each {α : Type} {f : α → List V} {H : Hp} : ∀ {us : List Value} {L : List α}, PySem.W.EachIs (fun (v : Value) (p : α) => ∃ t, v = .ref t ∧ H t = some (.tup (f p))) us L → ∃ as, us = as.map Value.ref ∧ Tup f H as L
  | [], [], _ => ⟨[], rfl, Tup.nil⟩
  | u :: us, p :: L, h => by
    cases h with
    | cons h1 h2 =>
      obtain ⟨t, rfl, ht⟩ := h1
      obtain ⟨as, rfl, hT⟩ := tup_each h2
      refine ⟨t :: as, rfl, by rw [List.length_cons, List.length_cons, hT.1], fun j b q k1 k2 => ?_⟩
      cases j with
      | zero =>
        have e1 : t = b := Option.some.inj k1
        have e2 : p = q := Option.some.inj k2
        subst e1 e2
        exact ht
      | succ j => exact hT.2 j b q k1 k2
theorem cr_sortD {X : Cx} (hu : X.A.units + 64 < cLine) : CallR X (.builtin "sorted") (rSortD X.K) := by
  intro pins s σ H vs us Q I r h
  obtain ⟨α, a, as, L, f, g, rfl, hs, hT, hg, hal, hne, hdep, q⟩ := h
  obtain ⟨its, rv, hl, hz⟩ := I.list hs
  obtain ⟨u, rfl, ru⟩ := vals1 r
  obtain rfl : u = Value.ref a := ru
  obtain rfl := refs_of rv
  have eR := each_tup hT
  have hlen : L.length ≤ sizeLine := by
    rw [← hT.1]
    rw [List.length_map] at hz
    exact hz
  refine PySem.W.sorted_data (enc := fun p => PyData.tuple (g p)) hl.isList eR (eR.mono fun v p h => ?_) hal (.inl fun d hd => ?_) hlen (fun p hp => ?_) fun out ho hout => ?_
  · obtain ⟨t, rfl, ht⟩ := h
    exact Dp.reads I (.tuple (g p)) (.ref t) (.ref t) (.tup (SqT.of ht) (hg p)) rfl
  · obtain ⟨p, hp, rfl⟩ := List.mem_map.mp hd
    cases hgp : g p with
    | nil => exact absurd hgp (hne p hp)
    | cons x xs => exact ⟨x, xs, rfl⟩
  · have := hdep p hp
    show X.A.units + 2 + (PyData.tuple (g p)).depth < cLine
    omega
  · obtain ⟨as', rfl, hT'⟩ := tup_each hout
    obtain ⟨e, he⟩ := PyProof.Rows.sortedAll_at s.heap (as.map Value.ref) (as'.map Value.ref).toArray
    have hD : H (s.heap.objs.size + 1) = none := I.hok.fresh (Nat.le_succ _)
    have new : ObjOk X.prog X.w (upd H (s.heap.objs.size + 1) (.lst (as'.map V.ref))) (PyProof.Rows.sortedAll s.heap (as.map Value.ref) (as'.map Value.ref).toArray) (s.heap.objs.size + 1) (.lst (as'.map V.ref)) :=
      ⟨by rw [List.length_map, hT'.1, List.length_mergeSort]; exact hlen, as'.map Value.ref, e, vals_refs as', he⟩
    exact ⟨.ref (s.heap.objs.size + 1), _, I.laid (t' := s.toks) (fun b o z => PyProof.Rows.sortedAll_old z) (Nat.le_succ _) new, rfl, q _ as' hD hT'⟩
end Sr

namespace Sr
open PySem PySem.Spec PyProof.Rows L2
/-! ### all ripe stretches of all lanes -/
open Classical in
noncomputable def ripL (s : Nat → Int) (n : Nat) : List (Nat × Nat) := if h : ∃ L, RL s n L then h.choose else []
theorem ripL_eq {s : Nat → Int} {n : Nat} {L : List (Nat × Nat)} (h : RL s n L) : ripL s n = L := by
  have h' : ∃ L, RL s n L := ⟨L, h⟩
  unfold ripL
  rw [dif_pos h']
  exact h'.choose_spec.unique h
abbrev Tri := Int × Int × Int
/-- the stretches of a lane that are worth told at least -/
noncomputable def rchL (g l told : Int) (o t : List Nat) (d : Int) : List Tri :=
  ((ripL (lev g l (likL o t d)) (likL o t d).length).filter fun p => decide (told ≤ lev g l (likL o t d) p.2 - lev g l (likL o t d) p.1)).map fun p => (d, ((bgn d + p.1 : Nat) : Int), ((bgn d + p.2 : Nat) : Int))
noncomputable def rchN (g l told : Int) (o t : List Nat) (d0 : Int) (n : Nat) : List Tri := (List.range n).flatMap fun k : Nat => rchL g l told o t (d0 + (k : Int))
def nsh (o t : List Nat) : Nat := ((t.length : Int) - (1 - (o.length : Int))).toNat
noncomputable def rchA (g l told : Int) (o t : List Nat) : List Tri := rchN g l told o t (1 - (o.length : Int)) (nsh o t)
theorem rchN_succ (g l told : Int) (o t : List Nat) (d0 : Int) (n : Nat) : rchN g l told o t d0 (n + 1) = rchN g l told o t d0 n ++ rchL g l told o t (d0 + (n : Int)) := by
  unfold rchN
  rw [List.range_succ, List.flatMap_append]
  simp
theorem rchN_cons (g l told : Int) (o t : List Nat) (d0 : Int) (n : Nat) : rchN g l told o t d0 (n + 1) = rchL g l told o t d0 ++ rchN g l told o t (d0 + 1) n := by
  unfold rchN
  rw [List.range_succ_eq_map, List.flatMap_cons, List.flatMap_map]
  congr 1
  · congr 1
    omega
  · congr 1
    funext k
    congr 1
    simp
    omega
theorem rchL_out (g l told : Int) (o t : List Nat) {d : Int} (h : likL o t d = []) : rchL g l told o t d = [] := by
  unfold rchL
  rw [h]
  have e : ripL (lev g l []) ([] : List Nat).length = [] := ripL_eq (RL.zero _)
  rw [e]
  rfl
theorem lik_out {o t : List Nat} {d : Int} (h : lkn o.length t.length d = 0) : likL o t d = [] := by
  have := likL_len o t d
  rw [h] at this
  exact List.length_eq_zero_iff.mp this
/-- two lanes more, at the ends, tell nothing -/
theorem rchA_wide (g l told : Int) (o t : List Nat) : rchN g l told o t (0 - (o.length : Int)) (((t.length : Int) + 1 - (0 - (o.length : Int))).toNat) = rchA g l told o t := by
  have e1 : ((t.length : Int) + 1 - (0 - (o.length : Int))).toNat = t.length + o.length + 1 := by omega
  rw [e1, rchN_cons, rchL_out g l told o t (lik_out (by unfold lkn bgn; omega)), List.nil_append]
  have e2 : (0 : Int) - (o.length : Int) + 1 = 1 - (o.length : Int) := by omega
  rw [e2]
  unfold rchA nsh
  by_cases h : t.length + o.length = 0
  · have e3 : ((t.length : Int) - (1 - (o.length : Int))).toNat = 0 := by omega
    rw [e3, h]
  · have e3 : t.length + o.length = ((t.length : Int) - (1 - (o.length : Int))).toNat + 1 := by omega
    rw [e3, rchN_succ, rchL_out g l told o t (lik_out (by unfold lkn bgn; omega)), List.append_nil]
/-- the order of triples -/
def TLt (p q : Tri) : Prop := p.1 < q.1 ∨ (p.1 = q.1 ∧ p.2.1 < q.2.1)
theorem rchL_mem {g l told : Int} {o t : List Nat} {d : Int} {p : Tri} (h : p ∈ rchL g l told o t d) : p.1 = d := by
  unfold rchL at h
  obtain ⟨q, _, rfl⟩ := List.mem_map.mp h
  rfl
theorem ripL_lt (s : Nat → Int) (n : Nat) : (ripL s n).Pairwise (fun p q => p.1 < q.1) := by
  unfold ripL
  split
  · rename_i h
    exact h.choose_spec.lt
  · exact .nil
theorem rchL_lt (g l told : Int) (o t : List Nat) (d : Int) : (rchL g l told o t d).Pairwise TLt := by
  unfold rchL
  rw [List.pairwise_map]
  refine ((ripL_lt _ _).filter _).imp fun {p q} h => ?_
  right
  exact ⟨rfl, by show ((bgn d + p.1 : Nat) : Int) < ((bgn d + q.1 : Nat) : Int); omega⟩
theorem rchN_lt (g l told : Int) (o t : List Nat) (d0 : Int) : ∀ n, (rchN g l told o t d0 n).Pairwise TLt ∧ ∀ p ∈ rchN g l told o t d0 n, p.1 < d0 + (n : Int)
  | 0 => ⟨(show ([] : List Tri).Pairwise TLt from .nil), fun p h => by
    have h' : p ∈ ([] : List Tri) := h
    cases h'⟩
  | n + 1 => by
    obtain ⟨h1, h2⟩ := rchN_lt g l told o t d0 n
    rw [rchN_succ]
    refine ⟨?_, fun p hp => ?_⟩
    · rw [List.pairwise_append]
      refine ⟨h1, rchL_lt g l told o t _, fun p hp q hq => ?_⟩
      left
      rw [rchL_mem hq]
      exact h2 p hp
    · rcases List.mem_append.mp hp with z | z
      · have := h2 p z
        omega
      · rw [rchL_mem z]
        omega
theorem rchN_mem {g l told : Int} {o t : List Nat} {d0 : Int} {n : Nat} {p : Tri} : p ∈ rchN g l told o t d0 n ↔ ∃ k : Nat, k < n ∧ p ∈ rchL g l told o t (d0 + (k : Int)) := by
  unfold rchN
  rw [List.mem_flatMap]
  constructor
  · rintro ⟨k, h1, h2⟩
    exact ⟨k, List.mem_range.mp h1, h2⟩
  · rintro ⟨k, h1, h2⟩
    exact ⟨k, List.mem_range.mpr h1, h2⟩
/-- the other way round -/
def turn (p : Tri) : Tri := (0 - p.1, p.2.1 + p.1, p.2.2 + p.1)
theorem lik_turn (o t : List Nat) (d : Int) : likL t o (0 - d) = likL o t d := by
  rw [likL_eq, likL_eq]
  have e : lkn t.length o.length (0 - d) = lkn o.length t.length d := by unfold lkn bgn; omega
  rw [e]
  refine List.map_congr_left fun k hk => ?_
  have hk' := List.mem_range.mp hk
  unfold lk1
  have e1 : (((bgn (0 - d) + k : Nat) : Int) + (0 - d)).toNat = bgn d + k := by unfold bgn; omega
  have e2 : (((bgn d + k : Nat) : Int) + d).toNat = bgn (0 - d) + k := by unfold bgn; omega
  rw [e1, e2]
  by_cases h : t[bgn (0 - d) + k]? = o[bgn d + k]?
  · rw [if_pos h, if_pos h.symm]
  · rw [if_neg h, if_neg fun q => h q.symm]
theorem rchL_turn (g l told : Int) (o t : List Nat) (d : Int) : rchL g l told t o (0 - d) = (rchL g l told o t d).map turn := by
  unfold rchL
  rw [lik_turn, List.map_map]
  refine List.map_congr_left fun p _ => ?_
  show ((0 - d : Int), ((bgn (0 - d) + p.1 : Nat) : Int), ((bgn (0 - d) + p.2 : Nat) : Int)) = turn (d, ((bgn d + p.1 : Nat) : Int), ((bgn d + p.2 : Nat) : Int))
  unfold turn bgn
  simp only [Prod.mk.injEq, true_and]
  omega
theorem rchA_turn (g l told : Int) (o t : List Nat) (p : Tri) : p ∈ rchA g l told t o ↔ p ∈ (rchA g l told o t).map turn := by
  unfold rchA
  rw [rchN_mem, List.mem_map]
  have en : nsh t o = nsh o t := by unfold nsh; omega
  constructor
  · rintro ⟨k, hk, h⟩
    rw [en] at hk
    have e : 1 - (t.length : Int) + (k : Int) = 0 - (1 - (o.length : Int) + ((nsh o t - 1 - k : Nat) : Int)) := by unfold nsh at hk ⊢; omega
    rw [e, rchL_turn] at h
    obtain ⟨q, hq, rfl⟩ := List.mem_map.mp h
    exact ⟨q, rchN_mem.mpr ⟨nsh o t - 1 - k, by omega, hq⟩, rfl⟩
  · rintro ⟨q, hq, rfl⟩
    obtain ⟨k, hk, h⟩ := rchN_mem.mp hq
    have e : 1 - (t.length : Int) + ((nsh o t - 1 - k : Nat) : Int) = 0 - (1 - (o.length : Int) + (k : Int)) := by unfold nsh at hk ⊢; omega
    refine ⟨nsh o t - 1 - k, by rw [en]; omega, ?_⟩
    rw [e, rchL_turn]
    exact List.mem_map.mpr ⟨q, h, rfl⟩
theorem turn_inj {p q : Tri} (h : turn p = turn q) : p = q := by
  obtain ⟨a, b, c⟩ := p
  obtain ⟨a', b', c'⟩ := q
  unfold turn at h
  simp only [Prod.mk.injEq] at h ⊢
  omega
/-- lists that go up strictly and hold the same are one -/
theorem same_up {α : Type} {R : α → α → Prop} (asym : ∀ x y, R x y → ¬ R y x) : ∀ {L M : List α}, L.Pairwise R → M.Pairwise R → (∀ p, p ∈ L ↔ p ∈ M) → L = M
  | [], [], _, _, _ => rfl
  | [], q :: M, _, _, h => by
    have := (h q).mpr (List.mem_cons_self ..)
    cases this
  | p :: L, [], _, _, h => by
    have := (h p).mp (List.mem_cons_self ..)
    cases this
  | p :: L, q :: M, h1, h2, h => by
    rw [List.pairwise_cons] at h1 h2
    have e : p = q := by
      rcases List.mem_cons.mp ((h p).mp (List.mem_cons_self ..)) with z | z
      · exact z
      · rcases List.mem_cons.mp ((h q).mpr (List.mem_cons_self ..)) with z2 | z2
        · exact z2.symm
        · exact absurd (h1.1 q z2) (asym _ _ (h2.1 p z))
    subst e
    rw [same_up asym h1.2 h2.2 fun x => ⟨fun hx => ?_, fun hx => ?_⟩]
    · rcases List.mem_cons.mp ((h x).mp (List.mem_cons_of_mem _ hx)) with z | z
      · have := h1.1 x hx
        rw [z] at this
        exact absurd this (asym _ _ this)
      · exact z
    · rcases List.mem_cons.mp ((h x).mpr (List.mem_cons_of_mem _ hx)) with z | z
      · have := h2.1 x hx
        rw [z] at this
        exact absurd this (asym _ _ this)
      · exact z
def triV (p : Tri) : List V := [.int p.1, .int p.2.1, .int p.2.2]
def triI (p : Tri) : List Int := [p.1, p.2.1, p.2.2]
def triD (p : Tri) : List PyData := (triI p).map .int
theorem tri_dp {K : PySem.W.Frag} {H : Hp} (p : Tri) : DpAll K H (triV p) (triD p) := .cons (.int _) (.cons (.int _) (.cons (.int _) .nil))
/-- sorted of tuples of ints, by the ints' own order -/
theorem dataLe_ints {α : Type} (h : α → List Int) : PySem.W.dataLe false (fun p : α => PyData.tuple ((h p).map .int)) = fun p q => !decide (h q < h p) := by
  funext p q
  show (!PySem.W.dataLt (.tuple ((h q).map .int)) (.tuple ((h p).map .int))) = _
  rw [PySem.W.dataLt_tuple]
  show (!PySem.W.rowLt ((h q).map .int) ((h p).map .int)) = _
  rw [PySem.W.dataLt_ints]
end Sr
namespace Sr
open PySem PySem.Spec PyProof.Rows L2
/-! ### the law's own way to the ripe ones: by beginnings, longer ones ahead -/
theorem lex2 (a b c d : Int) : [a, b] < [c, d] ↔ a < c ∨ (a = c ∧ b < d) := by
  rw [List.cons_lt_cons_iff, List.cons_lt_cons_iff]
  simp
theorem lex3 (a b c a' b' c' : Int) : [a, b, c] < [a', b', c'] ↔ a < a' ∨ (a = a' ∧ (b < b' ∨ (b = b' ∧ c < c'))) := by
  rw [List.cons_lt_cons_iff, List.cons_lt_cons_iff, List.cons_lt_cons_iff]
  simp
def beI (p : Nat × Nat) : List Int := [(p.1 : Int), 0 - (p.2 : Int)]
def beV (p : Nat × Nat) : List V := [.int (p.1 : Nat), .int (0 - ((p.2 : Nat) : Int))]
def Ahd (p q : Nat × Nat) : Prop := p.1 < q.1 ∨ (p.1 = q.1 ∧ q.2 < p.2)
theorem le_total {α : Type} (h : α → List Int) : PySem.W.TotalLe (fun p q : α => !decide (h q < h p)) := by
  rw [← dataLe_ints h]
  exact PySem.W.sortLe_total _ _ _
theorem sorted_ahd {M : List (Nat × Nat)} (hn : M.Nodup) : (M.mergeSort fun p q => !decide (beI q < beI p)).Pairwise Ahd := by
  have h1 := PySem.W.sort_pairwise (le_total beI) M
  have h2 : (M.mergeSort fun p q => !decide (beI q < beI p)).Nodup := (List.mergeSort_perm M _).nodup_iff.mpr hn
  have h3 := h1.and h2
  refine h3.imp fun {p q} h => ?_
  obtain ⟨h4, h5⟩ := h
  have h6 : ¬ (beI q < beI p) := by simpa using h4
  unfold beI at h6
  rw [lex2] at h6
  unfold Ahd
  by_cases hz : p.1 = q.1
  · have : p.2 ≠ q.2 := fun e => h5 (Prod.ext hz e)
    omega
  · omega
structure GI (s : Nat → Int) (n : Nat) (P F : List (Nat × Nat)) (last : Nat) : Prop where
  ripe : ∀ p ∈ F, Ripe s n p.1 p.2
  all : ∀ p ∈ P, Ripe s n p.1 p.2 → p ∈ F
  lt : F.Pairwise (fun p q => p.1 ≤ q.1 ∧ p ≠ q)
  sub : ∀ p ∈ F, p ∈ P
  top : ∀ p ∈ P, p.2 ≤ last
  end_ : last = 0 ∨ ∃ p ∈ F, p.2 = last
theorem GI.zero (s : Nat → Int) (n : Nat) : GI s n [] [] 0 := ⟨(fun p h => nomatch h), (fun p h => nomatch h), .nil, (fun p h => nomatch h), (fun p h => nomatch h), .inl rfl⟩
theorem GI.yes {s : Nat → Int} {n last : Nat} {P F R : List (Nat × Nat)} {p : Nat × Nat} (h : GI s n P F last) (hS : (P ++ p :: R).Pairwise Ahd) (hall : ∀ b e, St s b e → e ≤ n → (b, e) ∈ P ++ p :: R) (hst : St s p.1 p.2 ∧ p.2 ≤ n) (hl : last < p.2) :
    GI s n (P ++ [p]) (F ++ [p]) p.2 := by
  rw [List.pairwise_append, List.pairwise_cons] at hS
  obtain ⟨h1, ⟨h2, h3⟩, h4⟩ := hS
  have hr : Ripe s n p.1 p.2 := ⟨hst.1, hst.2, fun b' e' st he hb hi => by
    rcases List.mem_append.mp (hall b' e' st he) with z | z
    · have := h.top _ z
      simp only at this
      omega
    · rcases List.mem_cons.mp z with z | z
      · exact ⟨congrArg Prod.fst z, congrArg Prod.snd z⟩
      · have := h2 _ z
        unfold Ahd at this
        simp only at this
        omega⟩
  refine ⟨fun q hq => ?_, fun q hq r => ?_, ?_, fun q hq => ?_, fun q hq => ?_, .inr ⟨p, by simp, rfl⟩⟩
  · rcases List.mem_append.mp hq with z | z
    · exact h.ripe q z
    · rw [List.mem_singleton.mp z]
      exact hr
  · rcases List.mem_append.mp hq with z | z
    · exact List.mem_append.mpr (.inl (h.all q z r))
    · rw [List.mem_singleton.mp z]
      simp
  · rw [List.pairwise_append]
    refine ⟨h.lt, by simp, fun q hq q' hq' => ?_⟩
    rw [List.mem_singleton.mp hq']
    have := h4 q (h.sub q hq) p (List.mem_cons_self ..)
    unfold Ahd at this
    refine ⟨by omega, fun e => ?_⟩
    subst e
    omega
  · rcases List.mem_append.mp hq with z | z
    · exact List.mem_append.mpr (.inl (h.sub q z))
    · exact List.mem_append.mpr (.inr z)
  · rcases List.mem_append.mp hq with z | z
    · have := h.top q z
      omega
    · rw [List.mem_singleton.mp z]
      exact Nat.le_refl _
theorem GI.no {s : Nat → Int} {n last : Nat} {P F R : List (Nat × Nat)} {p : Nat × Nat} (h : GI s n P F last) (hS : (P ++ p :: R).Pairwise Ahd) (hst : St s p.1 p.2) (hl : ¬ last < p.2) : GI s n (P ++ [p]) F last := by
  rw [List.pairwise_append, List.pairwise_cons] at hS
  obtain ⟨h1, ⟨h2, h3⟩, h4⟩ := hS
  refine ⟨h.ripe, fun q hq r => ?_, h.lt, fun q hq => List.mem_append.mpr (.inl (h.sub q hq)), fun q hq => ?_, h.end_⟩
  · rcases List.mem_append.mp hq with z | z
    · exact h.all q z r
    · have e := List.mem_singleton.mp z
      subst e
      have := hst.1
      rcases h.end_ with k | ⟨u, hu, k⟩
      · omega
      · have ha := h4 u (h.sub u hu) q (List.mem_cons_self ..)
        unfold Ahd at ha
        have ru := h.ripe u hu
        have := r.2.2 u.1 u.2 ru.1 ru.2.1 (by omega) (by omega)
        omega
  · rcases List.mem_append.mp hq with z | z
    · exact h.top q z
    · rw [List.mem_singleton.mp z]
      omega
theorem GI.done {s : Nat → Int} {n last : Nat} {P F : List (Nat × Nat)} (h : GI s n P F last) (hall : ∀ b e, St s b e → e ≤ n → (b, e) ∈ P) : RL s n F :=
  RL.of_lt h.ripe (fun b e r => h.all (b, e) (hall b e r.1 r.2.1) r) h.lt
theorem Lex_nodup {M : List (Nat × Nat)} (h : M.Pairwise Lex) : M.Nodup := h.imp fun {p q} hpq e => by
  subst e
  rcases hpq with z | z <;> omega
end Sr
namespace Sr
open PySem PySem.Spec PyProof.Rows L2
theorem alike_ints : ∀ xs ys : List Int, PySem.W.alikeAll (xs.map .int) (ys.map .int) = true
  | [], _ => by simp [PySem.W.alikeAll]
  | x :: xs, [] => by simp [PySem.W.alikeAll]
  | x :: xs, y :: ys => by
    have h := alike_ints xs ys
    simp [PySem.W.alikeAll, PySem.W.alike] at h ⊢
    exact h
theorem allAlike_ints {α : Type} (h : α → List Int) (L : List α) : PySem.W.AllAlike (L.map fun p => PyData.tuple ((h p).map .int)) := by
  intro d hd d' hd'
  obtain ⟨p, _, rfl⟩ := List.mem_map.mp hd
  obtain ⟨q, _, rfl⟩ := List.mem_map.mp hd'
  show PySem.W.alikeAll _ _ = true
  exact alike_ints _ _
theorem depth_tup_ints (xs : List Int) : (PyData.tuple (xs.map .int)).depth ≤ 2 := by
  have h := depth_ints xs
  simp only [PyData.depth]
  omega
theorem plc_first {m n : Nat} {d : Int} (h : 0 < lkn m n d) : (plc m n d)[0]?.getD 0 = bgn d := by
  rw [plc_eq]
  obtain ⟨k, hk⟩ : ∃ k, lkn m n d = k + 1 := ⟨lkn m n d - 1, by omega⟩
  rw [hk, List.range_succ_eq_map]
  simp
theorem rchL_len (g l told : Int) (o t : List Nat) (d : Int) : (rchL g l told o t d).length ≤ o.length := by
  unfold rchL
  rw [List.length_map]
  refine Nat.le_trans (List.length_filter_le _ _) ?_
  unfold ripL
  split
  · rename_i h
    exact Nat.le_trans h.choose_spec.len (likL_le o t d)
  · exact Nat.zero_le _
theorem rchN_len (g l told : Int) (o t : List Nat) (d0 : Int) : ∀ n, (rchN g l told o t d0 n).length ≤ n * o.length
  | 0 => Nat.zero_le _
  | n + 1 => by
    rw [rchN_succ, List.length_append, Nat.succ_mul]
    have h1 := rchN_len g l told o t d0 n
    have h2 := rchL_len g l told o t (d0 + (n : Int))
    omega
/-- the part of a lane's list that the first j of its ripe ones make -/
def rchP (g l told : Int) (o t : List Nat) (d : Int) (M : List (Nat × Nat)) : List Tri :=
  (M.filter fun p => decide (told ≤ lev g l (likL o t d) p.2 - lev g l (likL o t d) p.1)).map fun p => (d, ((bgn d + p.1 : Nat) : Int), ((bgn d + p.2 : Nat) : Int))
theorem rchP_all {g l told : Int} {o t : List Nat} {d : Int} {L : List (Nat × Nat)} (h : RL (lev g l (likL o t d)) (likL o t d).length L) : rchP g l told o t d L = rchL g l told o t d := by
  unfold rchP rchL
  rw [ripL_eq h]
theorem rchP_snoc (g l told : Int) (o t : List Nat) (d : Int) (M : List (Nat × Nat)) (p : Nat × Nat) :
    rchP g l told o t d (M ++ [p]) = rchP g l told o t d M ++ if told ≤ lev g l (likL o t d) p.2 - lev g l (likL o t d) p.1 then [(d, ((bgn d + p.1 : Nat) : Int), ((bgn d + p.2 : Nat) : Int))] else [] := by
  unfold rchP
  rw [List.filter_append, List.map_append, List.filter_cons]
  by_cases h : told ≤ lev g l (likL o t d) p.2 - lev g l (likL o t d) p.1
  · rw [if_pos h, if_pos (decide_eq_true h)]
    rfl
  · rw [if_neg h, if_neg (by rw [decide_eq_false h]; exact Bool.false_ne_true)]
    rfl
theorem rchP_len (g l told : Int) (o t : List Nat) (d : Int) (M : List (Nat × Nat)) : (rchP g l told o t d M).length ≤ M.length := by
  unfold rchP
  rw [List.length_map]
  exact List.length_filter_le _ _
theorem Gd_tris (L : List Tri) (h : L.length ≤ 100000) : Gd (.list (L.map fun p => PyData.tuple (triD p))) := by
  refine .lst _ (by rw [List.length_map]; exact h) fun d hd => ?_
  obtain ⟨p, _, rfl⟩ := List.mem_map.mp hd
  refine .tup _ (by show 3 ≤ 100000; omega) fun e he => ?_
  obtain ⟨i, _, rfl⟩ := List.mem_map.mp he
  exact .int i
theorem depth_tris (L : List Tri) : PyData.depthAll (L.map fun p => PyData.tuple (triD p)) ≤ 2 := by
  induction L with
  | nil => simp [PyData.depthAll]
  | cons p L ih =>
    have h := depth_tup_ints (triI p)
    rw [List.map_cons, PyData.depthAll]
    exact Nat.max_le.mpr ⟨h, ih⟩
theorem lay_tris : ∀ L : List Tri, PyData.canLayAll0 (L.map fun p => PyData.tuple (triD p)) = true
  | [] => by simp [PyData.canLayAll0]
  | p :: L => by
    have h1 := lay_tris L
    have h2 := lay_ints (triI p)
    rw [List.map_cons]
    simp only [PyData.canLayAll0, PyData.canLay0, Bool.and_eq_true]
    exact ⟨h2, h1⟩
theorem shaped_tris (L : List Tri) : SeqAt.shaped (.list (L.map fun p => PyData.tuple (triD p))) = true := by
  unfold SeqAt.shaped
  rw [Bool.and_eq_true]
  refine ⟨lay_tris L, decide_eq_true ?_⟩
  have h := depth_tris L
  simp only [PyData.depth]
  omega
theorem eqv_tris (L : List Tri) : PyData.eqv (.list (L.map fun p => PyData.tuple (triD p))) (.list (L.map fun p => PyData.tuple (triD p))) = true := SeqAt.eqv_refl _ (lay_tris L)
end Sr
namespace Sr
open PySem PySem.Spec PyProof.Rows L2
/-! ### one lane's, each with its worth -/
def lrP (g l told : Int) (o t : List Nat) (d : Int) (M : List (Nat × Nat)) : List Tri :=
  (M.filter fun p => decide (told ≤ lev g l (likL o t d) p.2 - lev g l (likL o t d) p.1)).map fun p => (((bgn d + p.1 : Nat) : Int), ((bgn d + p.2 : Nat) : Int), lev g l (likL o t d) p.2 - lev g l (likL o t d) p.1)
noncomputable def lrL (g l told : Int) (o t : List Nat) (d : Int) : List Tri := lrP g l told o t d (ripL (lev g l (likL o t d)) (likL o t d).length)
theorem lrP_all {g l told : Int} {o t : List Nat} {d : Int} {L : List (Nat × Nat)} (h : RL (lev g l (likL o t d)) (likL o t d).length L) : lrP g l told o t d L = lrL g l told o t d := by
  unfold lrL
  rw [ripL_eq h]
theorem lrP_snoc (g l told : Int) (o t : List Nat) (d : Int) (M : List (Nat × Nat)) (p : Nat × Nat) :
    lrP g l told o t d (M ++ [p]) = lrP g l told o t d M ++ if told ≤ lev g l (likL o t d) p.2 - lev g l (likL o t d) p.1 then [(((bgn d + p.1 : Nat) : Int), ((bgn d + p.2 : Nat) : Int), lev g l (likL o t d) p.2 - lev g l (likL o t d) p.1)] else [] := by
  unfold lrP
  rw [List.filter_append, List.map_append]
  congr 1
  rw [List.filter_cons, List.filter_nil]
  by_cases h : told ≤ lev g l (likL o t d) p.2 - lev g l (likL o t d) p.1
  · rw [if_pos (decide_eq_true h), if_pos h]
    rfl
  · rw [if_neg (by simpa using h), if_neg h]
    rfl
theorem lrP_len (g l told : Int) (o t : List Nat) (d : Int) (M : List (Nat × Nat)) : (lrP g l told o t d M).length ≤ M.length := by
  unfold lrP
  rw [List.length_map]
  exact List.length_filter_le _ _
theorem rchL_lr (g l told : Int) (o t : List Nat) (d : Int) : rchL g l told o t d = (lrL g l told o t d).map fun q => (d, q.1, q.2.1) := by
  unfold rchL lrL lrP
  rw [List.map_map]
  rfl
theorem lrL_len (g l told : Int) (o t : List Nat) (d : Int) : (lrL g l told o t d).length ≤ o.length := by
  have h := rchL_len g l told o t d
  rw [rchL_lr, List.length_map] at h
  exact h
end Sr

namespace Sr
open PySem PySem.Spec PyProof.Rows L2
/-! ### texts in which no seed fits; what bar tells -/
def Free (sds : List (List Nat)) (z : List Nat) : Prop := seededB sds z = false
def Ones (sds : List (List Nat)) : Prop := ∀ sd ∈ sds, 1 ≤ sd.length
theorem free_iff {sds : List (List Nat)} {z : List Nat} (h1 : Ones sds) : Free sds z ↔ ∀ sd ∈ sds, ∀ p : Nat, p + sd.length ≤ z.length → ∃ k, k < sd.length ∧ sd[k]? = some 35 ∧ z[p + k]? = some 47 := by
  unfold Free seededB
  constructor
  · intro h sd hsd p hp
    rw [List.any_eq_false] at h
    have h2 := h sd hsd
    rw [List.any_eq_true] at h2
    have h3 : ¬ fitsB sd z (p : Int) = true := fun h4 => h2 ⟨p, List.mem_range.mpr (by have := h1 sd hsd; omega), h4⟩
    rw [fitsB_iff (h1 sd hsd)] at h3
    refine Classical.byContradiction fun hn => h3 ⟨by omega, by omega, fun k hk hc => hn ⟨k, hk, hc.1, ?_⟩⟩
    have : ((p : Nat) : Int).toNat = p := by omega
    rw [this] at hc
    exact hc.2
  · intro h
    rw [List.any_eq_false]
    intro sd hsd h2
    obtain ⟨p, _, h4⟩ := List.any_eq_true.mp h2
    obtain ⟨_, h5, h6⟩ := (fitsB_iff (h1 sd hsd)).mp h4
    have e : ((p : Nat) : Int).toNat = p := by omega
    rw [e] at h6
    obtain ⟨k, hk, e1, e2⟩ := h sd hsd p (by omega)
    exact h6 k hk ⟨e1, e2⟩
theorem Free.mid {sds : List (List Nat)} (h1 : Ones sds) {a b c : List Nat} (h : Free sds (a ++ b ++ c)) : Free sds b := by
  rw [free_iff h1] at h ⊢
  intro sd hsd p hp
  obtain ⟨k, hk, e1, e2⟩ := h sd hsd (a.length + p) (by simp only [List.length_append]; omega)
  refine ⟨k, hk, e1, ?_⟩
  rw [List.getElem?_append_left (by simp only [List.length_append]; omega), List.getElem?_append_right (by omega)] at e2
  rw [← e2]
  congr 1
  omega
theorem Free.tail {sds : List (List Nat)} (h1 : Ones sds) {c : Nat} {z : List Nat} (h : Free sds (c :: z)) : Free sds z :=
  Free.mid h1 (a := [c]) (c := []) (by simpa using h)
def rp (r : List Nat) (k : Nat) : List Nat := (List.replicate k r).flatten
theorem rp_succ (r : List Nat) (k : Nat) : rp r (k + 1) = r ++ rp r k := by
  unfold rp
  rw [List.replicate_succ, List.flatten_cons]
theorem rp_get (r : List Nat) : ∀ (k i : Nat), i < k * r.length → (rp r k)[i]? = r[i % r.length]?
  | 0, i, h => by omega
  | k + 1, i, h => by
    rw [rp_succ]
    by_cases hi : i < r.length
    · rw [List.getElem?_append_left hi, Nat.mod_eq_of_lt hi]
    · rw [List.getElem?_append_right (by omega), rp_get r k (i - r.length) (by rw [Nat.succ_mul] at h; omega), show i % r.length = (i - r.length) % r.length from Nat.mod_eq_sub_mod (by omega)]
theorem rp_len (r : List Nat) (k : Nat) : (rp r k).length = k * r.length := rep_le r k
theorem wor_rp (g l : Int) (r : List Nat) : ∀ k : Nat, wor g l (rp r k) = k * wor g l r
  | 0 => by simp [rp, wor]
  | k + 1 => by
    rw [rp_succ, wor_app, wor_rp g l r k]
    rw [Int.natCast_add, Int.add_mul]
    omega
theorem Lk.app {a b : List Nat} (ha : Lk a) (hb : Lk b) : Lk (a ++ b) := fun c hc => (List.mem_append.mp hc).elim (ha c) (hb c)
theorem Lk.rp {r : List Nat} (hr : Lk r) : ∀ k, Lk (rp r k)
  | 0 => fun c hc => by simp [Sr.rp] at hc
  | k + 1 => by
    rw [rp_succ]
    exact hr.app (Lk.rp hr k)
theorem Lk.rep (n c : Nat) (hc : c = 61 ∨ c = 47) : Lk (List.replicate n c) := fun x hx => by
  rw [List.eq_of_mem_replicate hx]
  exact hc
/-- = ahead of / -/
def lexB : List Nat → List Nat → Bool
  | [], _ => true
  | _ :: _, [] => false
  | c :: a, d :: b => decide (d < c) || (decide (c = d) && lexB a b)
theorem lexB_refl : ∀ a : List Nat, lexB a a = true
  | [] => rfl
  | c :: a => by simp [lexB, lexB_refl a]
theorem lexB_anti : ∀ {a b : List Nat}, a.length = b.length → lexB a b = true → lexB b a = true → a = b
  | [], [], _, _, _ => rfl
  | [], _ :: _, h, _, _ => by simp at h
  | _ :: _, [], h, _, _ => by simp at h
  | c :: a, d :: b, h, h1, h2 => by
    simp only [lexB, Bool.or_eq_true, Bool.and_eq_true, decide_eq_true_eq] at h1 h2
    rcases h1 with h1 | ⟨e, h1⟩
    · rcases h2 with h2 | ⟨e2, _⟩ <;> omega
    · subst e
      rcases h2 with h2 | ⟨_, h2⟩
      · omega
      · rw [lexB_anti (by simpa using h) h1 h2]
def Sle (a b : List Nat) : Prop := a.length < b.length ∨ (a.length = b.length ∧ lexB a b = true)
theorem Sle.anti {a b : List Nat} (h1 : Sle a b) (h2 : Sle b a) : a = b := by
  rcases h1 with h1 | ⟨e, h1⟩
  · rcases h2 with h2 | ⟨e2, _⟩ <;> omega
  · rcases h2 with h2 | ⟨_, h2⟩
    · omega
    · exact lexB_anti e h1 h2
inductive BarR where
  | bar (w : Int) (z : List Nat)
  | ring (a r : List Nat)
structure IsBar (sds : List (List Nat)) (g l w : Int) (z : List Nat) : Prop where
  lk : Lk z
  free : Free sds z
  is : wor g l z = w
  max : ∀ z', Lk z' → Free sds z' → wor g l z' ≤ w
  first : ∀ z', Lk z' → Free sds z' → wor g l z' = w → Sle z z'
  len : z.length ≤ 1000
structure IsRing (sds : List (List Nat)) (g l : Int) (a r : List Nat) : Prop where
  lka : Lk a
  lkr : Lk r
  free : ∀ k, Free sds (a ++ rp r k)
  pos : 0 < wor g l r
  lena : a.length ≤ 1000
  lenr : r.length ≤ 1000
def BarOk (sds : List (List Nat)) (g l : Int) : BarR → Prop
  | .bar w z => IsBar sds g l w z
  | .ring a r => IsRing sds g l a r
theorem IsBar.uniq {sds : List (List Nat)} {g l w w' : Int} {z z' : List Nat} (h : IsBar sds g l w z) (h' : IsBar sds g l w' z') : w = w' ∧ z = z' := by
  have e1 := h.max z' h'.lk h'.free
  have e2 := h'.max z h.lk h.free
  rw [h'.is] at e1
  rw [h.is] at e2
  have e : w = w' := by omega
  subst e
  exact ⟨rfl, (h.first z' h'.lk h'.free h'.is).anti (h'.first z h.lk h.free h.is)⟩
/-- worths of the texts in which no seed fits grow without end -/
def Grows (sds : List (List Nat)) (g l : Int) : Prop := ∀ B : Nat, ∃ z, Lk z ∧ Free sds z ∧ (B : Int) < wor g l z
theorem IsRing.grows {sds : List (List Nat)} {g l : Int} {a r : List Nat} (h : IsRing sds g l a r) : Grows sds g l := fun B => by
  refine ⟨a ++ rp r (B + (-(wor g l a)).toNat + 1), h.lka.app (h.lkr.rp _), h.free _, ?_⟩
  rw [wor_app, wor_rp]
  have h1 := h.pos
  have h2 : ((B + (-(wor g l a)).toNat + 1 : Nat) : Int) * 1 ≤ ((B + (-(wor g l a)).toNat + 1 : Nat) : Int) * wor g l r := Int.mul_le_mul_of_nonneg_left (by omega) (by omega)
  omega
theorem IsBar.stops {sds : List (List Nat)} {g l w : Int} {z : List Nat} (h : IsBar sds g l w z) : ¬ Grows sds g l := fun hg => by
  obtain ⟨z', h1, h2, h3⟩ := hg w.toNat
  have := h.max z' h1 h2
  omega
/-! ### bars known by hand -/
def ones (m : Nat) : List Nat := List.replicate m 35
def gaps (m : Nat) : List Nat := 35 :: (List.replicate (m - 2) 45 ++ [35])
structure HB (sds : List (List Nat)) (r0 r1 : Int) (b : Nat) : Prop where
  bound : ∀ g l : Int, 1 ≤ g → 1 ≤ l → r0 * g - r1 * l ≤ 0 → ∀ z, Lk z → Free sds z → wor g l z ≤ g * (b : Nat)
  own : Free sds (List.replicate b 61)
  grow : ∀ g l : Int, 1 ≤ g → 1 ≤ l → 0 < r0 * g - r1 * l → Grows sds g l
theorem wor_rep61 (g l : Int) : ∀ n : Nat, wor g l (List.replicate n 61) = g * (n : Nat)
  | 0 => by simp [wor]
  | n + 1 => by
    rw [List.replicate_succ]
    show (if (61 : Nat) = 61 then g else -l) + wor g l (List.replicate n 61) = _
    rw [wor_rep61 g l n, if_pos rfl, Int.natCast_add, Int.mul_add]
    omega
theorem wor_rep47 (g l : Int) : ∀ n : Nat, wor g l (List.replicate n 47) = -(l * (n : Nat))
  | 0 => by simp [wor]
  | n + 1 => by
    rw [List.replicate_succ]
    show (if (47 : Nat) = 61 then g else -l) + wor g l (List.replicate n 47) = _
    rw [wor_rep47 g l n, if_neg (by decide), Int.natCast_add, Int.mul_add]
    omega
theorem wor_le_count (g l : Int) (hg : 1 ≤ g) (hl : 1 ≤ l) : ∀ z : List Nat, Lk z → wor g l z ≤ g * ((z.count 61 : Nat) : Int) := fun z hz => by
  have := wor_count g l hz
  have h0 : 0 ≤ l * ((z.count 47 : Nat) : Int) := Int.mul_nonneg (by omega) (by omega)
  omega
theorem HB.best {sds : List (List Nat)} {r0 r1 : Int} {b : Nat} (h : HB sds r0 r1 b) {g l : Int} (hg : 1 ≤ g) (hl : 1 ≤ l) (hr : r0 * g - r1 * l ≤ 0) (hb : b ≤ 1000) : IsBar sds g l (g * (b : Nat)) (List.replicate b 61) := by
  refine ⟨Lk.rep _ _ (.inl rfl), h.own, wor_rep61 g l b, h.bound g l hg hl hr, fun z hz hf hw => ?_, by rw [List.length_replicate]; exact hb⟩
  have h1 := wor_le_count g l hg hl z hz
  rw [hw] at h1
  have h2 : (b : Int) ≤ ((z.count 61 : Nat) : Int) := Int.le_of_mul_le_mul_left h1 (by omega)
  have h3 := List.count_le_length (a := 61) (l := z)
  unfold Sle
  rw [List.length_replicate]
  by_cases hlt : b < z.length
  · exact .inl hlt
  · refine .inr ⟨by omega, ?_⟩
    have e : z = List.replicate b 61 := by
      have e1 : List.count 61 z = z.length := by omega
      have e2 := List.eq_replicate_iff.mpr ⟨rfl, fun c hc => (List.count_eq_length.mp e1 c hc).symm⟩
      have e3 : z.length = b := by omega
      rw [e3] at e2
      exact e2
    rw [e]
    exact lexB_refl _
theorem get_rep {n c i : Nat} (h : i < n) : (List.replicate n c)[i]? = some c := by
  rw [List.getElem?_replicate, if_pos h]
/-! so many picks in a row -/
def lead : List Nat → Nat
  | [] => 0
  | c :: z => if c = 61 then lead z + 1 else 0
theorem lead_get : ∀ (z : List Nat) (k : Nat), k < lead z → z[k]? = some 61
  | [], k, h => by simp [lead] at h
  | c :: z, k, h => by
    unfold lead at h
    by_cases hc : c = 61
    · rw [if_pos hc] at h
      cases k with
      | zero => rw [hc]; rfl
      | succ k => exact lead_get z k (by omega)
    · rw [if_neg hc] at h
      omega
theorem lead_le : ∀ z : List Nat, lead z ≤ z.length
  | [] => Nat.le_refl _
  | c :: z => by
    have := lead_le z
    unfold lead
    split <;> simp only [List.length_cons] <;> omega
theorem ones_len (m : Nat) : (ones m).length = m := List.length_replicate
theorem one_ones {m : Nat} (h : 1 ≤ m) : Ones [ones m] := fun sd hsd => by
  rw [List.mem_singleton.mp hsd, ones_len]
  exact h
theorem lead_lt {m : Nat} (hm : 1 ≤ m) {z : List Nat} (hf : Free [ones m] z) : lead z ≤ m - 1 := by
  rw [free_iff (one_ones hm)] at hf
  refine Classical.byContradiction fun h => ?_
  obtain ⟨k, hk, _, e⟩ := hf _ (List.mem_singleton.mpr rfl) 0 (by rw [ones_len]; have := lead_le z; omega)
  rw [ones_len] at hk
  rw [Nat.zero_add, lead_get z k (by omega)] at e
  cases e
theorem wor_lead {m : Nat} (hm : 1 ≤ m) {g l : Int} (hr : ((m : Int) - 1) * g ≤ l) (hg : 1 ≤ g) : ∀ z : List Nat, Free [ones m] z → wor g l z ≤ g * (lead z : Nat)
  | [], _ => by simp [wor, lead]
  | c :: z, hf => by
    have hf' := hf.tail (one_ones hm)
    have ih := wor_lead hm hr hg z hf'
    have h1 := lead_lt hm hf'
    show (if c = 61 then g else -l) + wor g l z ≤ g * ((if c = 61 then lead z + 1 else 0 : Nat) : Int)
    by_cases hc : c = 61
    · rw [if_pos hc, if_pos hc, Int.natCast_add, Int.mul_add]
      omega
    · rw [if_neg hc, if_neg hc]
      have h2 : g * (lead z : Nat) ≤ g * ((m : Int) - 1) := Int.mul_le_mul_of_nonneg_left (by omega) (by omega)
      rw [Int.mul_comm g ((m : Int) - 1)] at h2
      omega
theorem HB.row {m : Nat} (hm : 1 ≤ m) : HB [ones m] ((m : Int) - 1) 1 (m - 1) := by
  refine ⟨fun g l hg hl hr z hz hf => ?_, ?_, fun g l hg hl hr B => ?_⟩
  · have h1 := wor_lead hm (g := g) (l := l) (by omega) hg z hf
    have h2 : g * (lead z : Nat) ≤ g * ((m - 1 : Nat) : Int) := Int.mul_le_mul_of_nonneg_left (by have := lead_lt hm hf; omega) (by omega)
    omega
  · rw [free_iff (one_ones hm)]
    intro sd hsd p hp
    rw [List.mem_singleton.mp hsd, ones_len, List.length_replicate] at hp
    omega
  · refine ⟨rp (List.replicate (m - 1) 61 ++ [47]) (B + 1), Lk.rp (Lk.app (Lk.rep _ _ (.inl rfl)) (fun c hc => .inr (List.mem_singleton.mp hc))) _, ?_, ?_⟩
    · rw [free_iff (one_ones hm)]
      intro sd hsd p hp
      rw [List.mem_singleton.mp hsd, ones_len, rp_len, List.length_append, List.length_replicate] at hp
      rw [List.mem_singleton.mp hsd, ones_len]
      have hmm : m - 1 + [47].length = m := by show m - 1 + 1 = m; omega
      rw [hmm] at hp
      have hlt := Nat.mod_lt p (show 0 < m by omega)
      refine ⟨m - 1 - p % m, by omega, get_rep (by omega), ?_⟩
      rw [rp_get _ _ _ (by rw [List.length_append, List.length_replicate, hmm]; omega), List.length_append, List.length_replicate, hmm]
      have e : (p + (m - 1 - p % m)) % m = m - 1 := by
        have h := Nat.div_add_mod p m
        have e2 : p + (m - 1 - p % m) = m * (p / m) + (m - 1) := by omega
        rw [e2, Nat.mul_add_mod, Nat.mod_eq_of_lt (by omega)]
      rw [e, List.getElem?_append_right (by rw [List.length_replicate]; exact Nat.le_refl _), List.length_replicate, Nat.sub_self]
      rfl
    · rw [wor_rp, wor_app, wor_rep61]
      have e : wor g l [47] = -l := by simp [wor]
      rw [e]
      have e1 : ((m - 1 : Nat) : Int) = (m : Int) - 1 := by omega
      rw [e1, Int.mul_comm g]
      have h2 : ((B + 1 : Nat) : Int) * 1 ≤ ((B + 1 : Nat) : Int) * (((m : Int) - 1) * g + -l) := Int.mul_le_mul_of_nonneg_left (by omega) (by omega)
      omega
/-! two picks so far apart -/
theorem gaps_len {m : Nat} (hm : 2 ≤ m) : (gaps m).length = m := by
  unfold gaps
  rw [List.length_cons, List.length_append, List.length_replicate]
  show m - 2 + 1 + 1 = m
  omega
theorem one_gaps {m : Nat} (hm : 2 ≤ m) : Ones [gaps m] := fun sd hsd => by
  rw [List.mem_singleton.mp hsd, gaps_len hm]
  omega
theorem gaps_pick {m k : Nat} (hm : 2 ≤ m) (hk : k < m) : (gaps m)[k]? = some 35 ↔ k = 0 ∨ k = m - 1 := by
  unfold gaps
  cases k with
  | zero => simp
  | succ k =>
    rw [List.getElem?_cons_succ]
    by_cases h : k < m - 2
    · rw [List.getElem?_append_left (by rw [List.length_replicate]; exact h), get_rep h]
      constructor
      · intro e
        cases e
      · intro e
        omega
    · rw [List.getElem?_append_right (by rw [List.length_replicate]; omega), List.length_replicate]
      have : k - (m - 2) = 0 := by omega
      rw [this]
      constructor
      · intro _
        omega
      · intro _
        rfl
theorem free_gaps {m : Nat} (hm : 2 ≤ m) {z : List Nat} : Free [gaps m] z ↔ ∀ p, p + m ≤ z.length → z[p]? = some 47 ∨ z[p + (m - 1)]? = some 47 := by
  rw [free_iff (one_gaps hm)]
  constructor
  · intro h p hp
    obtain ⟨k, hk, e1, e2⟩ := h _ (List.mem_singleton.mpr rfl) p (by rw [gaps_len hm]; exact hp)
    rw [gaps_len hm] at hk
    rcases (gaps_pick hm hk).mp e1 with e | e
    · subst e
      exact .inl e2
    · subst e
      exact .inr e2
  · intro h sd hsd p hp
    rw [List.mem_singleton.mp hsd] at hp ⊢
    rw [gaps_len hm] at hp ⊢
    rcases h p hp with e | e
    · exact ⟨0, by omega, (gaps_pick hm (by omega)).mpr (.inl rfl), e⟩
    · exact ⟨m - 1, by omega, (gaps_pick hm (by omega)).mpr (.inr rfl), e⟩
theorem count_pair : ∀ (y x : List Nat), y.length ≤ x.length → (∀ i : Nat, y[i]? = some 61 → x[i]? = some 47) → y.count 61 ≤ x.count 47
  | [], x, _, _ => by simp
  | _ :: _, [], h, _ => by simp at h
  | c :: y, d :: x, h, hp => by
    have ih := count_pair y x (by simpa using h) fun i hi => hp (i + 1) hi
    rw [List.count_cons, List.count_cons]
    by_cases hc : c = 61
    · have : d = 47 := by
        have := hp 0 (by rw [hc]; rfl)
        exact Option.some.inj this
      subst hc this
      simp
      omega
    · have : (c == 61) = false := by simpa using hc
      rw [this]
      simp
      omega
theorem HB.two {m : Nat} (hm : 2 ≤ m) : HB [gaps m] ((m : Int) - 1) ((m : Int) - 1) (m - 1) := by
  refine ⟨fun g l hg hl hr z hz hf => ?_, ?_, fun g l hg hl hr B => ?_⟩
  · rw [free_gaps hm] at hf
    have hgl : g ≤ l := by
      have : ((m : Int) - 1) * g ≤ ((m : Int) - 1) * l := by omega
      exact Int.le_of_mul_le_mul_left this (by omega)
    have h1 : (z.drop (m - 1)).count 61 ≤ z.count 47 := by
      refine count_pair _ _ (by rw [List.length_drop]; omega) fun i hi => ?_
      rw [List.getElem?_drop] at hi
      have hil := (List.getElem?_eq_some_iff.mp hi).1
      rcases hf i (by omega) with e | e
      · exact e
      · rw [show i + (m - 1) = m - 1 + i by omega, hi] at e
        cases e
    have h2 : (z.take (m - 1)).count 61 ≤ m - 1 := Nat.le_trans List.count_le_length (by rw [List.length_take]; omega)
    have h3 : z.count 61 = (z.take (m - 1)).count 61 + (z.drop (m - 1)).count 61 := by rw [← List.count_append, List.take_append_drop]
    have h4 := wor_count g l hz
    have h5 : g * ((z.count 61 : Nat) : Int) ≤ g * (((m - 1 : Nat) : Int) + ((z.count 47 : Nat) : Int)) := Int.mul_le_mul_of_nonneg_left (by omega) (by omega)
    have h6 : g * ((z.count 47 : Nat) : Int) ≤ l * ((z.count 47 : Nat) : Int) := Int.mul_le_mul_of_nonneg_right hgl (by omega)
    rw [Int.mul_add] at h5
    omega
  · rw [free_gaps hm]
    intro p hp
    rw [List.length_replicate] at hp
    omega
  · refine ⟨rp (List.replicate (m - 1) 61 ++ List.replicate (m - 1) 47) (B + 1), Lk.rp (Lk.app (Lk.rep _ _ (.inl rfl)) (Lk.rep _ _ (.inr rfl))) _, ?_, ?_⟩
    · rw [free_gaps hm]
      intro p hp
      rw [rp_len] at hp
      have e0 : (List.replicate (m - 1) 61 ++ List.replicate (m - 1) 47).length = 2 * (m - 1) := by
        rw [List.length_append, List.length_replicate, List.length_replicate]
        omega
      have hlt := Nat.mod_lt p (show 0 < 2 * (m - 1) by omega)
      rw [e0] at hp
      by_cases hs : p % (2 * (m - 1)) < m - 1
      · refine .inr ?_
        rw [rp_get _ _ _ (by rw [e0]; omega), e0]
        have e : (p + (m - 1)) % (2 * (m - 1)) = p % (2 * (m - 1)) + (m - 1) := by
          have h := Nat.div_add_mod p (2 * (m - 1))
          generalize hq : p / (2 * (m - 1)) = q at h
          have e2 : p + (m - 1) = 2 * (m - 1) * q + (p % (2 * (m - 1)) + (m - 1)) := by omega
          rw [e2, Nat.mul_add_mod, Nat.mod_eq_of_lt (by omega)]
        rw [e, List.getElem?_append_right (by rw [List.length_replicate]; omega), List.length_replicate, get_rep (by omega)]
      · refine .inl ?_
        rw [rp_get _ _ _ (by rw [e0]; omega), e0, List.getElem?_append_right (by rw [List.length_replicate]; omega), List.length_replicate, get_rep (by omega)]
    · rw [wor_rp, wor_app, wor_rep61, wor_rep47]
      have e1 : ((m - 1 : Nat) : Int) = (m : Int) - 1 := by omega
      rw [e1, Int.mul_comm g, Int.mul_comm l]
      have h2 : ((B + 1 : Nat) : Int) * 1 ≤ ((B + 1 : Nat) : Int) * (((m : Int) - 1) * g + -(((m : Int) - 1) * l)) := Int.mul_le_mul_of_nonneg_left (by omega) (by omega)
      omega
/-! a longer seed beside it, in which it fits -/
theorem HB.beside {sds sds' : List (List Nat)} {r0 r1 : Int} {b : Nat} (h : HB sds r0 r1 b) (e : ∀ z, Free sds' z ↔ Free sds z) : HB sds' r0 r1 b :=
  ⟨fun g l hg hl hr z hz hf => h.bound g l hg hl hr z hz ((e z).mp hf), (e _).mpr h.own, fun g l hg hl hr B => by
    obtain ⟨z, h1, h2, h3⟩ := h.grow g l hg hl hr B
    exact ⟨z, h1, (e z).mpr h2, h3⟩⟩
theorem free_beside {sd : List Nat} {n : Nat} (h1 : 1 ≤ sd.length) (hn : sd.length ≤ n) {sds : List (List Nat)} (hs : sds = [sd, ones n] ∨ sds = [ones n, sd]) (z : List Nat) : Free sds z ↔ Free [sd] z := by
  have o1 : Ones [sd] := fun s hsd => by rw [List.mem_singleton.mp hsd]; exact h1
  have mem : ∀ s, s ∈ sds ↔ s = sd ∨ s = ones n := by
    intro s
    rcases hs with e | e <;> subst e <;> simp [or_comm]
  have o2 : Ones sds := fun s hsd => by
    rcases (mem s).mp hsd with e | e
    · rw [e]; exact h1
    · rw [e, ones_len]; omega
  rw [free_iff o1, free_iff o2]
  constructor
  · intro h s hsd
    rw [List.mem_singleton.mp hsd]
    exact h sd ((mem sd).mpr (.inl rfl))
  · intro h s hsd p hp
    rcases (mem s).mp hsd with e | e
    · rw [e] at hp ⊢
      exact h sd (List.mem_singleton.mpr rfl) p hp
    · rw [e] at hp ⊢
      rw [ones_len] at hp ⊢
      obtain ⟨k, hk, _, e2⟩ := h sd (List.mem_singleton.mpr rfl) p (by omega)
      exact ⟨k, by omega, get_rep (by omega), e2⟩
theorem rep_flat (c : Nat) : ∀ k : Nat, (List.replicate k [c]).flatten = List.replicate k c
  | 0 => rfl
  | k + 1 => by
    rw [List.replicate_succ, List.flatten_cons, rep_flat c k]
    rfl
theorem x_mul1 (c : Nat) {n : Int} {H : Hp} {Q : VK} (k : Nat) (hk : n.toNat = k) (h1 : n ≤ 1000) (h2 : -1000 ≤ n) (q : Q (.str (S (List.replicate k c))) H) : rMulS (.str (S [c])) (.int n) H Q :=
  x_mulS (z := [c]) h1 h2 (show 1 ≤ 1000 by decide) (by rw [rep_flat, hk]; exact q)
theorem sd_ones {m : Nat} (h1 : 1 ≤ m) (h8 : m ≤ 8) : Sd 8 (ones m) :=
  ⟨by rw [ones_len]; exact h1, by rw [ones_len]; exact h8, fun c hc => .inl (List.eq_of_mem_replicate hc), get_rep (by omega), by rw [ones_len]; exact get_rep (by omega)⟩
theorem sd_gaps {m : Nat} (h1 : 2 ≤ m) (h8 : m ≤ 8) : Sd 8 (gaps m) := by
  refine ⟨by rw [gaps_len h1]; omega, by rw [gaps_len h1]; exact h8, fun c hc => ?_, (gaps_pick h1 (by omega)).mpr (.inl rfl), by rw [gaps_len h1]; exact (gaps_pick h1 (by omega)).mpr (.inr rfl)⟩
  unfold gaps at hc
  rcases List.mem_cons.mp hc with e | e
  · exact .inl e
  · rcases List.mem_append.mp e with e | e
    · exact .inr (List.eq_of_mem_replicate e)
    · exact .inl (List.mem_singleton.mp e)
def barV : BarR → List V
  | .bar w z => [.str "bar", .int w, .str (S z)]
  | .ring a r => [.str "endless", .str (S a), .str (S r)]
theorem Lk.cd {z : List Nat} (h : Lk z) : ∀ c ∈ z, c < 1114112 := fun c hc => by rcases h c hc with e | e <;> omega
def barD : BarR → PyData
  | .bar w z => .tuple [.str "bar", .int w, .str (S z)]
  | .ring a r => .tuple [.str "endless", .str (S a), .str (S r)]
theorem dp_bar {K : PySem.W.Frag} {H : Hp} {p : Addr} : ∀ {b : BarR}, H p = some (.tup (barV b)) → Dp K H (.ref p) (barD b)
  | .bar _ _, h => .tup (SqT.of h) (.cons (.str _) (.cons (.int _) (.cons (.str _) .nil)))
  | .ring _ _, h => .tup (SqT.of h) (.cons (.str _) (.cons (.str _) (.cons (.str _) .nil)))
theorem lay_bar {sds : List (List Nat)} {g l : Int} : ∀ {b : BarR}, BarOk sds g l b → PyData.canLay0 (barD b) = true
  | .bar w z, h => by
    have h1 : IsBar sds g l w z := h
    have h2 := strOk_S h1.lk.cd
    simp only [barD, PyData.canLayAll0, PyData.canLay0, Bool.and_eq_true, Bool.true_and]
    exact ⟨by decide +kernel, h2, trivial⟩
  | .ring a r, h => by
    have h1 : IsRing sds g l a r := h
    have h2 := strOk_S h1.lka.cd
    have h3 := strOk_S h1.lkr.cd
    simp only [barD, PyData.canLayAll0, PyData.canLay0, Bool.and_eq_true, Bool.true_and]
    exact ⟨by decide +kernel, h2, h3, trivial⟩
theorem shaped_bar {sds : List (List Nat)} {g l : Int} {b : BarR} (h : BarOk sds g l b) : SeqAt.shaped (barD b) = true := by
  unfold SeqAt.shaped
  rw [Bool.and_eq_true]
  refine ⟨lay_bar h, decide_eq_true ?_⟩
  cases b <;> simp only [barD, PyData.depth, PyData.depthAll] <;> omega
theorem ne_bar_same {K : PySem.W.Frag} {H : Hp} {p p' : Addr} {sds : List (List Nat)} {g l : Int} {b : BarR} (ok : BarOk sds g l b) (h : H p = some (.tup (barV b))) (h' : H p' = some (.tup (barV b))) {Q : VK} (q : Q (.bl false) H) : rNeD K (.ref p) (.ref p') H Q :=
  ⟨barD b, barD b, dp_bar h, dp_bar h', shaped_bar ok, shaped_bar ok, by rw [SeqAt.eqv_refl _ (lay_bar ok)]; exact q⟩
end Sr

namespace Sr
/-! ### what bar works with -/
/-- no seed that fits ends with c behind t -/
def okS (sds : List (List Nat)) (t : List Nat) (c : Nat) : Bool := !(sds.any fun sd => fitsB sd (t ++ [c]) (((t ++ [c]).length : Int) - (sd.length : Int)))
/-- the tail that matters -/
def tlK (k : Nat) (z : List Nat) : List Nat := (z.drop (z.length - k)).dropWhile (fun c => c == 47)
theorem tw_all : ∀ (l : List Nat), ∀ c ∈ l.takeWhile (fun c => c == 47), c = 47
  | [], c, h => by simp at h
  | d :: l, c, h => by
    rw [List.takeWhile_cons] at h
    by_cases e : (d == 47) = true
    · rw [if_pos e] at h
      rcases List.mem_cons.mp h with h | h
      · rw [h]; simpa using e
      · exact tw_all l c h
    · rw [if_neg e] at h
      simp at h
theorem dw_app : ∀ {u : List Nat} (w : List Nat), (∀ c ∈ u, c = 47) → (u ++ w).dropWhile (fun c => c == 47) = w.dropWhile (fun c => c == 47)
  | [], w, _ => rfl
  | d :: u, w, h => by
    rw [List.cons_append, List.dropWhile_cons, if_pos (by have := h d List.mem_cons_self; simp [this])]
    exact dw_app w fun c hc => h c (List.mem_cons_of_mem _ hc)
theorem dw_fix {w : List Nat} (l : List Nat) (h : w = l.dropWhile (fun c => c == 47)) : w.dropWhile (fun c => c == 47) = w := by
  subst h
  induction l with
  | nil => rfl
  | cons d l ih =>
    by_cases e : (d == 47) = true
    · rw [List.dropWhile_cons, if_pos e]
      exact ih
    · rw [List.dropWhile_cons, if_neg e, List.dropWhile_cons, if_neg e]
theorem tlK_split (k : Nat) (z : List Nat) : ∃ p u, z = p ++ (u ++ tlK k z) ∧ p.length = z.length - k ∧ ∀ c ∈ u, c = 47 := by
  refine ⟨z.take (z.length - k), (z.drop (z.length - k)).takeWhile (fun c => c == 47), ?_, ?_, tw_all _⟩
  · unfold tlK
    rw [List.takeWhile_append_dropWhile, List.take_append_drop]
  · rw [List.length_take]
    omega
theorem fits_end {k : Nat} {sd : List Nat} (h1 : 1 ≤ sd.length) (hk : sd.length ≤ k + 1) (h0 : sd[0]? = some 35) (z : List Nat) (c : Nat) :
    fitsB sd (z ++ [c]) (((z ++ [c]).length : Int) - (sd.length : Int)) = fitsB sd (tlK k z ++ [c]) (((tlK k z ++ [c]).length : Int) - (sd.length : Int)) := by
  obtain ⟨p, u, e, hp, hu⟩ := tlK_split k z
  generalize tlK k z = t at e
  subst e
  rw [Bool.eq_iff_iff, fitsB_iff h1, fitsB_iff h1]
  simp only [List.length_append, List.length_cons, List.length_nil] at hp ⊢
  constructor
  · rintro ⟨a, b, f⟩
    have hlen : sd.length ≤ t.length + 1 := by
      refine Classical.byContradiction fun hn => ?_
      have hq := f 0 (by omega)
      refine hq ⟨h0, ?_⟩
      generalize hqe : (((p.length + (u.length + t.length) + (0 + 1) : Nat) : Int) - (sd.length : Int)).toNat = q
      have hq1 : p.length ≤ q := by omega
      have hq2 : q < p.length + u.length := by omega
      rw [Nat.add_zero, List.append_assoc, List.append_assoc, List.getElem?_append_right hq1, List.getElem?_append_left (by omega), List.getElem?_eq_getElem (by omega)]
      exact congrArg some (hu _ (List.getElem_mem _))
    refine ⟨by omega, by omega, fun j hj hc => f j hj ⟨hc.1, ?_⟩⟩
    rw [← hc.2, show p ++ (u ++ t) ++ [c] = (p ++ u) ++ (t ++ [c]) by simp, List.getElem?_append_right (by simp only [List.length_append]; omega)]
    congr 1
    simp only [List.length_append]
    omega
  · rintro ⟨a, b, f⟩
    refine ⟨by omega, by omega, fun j hj hc => f j hj ⟨hc.1, ?_⟩⟩
    have h2 := hc.2
    rw [show p ++ (u ++ t) ++ [c] = (p ++ u) ++ (t ++ [c]) by simp, List.getElem?_append_right (by simp only [List.length_append]; omega)] at h2
    rw [← h2]
    congr 1
    simp only [List.length_append]
    omega
structure SdK (k : Nat) (sds : List (List Nat)) : Prop where
  one : ∀ sd ∈ sds, 1 ≤ sd.length
  most : ∀ sd ∈ sds, sd.length ≤ k + 1
  first : ∀ sd ∈ sds, sd[0]? = some 35
theorem any_congr' {α : Type} {f g : α → Bool} : ∀ {l : List α}, (∀ x ∈ l, f x = g x) → l.any f = l.any g
  | [], _ => rfl
  | x :: l, h => by
    rw [List.any_cons, List.any_cons, h x List.mem_cons_self, any_congr' fun y hy => h y (List.mem_cons_of_mem _ hy)]
theorem okS_tl {k : Nat} {sds : List (List Nat)} (hs : SdK k sds) (z : List Nat) (c : Nat) : okS sds z c = okS sds (tlK k z) c := by
  unfold okS
  rw [any_congr' fun sd h => fits_end (hs.one sd h) (hs.most sd h) (hs.first sd h) z c]
theorem tlK_len (k : Nat) (z : List Nat) : (tlK k z).length ≤ k := by
  obtain ⟨p, u, e, hp, hu⟩ := tlK_split k z
  have := congrArg List.length e
  simp only [List.length_append] at this
  omega
theorem tlK_short {k : Nat} {z : List Nat} (h : z.length ≤ k) : tlK k z = z.dropWhile (fun c => c == 47) := by
  unfold tlK
  rw [show z.length - k = 0 by omega, List.drop_zero]
theorem tlK_idem (k : Nat) (z : List Nat) : tlK k (tlK k z) = tlK k z := by
  rw [tlK_short (tlK_len k z)]
  exact dw_fix _ rfl
theorem tlK_snoc (k : Nat) (z : List Nat) (c : Nat) : tlK k (z ++ [c]) = tlK k (tlK k z ++ [c]) := by
  obtain ⟨p, u, e, hp, hu⟩ := tlK_split k z
  have hl := tlK_len k z
  generalize tlK k z = t at e hl
  subst e
  simp only [List.length_append] at hp
  by_cases hk : k = 0
  · subst hk
    unfold tlK
    rw [List.drop_of_length_le (by omega), List.drop_of_length_le (by omega)]
  · by_cases hz : p.length = 0
    · have : p = [] := List.length_eq_zero_iff.mp hz
      subst this
      by_cases ht : u.length + t.length = k
      · unfold tlK
        cases u with
        | nil => rfl
        | cons a u =>
          rw [List.nil_append, show ((a :: u ++ t ++ [c]).length - k) = 1 by simp only [List.length_append, List.length_cons, List.length_nil] at ht ⊢; omega]
          rw [show ((t ++ [c]).length - k) = 0 by simp only [List.length_append, List.length_cons, List.length_nil] at ht ⊢; omega, List.drop_zero]
          show (u ++ t ++ [c]).dropWhile _ = _
          rw [List.append_assoc]
          exact dw_app _ fun d hd => hu d (List.mem_cons_of_mem _ hd)
      · rw [tlK_short (by simp only [List.length_append, List.length_cons, List.length_nil]; simp only [List.length_nil] at hp; omega), tlK_short (by simp only [List.length_append, List.length_cons, List.length_nil]; simp only [List.length_nil] at hp; omega), List.nil_append, List.append_assoc]
        exact dw_app _ hu
    · have ht : u.length + t.length = k := by omega
      unfold tlK
      rw [show ((p ++ (u ++ t) ++ [c]).length - k) = p.length + 1 by simp only [List.length_append, List.length_cons, List.length_nil]; omega]
      rw [show p ++ (u ++ t) ++ [c] = p ++ (u ++ (t ++ [c])) by simp, List.drop_append, List.drop_of_length_le (by omega), List.nil_append, show p.length + 1 - p.length = 1 by omega]
      cases u with
      | nil =>
        simp only [List.length_nil] at ht
        rw [List.nil_append, show ((t ++ [c]).length - k) = 1 by simp only [List.length_append, List.length_cons, List.length_nil]; omega]
      | cons a u =>
        simp only [List.length_cons] at ht
        rw [show ((t ++ [c]).length - k) = 0 by simp only [List.length_append, List.length_cons, List.length_nil]; omega, List.drop_zero]
        show (u ++ (t ++ [c])).dropWhile _ = _
        exact dw_app _ fun d hd => hu d (List.mem_cons_of_mem _ hd)
/-! walks over tails -/
def run (sds : List (List Nat)) (k : Nat) : List Nat → List Nat → Option (List Nat)
  | t, [] => some t
  | t, c :: z => if okS sds t c = true then run sds k (tlK k (t ++ [c])) z else none
theorem run_tl {k : Nat} {sds : List (List Nat)} (hs : SdK k sds) : ∀ (z h : List Nat) (t' : List Nat), run sds k (tlK k h) z = some t' → t' = tlK k (h ++ z)
  | [], h, t', e => by
    rw [List.append_nil]
    exact (Option.some.inj e).symm
  | c :: z, h, t', e => by
    unfold run at e
    by_cases hc : okS sds (tlK k h) c = true
    · rw [if_pos hc, ← tlK_snoc] at e
      have := run_tl hs z (h ++ [c]) t' e
      rw [this]
      simp
    · rw [if_neg hc] at e
      cases e
theorem run_some {k : Nat} {sds : List (List Nat)} (hs : SdK k sds) : ∀ (z h : List Nat), (run sds k (tlK k h) z).isSome = true ↔ ∀ i, (hi : i < z.length) → okS sds (h ++ z.take i) z[i] = true
  | [], h => by simp [run]
  | c :: z, h => by
    unfold run
    by_cases hc : okS sds (tlK k h) c = true
    · rw [if_pos hc, ← tlK_snoc, run_some hs z (h ++ [c])]
      constructor
      · intro q i hi
        cases i with
        | zero =>
          rw [List.take_zero, List.append_nil, okS_tl hs]
          exact hc
        | succ i =>
          have := q i (by simpa using hi)
          simpa using this
      · intro q i hi
        have := q (i + 1) (by simpa using hi)
        simpa using this
    · rw [if_neg hc]
      refine ⟨fun q => by simp at q, fun q => ?_⟩
      have := q 0 (by simp)
      rw [List.take_zero, List.append_nil, okS_tl hs] at this
      exact absurd this hc
theorem free_of_ok {sds : List (List Nat)} (h1 : Ones sds) (h z : List Nat) (q : ∀ i, (hi : i < z.length) → okS sds (h ++ z.take i) z[i] = true) : Free sds z := by
  rw [free_iff h1]
  intro sd hsd p hp
  have hl := h1 sd hsd
  have hi : p + sd.length - 1 < z.length := by omega
  have := q (p + sd.length - 1) hi
  unfold okS at this
  rw [Bool.not_eq_true', List.any_eq_false] at this
  have h2 := this sd hsd
  rw [fitsB_iff hl] at h2
  refine Classical.byContradiction fun hn => h2 ⟨?_, ?_, fun j hj hc => hn ⟨j, hj, hc.1, ?_⟩⟩
  · simp only [List.length_append, List.length_take, List.length_cons, List.length_nil]
    omega
  · simp only [List.length_append, List.length_take, List.length_cons, List.length_nil]
    omega
  · have h3 := hc.2
    rw [List.append_assoc, show z.take (p + sd.length - 1) ++ [z[p + sd.length - 1]] = z.take (p + sd.length - 1 + 1) from (List.take_succ_eq_append_getElem hi).symm] at h3
    rw [List.getElem?_append_right (by simp only [List.length_append, List.length_take]; omega), List.getElem?_take] at h3
    split at h3
    · rw [← h3]
      congr 1
      simp only [List.length_append, List.length_take]
      omega
    · cases h3
theorem free_ok {sds : List (List Nat)} (h1 : Ones sds) {z : List Nat} (f : Free sds z) (i : Nat) (hi : i < z.length) : okS sds (z.take i) z[i] = true := by
  rw [free_iff h1] at f
  unfold okS
  rw [Bool.not_eq_true', List.any_eq_false]
  intro sd hsd hc
  have hl := h1 sd hsd
  obtain ⟨a, b, g⟩ := (fitsB_iff hl).mp hc
  rw [show z.take i ++ [z[i]] = z.take (i + 1) from (List.take_succ_eq_append_getElem hi).symm] at a b g
  rw [List.length_take] at a b g
  have hm : min (i + 1) z.length = i + 1 := by omega
  rw [hm] at a b g
  obtain ⟨j, hj, e1, e2⟩ := f sd hsd (i + 1 - sd.length) (by omega)
  refine g j hj ⟨e1, ?_⟩
  rw [List.getElem?_take, if_pos (by omega), ← e2]
  congr 1
  omega
theorem free_run {k : Nat} {sds : List (List Nat)} (hs : SdK k sds) {z : List Nat} : Free sds z ↔ (run sds k [] z).isSome = true := by
  have e : ([] : List Nat) = tlK k [] := by unfold tlK; simp
  have key := run_some hs z []
  rw [← e] at key
  rw [key]
  exact ⟨fun f i hi => by rw [List.nil_append]; exact free_ok hs.one f i hi, fun q => free_of_ok hs.one [] z q⟩
theorem run_free {k : Nat} {sds : List (List Nat)} (hs : SdK k sds) {t z : List Nat} (ht : tlK k t = t) (h : (run sds k t z).isSome = true) : Free sds z := by
  have key := run_some hs z t
  rw [ht] at key
  exact free_of_ok hs.one t z (key.mp h)
theorem run_cons (sds : List (List Nat)) (k : Nat) (t : List Nat) (c : Nat) (z : List Nat) : run sds k t (c :: z) = if okS sds t c = true then run sds k (tlK k (t ++ [c])) z else none := rfl
theorem run_app {sds : List (List Nat)} {k : Nat} : ∀ (a t b : List Nat), run sds k t (a ++ b) = (run sds k t a).bind fun s => run sds k s b
  | [], t, b => rfl
  | c :: a, t, b => by
    rw [List.cons_append, run_cons, run_cons]
    by_cases h : okS sds t c = true
    · rw [if_pos h, if_pos h]
      exact run_app a _ b
    · rw [if_neg h, if_neg h]
      rfl
theorem run_rp {sds : List (List Nat)} {k : Nat} {t r : List Nat} (h : run sds k t r = some t) : ∀ n, run sds k t (rp r n) = some t
  | 0 => rfl
  | n + 1 => by
    rw [rp_succ, run_app, h]
    exact run_rp h n
end Sr
namespace Sr
/-! ### the best likes behind a tail -/
def wt (g l : Int) (c : Nat) : Int := if c = 61 then g else -l
def stps (sds : List (List Nat)) (k : Nat) (t : List Nat) : List (Nat × List Nat) := ([61, 47].filter fun c => okS sds t c).map fun c => (c, tlK k (t ++ [c]))
/-- b is better than a, as the program weighs them -/
def bet (a b : Int × List Nat) : Bool := decide (a.1 < b.1) || (decide (a.1 = b.1) && decide (b.2.length < a.2.length))
def pick (a b : Int × List Nat) : Int × List Nat := if bet a b = true then b else a
def cand (g l : Int) (o : List Nat → Int × List Nat) (p : Nat × List Nat) : Int × List Nat := (wt g l p.1 + (o p.2).1, p.1 :: (o p.2).2)
def optS (sds : List (List Nat)) (k : Nat) (g l : Int) : Nat → List Nat → Int × List Nat
  | 0, _ => (0, [])
  | r + 1, t => ((stps sds k t).map (cand g l (optS sds k g l r))).foldl pick (0, [])
theorem lexB_trans : ∀ {a b c : List Nat}, lexB a b = true → lexB b c = true → lexB a c = true
  | [], _, _, _, _ => rfl
  | x :: a, [], _, h, _ => by simp [lexB] at h
  | x :: a, y :: b, [], _, h => by simp [lexB] at h
  | x :: a, y :: b, w :: c, h1, h2 => by
    simp only [lexB, Bool.or_eq_true, Bool.and_eq_true, decide_eq_true_eq] at h1 h2 ⊢
    rcases h1 with h1 | ⟨e1, h1⟩
    · rcases h2 with h2 | ⟨e2, h2⟩
      · exact .inl (by omega)
      · exact .inl (by omega)
    · rcases h2 with h2 | ⟨e2, h2⟩
      · exact .inl (by omega)
      · exact .inr ⟨by omega, lexB_trans h1 h2⟩
theorem Sle.refl (a : List Nat) : Sle a a := .inr ⟨rfl, lexB_refl a⟩
theorem Sle.trans {a b c : List Nat} (h1 : Sle a b) (h2 : Sle b c) : Sle a c := by
  rcases h1 with h1 | ⟨e1, h1⟩
  · rcases h2 with h2 | ⟨e2, _⟩
    · exact .inl (by omega)
    · exact .inl (by omega)
  · rcases h2 with h2 | ⟨e2, h2⟩
    · exact .inl (by omega)
    · exact .inr ⟨by omega, lexB_trans h1 h2⟩
theorem Sle.len {a b : List Nat} (h : Sle a b) : a.length ≤ b.length := by
  rcases h with h | ⟨e, _⟩ <;> omega
theorem Sle.cons {a b : List Nat} (c : Nat) (h : Sle a b) : Sle (c :: a) (c :: b) := by
  rcases h with h | ⟨e, h⟩
  · exact .inl (by simpa using h)
  · exact .inr ⟨by simpa using e, by simp [lexB, h]⟩
/-- at least as good -/
def Gd2 (p q : Int × List Nat) : Prop := q.1 < p.1 ∨ (p.1 = q.1 ∧ Sle p.2 q.2)
theorem Gd2.refl (p : Int × List Nat) : Gd2 p p := .inr ⟨rfl, Sle.refl _⟩
theorem Gd2.trans {p q r : Int × List Nat} (h1 : Gd2 p q) (h2 : Gd2 q r) : Gd2 p r := by
  rcases h1 with h1 | ⟨e1, h1⟩
  · rcases h2 with h2 | ⟨e2, h2⟩
    · exact .inl (by omega)
    · exact .inl (by omega)
  · rcases h2 with h2 | ⟨e2, h2⟩
    · exact .inl (by omega)
    · exact .inr ⟨by omega, h1.trans h2⟩
theorem Gd2.anti {p q : Int × List Nat} (h1 : Gd2 p q) (h2 : Gd2 q p) : p = q := by
  rcases h1 with h1 | ⟨e1, h1⟩
  · rcases h2 with h2 | ⟨e2, h2⟩ <;> omega
  · rcases h2 with h2 | ⟨e2, h2⟩
    · omega
    · exact Prod.ext e1 (h1.anti h2)
/-- the pick of two is at least as good as both, where equal worth and length puts the first one ahead -/
theorem pick_gd {a b : Int × List Nat} (h : a.1 = b.1 → a.2.length = b.2.length → Sle a.2 b.2) : Gd2 (pick a b) a ∧ Gd2 (pick a b) b := by
  unfold pick bet
  by_cases hb : (decide (a.1 < b.1) || (decide (a.1 = b.1) && decide (b.2.length < a.2.length))) = true
  · rw [if_pos hb]
    refine ⟨?_, Gd2.refl _⟩
    simp only [Bool.or_eq_true, Bool.and_eq_true, decide_eq_true_eq] at hb
    rcases hb with hb | ⟨e, hb⟩
    · exact .inl hb
    · exact .inr ⟨e.symm, .inl hb⟩
  · rw [if_neg hb]
    refine ⟨Gd2.refl _, ?_⟩
    simp only [Bool.or_eq_true, Bool.and_eq_true, decide_eq_true_eq] at hb
    by_cases e : b.1 < a.1
    · exact .inl e
    · by_cases e2 : a.1 = b.1
      · refine .inr ⟨e2, ?_⟩
        by_cases e3 : a.2.length = b.2.length
        · exact h e2 e3
        · exact .inl (by omega)
      · omega
theorem pick_or (a b : Int × List Nat) : pick a b = a ∨ pick a b = b := by
  unfold pick
  split
  · exact .inr rfl
  · exact .inl rfl
structure IsOpt (sds : List (List Nat)) (k : Nat) (g l : Int) (r : Nat) (t : List Nat) (p : Int × List Nat) : Prop where
  lk : Lk p.2
  ok : (run sds k t p.2).isSome = true
  is : wor g l p.2 = p.1
  len : p.2.length ≤ r
  best : ∀ z, Lk z → (run sds k t z).isSome = true → z.length ≤ r → Gd2 p (wor g l z, z)
theorem IsOpt.uniq {sds : List (List Nat)} {k : Nat} {g l : Int} {r : Nat} {t : List Nat} {p q : Int × List Nat} (h : IsOpt sds k g l r t p) (h' : IsOpt sds k g l r t q) : p = q := by
  have a := h.best q.2 h'.lk h'.ok h'.len
  have b := h'.best p.2 h.lk h.ok h.len
  rw [h'.is] at a
  rw [h.is] at b
  exact a.anti b
theorem wor_cons (g l : Int) (c : Nat) (z : List Nat) : wor g l (c :: z) = wt g l c + wor g l z := rfl
theorem Lk.cons {c : Nat} {z : List Nat} (hc : c = 61 ∨ c = 47) (hz : Lk z) : Lk (c :: z) := fun d hd => by
  rcases List.mem_cons.mp hd with e | e
  · rw [e]; exact hc
  · exact hz d e
theorem optS_is {sds : List (List Nat)} {k : Nat} {g l : Int} : ∀ (r : Nat) (t : List Nat), IsOpt sds k g l r t (optS sds k g l r t)
  | 0, t => ⟨fun c h => by simp [optS] at h, rfl, rfl, Nat.le_refl _, fun z _ _ hz => by
      have : z = [] := List.length_eq_zero_iff.mp (by omega)
      subst this
      exact Gd2.refl _⟩
  | r + 1, t => by
    have ih := optS_is (sds := sds) (k := k) (g := g) (l := l) r
    -- one pair's candidate
    have cnd : ∀ c, (c = 61 ∨ c = 47) → okS sds t c = true →
        (Lk (cand g l (optS sds k g l r) (c, tlK k (t ++ [c]))).2 ∧ (run sds k t (cand g l (optS sds k g l r) (c, tlK k (t ++ [c]))).2).isSome = true ∧
         wor g l (cand g l (optS sds k g l r) (c, tlK k (t ++ [c]))).2 = (cand g l (optS sds k g l r) (c, tlK k (t ++ [c]))).1 ∧ (cand g l (optS sds k g l r) (c, tlK k (t ++ [c]))).2.length ≤ r + 1) ∧
        ∀ y, Lk y → (run sds k t (c :: y)).isSome = true → y.length ≤ r → Gd2 (cand g l (optS sds k g l r) (c, tlK k (t ++ [c]))) (wor g l (c :: y), c :: y) := by
      intro c hc hok
      have h := ih (tlK k (t ++ [c]))
      refine ⟨⟨Lk.cons hc h.lk, ?_, ?_, ?_⟩, fun y hy hr hl => ?_⟩
      · show (run sds k t (c :: _)).isSome = true
        rw [run_cons, if_pos hok]
        exact h.ok
      · show wor g l (c :: _) = wt g l c + _
        rw [wor_cons, h.is]
      · exact Nat.succ_le_succ h.len
      · rw [run_cons, if_pos hok] at hr
        have := h.best y hy hr hl
        rw [wor_cons]
        rcases this with e | ⟨e, e2⟩
        · exact .inl (by show wt g l c + wor g l y < wt g l c + _; simp only at e ⊢; omega)
        · exact .inr ⟨by show wt g l c + _ = wt g l c + wor g l y; simp only at e ⊢; omega, Sle.cons c e2⟩
    have em : Lk ([] : List Nat) := fun c h => by simp at h
    -- what is walked begins with nothing, = or /
    have cas : ∀ z : List Nat, Lk z → (run sds k t z).isSome = true → z.length ≤ r + 1 → z = [] ∨ ∃ c y, z = c :: y ∧ (c = 61 ∨ c = 47) ∧ okS sds t c = true ∧ Lk y ∧ (run sds k t (c :: y)).isSome = true ∧ y.length ≤ r := by
      intro z hz hr hl
      cases z with
      | nil => exact .inl rfl
      | cons c y =>
        refine .inr ⟨c, y, rfl, hz c List.mem_cons_self, ?_, fun d hd => hz d (List.mem_cons_of_mem _ hd), hr, by simpa using hl⟩
        rw [run_cons] at hr
        by_cases e : okS sds t c = true
        · exact e
        · rw [if_neg e] at hr
          simp at hr
    have p0 : ∀ c, Gd2 (pick (0, []) (cand g l (optS sds k g l r) (c, tlK k (t ++ [c])))) (0, []) ∧ Gd2 (pick (0, []) (cand g l (optS sds k g l r) (c, tlK k (t ++ [c])))) (cand g l (optS sds k g l r) (c, tlK k (t ++ [c]))) := fun c => by
      refine pick_gd fun _ e => ?_
      simp [cand] at e
    unfold optS stps
    by_cases h1 : okS sds t 61 = true
    · obtain ⟨⟨a1, a2, a3, a4⟩, a5⟩ := cnd 61 (.inl rfl) h1
      by_cases h2 : okS sds t 47 = true
      · obtain ⟨⟨b1, b2, b3, b4⟩, b5⟩ := cnd 47 (.inr rfl) h2
        rw [List.filter_cons, if_pos h1, List.filter_cons, if_pos h2, List.filter_nil]
        simp only [List.map_cons, List.map_nil, List.foldl_cons, List.foldl_nil]
        have q1 := p0 61
        have q2 : Gd2 (pick (pick (0, []) (cand g l (optS sds k g l r) (61, tlK k (t ++ [61])))) (cand g l (optS sds k g l r) (47, tlK k (t ++ [47])))) (pick (0, []) (cand g l (optS sds k g l r) (61, tlK k (t ++ [61])))) ∧ Gd2 (pick (pick (0, []) (cand g l (optS sds k g l r) (61, tlK k (t ++ [61])))) (cand g l (optS sds k g l r) (47, tlK k (t ++ [47])))) (cand g l (optS sds k g l r) (47, tlK k (t ++ [47]))) := by
          refine pick_gd fun _ e => ?_
          rcases pick_or (0, []) (cand g l (optS sds k g l r) (61, tlK k (t ++ [61]))) with e3 | e3
          · rw [e3] at e
            simp [cand] at e
          · rw [e3] at e ⊢
            exact .inr ⟨e, by simp [cand, lexB]⟩
        have fin : ∀ z, Lk z → (run sds k t z).isSome = true → z.length ≤ r + 1 → Gd2 (pick (pick (0, []) (cand g l (optS sds k g l r) (61, tlK k (t ++ [61])))) (cand g l (optS sds k g l r) (47, tlK k (t ++ [47])))) (wor g l z, z) := fun z hz hr hl => by
          rcases cas z hz hr hl with e | ⟨c, y, rfl, hc, hok, hy, hr2, hl2⟩
          · subst e
            exact q2.1.trans q1.1
          · rcases hc with e | e
            · subst e
              exact (q2.1.trans q1.2).trans (a5 y hy hr2 hl2)
            · subst e
              exact q2.2.trans (b5 y hy hr2 hl2)
        rcases pick_or (pick (0, []) (cand g l (optS sds k g l r) (61, tlK k (t ++ [61])))) (cand g l (optS sds k g l r) (47, tlK k (t ++ [47]))) with e | e
        · rcases pick_or (0, []) (cand g l (optS sds k g l r) (61, tlK k (t ++ [61]))) with e3 | e3
          · rw [e3] at e fin
            rw [e3, e]
            rw [e] at fin
            exact ⟨em, rfl, rfl, Nat.zero_le _, fin⟩
          · rw [e3] at e fin
            rw [e3, e]
            rw [e] at fin
            exact ⟨a1, a2, a3, a4, fin⟩
        · rw [e] at fin ⊢
          exact ⟨b1, b2, b3, b4, fin⟩
      · rw [List.filter_cons, if_pos h1, List.filter_cons, if_neg h2, List.filter_nil]
        simp only [List.map_cons, List.map_nil, List.foldl_cons, List.foldl_nil]
        have q1 := p0 61
        have fin : ∀ z, Lk z → (run sds k t z).isSome = true → z.length ≤ r + 1 → Gd2 (pick (0, []) (cand g l (optS sds k g l r) (61, tlK k (t ++ [61])))) (wor g l z, z) := fun z hz hr hl => by
          rcases cas z hz hr hl with e | ⟨c, y, rfl, hc, hok, hy, hr2, hl2⟩
          · subst e
            exact q1.1
          · rcases hc with e | e
            · subst e
              exact q1.2.trans (a5 y hy hr2 hl2)
            · subst e
              exact absurd hok h2
        rcases pick_or (0, []) (cand g l (optS sds k g l r) (61, tlK k (t ++ [61]))) with e | e
        · rw [e] at fin ⊢
          exact ⟨em, rfl, rfl, Nat.zero_le _, fin⟩
        · rw [e] at fin ⊢
          exact ⟨a1, a2, a3, a4, fin⟩
    · by_cases h2 : okS sds t 47 = true
      · obtain ⟨⟨b1, b2, b3, b4⟩, b5⟩ := cnd 47 (.inr rfl) h2
        rw [List.filter_cons, if_neg h1, List.filter_cons, if_pos h2, List.filter_nil]
        simp only [List.map_cons, List.map_nil, List.foldl_cons, List.foldl_nil]
        have q1 := p0 47
        have fin : ∀ z, Lk z → (run sds k t z).isSome = true → z.length ≤ r + 1 → Gd2 (pick (0, []) (cand g l (optS sds k g l r) (47, tlK k (t ++ [47])))) (wor g l z, z) := fun z hz hr hl => by
          rcases cas z hz hr hl with e | ⟨c, y, rfl, hc, hok, hy, hr2, hl2⟩
          · subst e
            exact q1.1
          · rcases hc with e | e
            · subst e
              exact absurd hok h1
            · subst e
              exact q1.2.trans (b5 y hy hr2 hl2)
        rcases pick_or (0, []) (cand g l (optS sds k g l r) (47, tlK k (t ++ [47]))) with e | e
        · rw [e] at fin ⊢
          exact ⟨em, rfl, rfl, Nat.zero_le _, fin⟩
        · rw [e] at fin ⊢
          exact ⟨b1, b2, b3, b4, fin⟩
      · rw [List.filter_cons, if_neg h1, List.filter_cons, if_neg h2, List.filter_nil]
        simp only [List.map_nil, List.foldl_nil]
        refine ⟨em, rfl, rfl, Nat.zero_le _, fun z hz hr hl => ?_⟩
        rcases cas z hz hr hl with e | ⟨c, y, rfl, hc, hok, hy, hr2, hl2⟩
        · subst e
          exact Gd2.refl _
        · rcases hc with e | e <;> subst e
          · exact absurd hok h1
          · exact absurd hok h2
/-- where a pair more betters it, it is as long as may be -/
theorem optS_len {sds : List (List Nat)} {k : Nat} {g l : Int} {r : Nat} {t : List Nat} (h : optS sds k g l (r + 1) t ≠ optS sds k g l r t) : (optS sds k g l (r + 1) t).2.length = r + 1 := by
  have h1 := optS_is (sds := sds) (k := k) (g := g) (l := l) (r + 1) t
  have h2 := optS_is (sds := sds) (k := k) (g := g) (l := l) r t
  refine Classical.byContradiction fun hn => h (IsOpt.uniq (r := r) (t := t) ?_ h2)
  have := h1.len
  exact ⟨h1.lk, h1.ok, h1.is, by omega, fun z a b c => h1.best z a b (by omega)⟩
end Sr
namespace Sr
/-! ### all tails -/
def goals (sds : List (List Nat)) (k : Nat) (t : List Nat) : List (List Nat) := (stps sds k t).map (·.2)
def stp (sds : List (List Nat)) (k : Nat) : Nat → List (List Nat) → List (List Nat) → List (List Nat)
  | 0, ks, _ => ks
  | n + 1, ks, w => match w.getLast? with
    | none => ks
    | some t => if t ∈ ks then stp sds k n ks w.dropLast else stp sds k n (ks ++ [t]) (w.dropLast ++ goals sds k t)
def keys (sds : List (List Nat)) (k : Nat) : List (List Nat) := stp sds k 1000 [] [[]]
theorem goals_len (sds : List (List Nat)) (k : Nat) (t : List Nat) : (goals sds k t).length ≤ 2 := by
  unfold goals stps
  rw [List.length_map, List.length_map]
  exact Nat.le_trans (List.length_filter_le _ _) (by decide)
theorem mem_stps {sds : List (List Nat)} {k : Nat} {t : List Nat} {p : Nat × List Nat} : p ∈ stps sds k t ↔ (p.1 = 61 ∨ p.1 = 47) ∧ okS sds t p.1 = true ∧ p.2 = tlK k (t ++ [p.1]) := by
  unfold stps
  rw [List.mem_map]
  constructor
  · rintro ⟨c, hc, rfl⟩
    rw [List.mem_filter] at hc
    exact ⟨by simpa using hc.1, hc.2, rfl⟩
  · rintro ⟨h1, h2, h3⟩
    exact ⟨p.1, List.mem_filter.mpr ⟨by simpa using h1, h2⟩, by rw [← h3]⟩
/-- a tail: of likes, no more than k, no unlike one first -/
structure Tl (k : Nat) (t : List Nat) : Prop where
  fix : tlK k t = t
  lk : Lk t
theorem Lk.tlK {k : Nat} {z : List Nat} (h : Lk z) : Lk (Sr.tlK k z) := fun c hc => by
  unfold Sr.tlK at hc
  exact h c (List.mem_of_mem_drop ((List.dropWhile_sublist _).subset hc))
theorem Tl.nil (k : Nat) : Tl k [] := ⟨by unfold tlK; simp, fun c h => by simp at h⟩
theorem Tl.step {k : Nat} {t : List Nat} (h : Tl k t) {c : Nat} (hc : c = 61 ∨ c = 47) : Tl k (tlK k (t ++ [c])) :=
  ⟨tlK_idem _ _, Lk.tlK fun d hd => by
    rcases List.mem_append.mp hd with e | e
    · exact h.lk d e
    · rw [List.mem_singleton.mp e]; exact hc⟩
theorem Tl.goal {k : Nat} {t u : List Nat} {sds : List (List Nat)} (h : Tl k t) (hu : u ∈ goals sds k t) : Tl k u := by
  unfold goals at hu
  obtain ⟨p, hp, rfl⟩ := List.mem_map.mp hu
  obtain ⟨h1, h2, h3⟩ := mem_stps.mp hp
  rw [h3]
  exact h.step h1
theorem Tl.len {k : Nat} {t : List Nat} (h : Tl k t) : t.length ≤ k := by rw [← h.fix]; exact tlK_len _ _
/-! how many there may be -/
theorem nodup_le : ∀ {l u : List (List Nat)}, l.Nodup → (∀ x ∈ l, x ∈ u) → l.length ≤ u.length
  | [], u, _, _ => Nat.zero_le _
  | a :: l, u, hn, h => by
    rw [List.nodup_cons] at hn
    have ha := h a List.mem_cons_self
    have := nodup_le (l := l) (u := u.erase a) hn.2 fun x hx => by
      refine (List.mem_erase_of_ne ?_).mpr (h x (List.mem_cons_of_mem _ hx))
      rintro rfl
      exact hn.1 hx
    rw [List.length_erase_of_mem ha] at this
    have hp := List.length_pos_of_mem ha
    rw [List.length_cons]
    omega
def allL : Nat → List (List Nat)
  | 0 => [[]]
  | n + 1 => [] :: ((allL n).map (61 :: ·) ++ (allL n).map (47 :: ·))
theorem allL_len : ∀ n, (allL n).length + 1 = 2 ^ (n + 1)
  | 0 => rfl
  | n + 1 => by
    have := allL_len n
    rw [allL, List.length_cons, List.length_append, List.length_map, List.length_map, Nat.pow_succ, ← this]
    omega
theorem mem_allL : ∀ {n : Nat} {z : List Nat}, Lk z → z.length ≤ n → z ∈ allL n
  | 0, z, _, hz => by
    rw [List.length_eq_zero_iff.mp (Nat.le_zero.mp hz)]
    exact List.mem_singleton.mpr rfl
  | n + 1, [], _, _ => List.mem_cons_self
  | n + 1, c :: z, hl, hz => by
    have ih := mem_allL (n := n) (z := z) (fun d hd => hl d (List.mem_cons_of_mem _ hd)) (by simpa using hz)
    refine List.mem_cons_of_mem _ (List.mem_append.mpr ?_)
    rcases hl c List.mem_cons_self with e | e
    · rw [e]; exact .inl (List.mem_map.mpr ⟨z, ih, rfl⟩)
    · rw [e]; exact .inr (List.mem_map.mpr ⟨z, ih, rfl⟩)
theorem tails_le {k : Nat} (hk : k ≤ 7) {ks : List (List Nat)} (hn : ks.Nodup) (ht : ∀ t ∈ ks, Tl k t) : ks.length ≤ 255 := by
  have h1 := nodup_le hn fun x hx => mem_allL (n := 7) (ht x hx).lk (Nat.le_trans (ht x hx).len hk)
  have h2 := allL_len 7
  omega
/-- where the search for tails stands -/
structure StpI (sds : List (List Nat)) (k : Nat) (ks w : List (List Nat)) : Prop where
  nodup : ks.Nodup
  tl : ∀ t ∈ ks, Tl k t
  wtl : ∀ t ∈ w, Tl k t
  closed : ∀ t ∈ ks, ∀ u ∈ goals sds k t, u ∈ ks ∨ u ∈ w
  root : [] ∈ ks ∨ [] ∈ w
def msr (ks w : List (List Nat)) : Nat := 2 * (256 - ks.length) + w.length
theorem snoc_of {α : Type} {w : List α} {t : α} (h : w.getLast? = some t) : w = w.dropLast ++ [t] := by
  have hne : w ≠ [] := fun e => by rw [e] at h; cases h
  have := List.dropLast_concat_getLast hne
  rw [List.getLast?_eq_getLast hne] at h
  rw [Option.some.inj h] at this
  exact this.symm
theorem StpI.old {sds : List (List Nat)} {k : Nat} {ks w : List (List Nat)} {t : List Nat} (h : StpI sds k ks w) (hl : w.getLast? = some t) (ht : t ∈ ks) : StpI sds k ks w.dropLast := by
  have e := snoc_of hl
  have mem : ∀ u, u ∈ w → u ∈ ks ∨ u ∈ w.dropLast := fun u hu => by
    rw [e] at hu
    rcases List.mem_append.mp hu with q | q
    · exact .inr q
    · rw [List.mem_singleton.mp q]; exact .inl ht
  refine ⟨h.nodup, h.tl, fun u hu => h.wtl u ((List.dropLast_sublist _).subset hu), fun u hu v hv => ?_, ?_⟩
  · rcases h.closed u hu v hv with q | q
    · exact .inl q
    · exact mem v q
  · rcases h.root with q | q
    · exact .inl q
    · exact mem _ q
theorem StpI.new {sds : List (List Nat)} {k : Nat} {ks w : List (List Nat)} {t : List Nat} (h : StpI sds k ks w) (hl : w.getLast? = some t) (ht : t ∉ ks) : StpI sds k (ks ++ [t]) (w.dropLast ++ goals sds k t) := by
  have e := snoc_of hl
  have htl : Tl k t := h.wtl t (by rw [e]; exact List.mem_append_right _ (List.mem_singleton.mpr rfl))
  have mem : ∀ u, u ∈ w → u ∈ ks ++ [t] ∨ u ∈ w.dropLast ++ goals sds k t := fun u hu => by
    rw [e] at hu
    rcases List.mem_append.mp hu with q | q
    · exact .inr (List.mem_append_left _ q)
    · exact .inl (List.mem_append_right _ q)
  refine ⟨?_, fun u hu => ?_, fun u hu => ?_, fun u hu v hv => ?_, ?_⟩
  · rw [List.nodup_append]
    refine ⟨h.nodup, by simp, fun a ha b hb q => ?_⟩
    rw [List.mem_singleton.mp hb] at q
    exact ht (q ▸ ha)
  · rcases List.mem_append.mp hu with q | q
    · exact h.tl u q
    · rw [List.mem_singleton.mp q]; exact htl
  · rcases List.mem_append.mp hu with q | q
    · exact h.wtl u ((List.dropLast_sublist _).subset q)
    · exact htl.goal q
  · rcases List.mem_append.mp hu with q | q
    · rcases h.closed u q v hv with r | r
      · exact .inl (List.mem_append_left _ r)
      · exact mem v r
    · rw [List.mem_singleton.mp q] at hv
      exact .inr (List.mem_append_right _ hv)
  · rcases h.root with q | q
    · exact .inl (List.mem_append_left _ q)
    · exact mem _ q
theorem msr_old {ks w : List (List Nat)} {t : List Nat} (hl : w.getLast? = some t) : msr ks w.dropLast < msr ks w := by
  have e := congrArg List.length (snoc_of hl)
  rw [List.length_append] at e
  unfold msr
  simp only [List.length_cons, List.length_nil] at e
  omega
theorem msr_new {sds : List (List Nat)} {k : Nat} (hk : k ≤ 7) {ks w : List (List Nat)} {t : List Nat} (h : StpI sds k ks w) (hl : w.getLast? = some t) (ht : t ∉ ks) : msr (ks ++ [t]) (w.dropLast ++ goals sds k t) < msr ks w := by
  have e := congrArg List.length (snoc_of hl)
  have h1 := tails_le hk (h.new hl ht).nodup (h.new hl ht).tl
  have h2 := goals_len sds k t
  unfold msr
  simp only [List.length_append, List.length_cons, List.length_nil] at e h1 ⊢
  omega
theorem stp_is {sds : List (List Nat)} {k : Nat} (hk : k ≤ 7) : ∀ (n : Nat) (ks w : List (List Nat)), StpI sds k ks w → msr ks w < n → StpI sds k (stp sds k n ks w) []
  | 0, _, _, _, h => by omega
  | n + 1, ks, w, h, hm => by
    unfold stp
    cases hl : w.getLast? with
    | none =>
      have : w = [] := List.getLast?_eq_none_iff.mp hl
      subst this
      exact h
    | some t =>
      show StpI sds k (if t ∈ ks then _ else _) []
      by_cases ht : t ∈ ks
      · rw [if_pos ht]
        exact stp_is hk n _ _ (h.old hl ht) (by have := msr_old (ks := ks) hl; omega)
      · rw [if_neg ht]
        exact stp_is hk n _ _ (h.new hl ht) (by have := msr_new hk h hl ht; omega)
theorem StpI.start (sds : List (List Nat)) (k : Nat) : StpI sds k [] [[]] :=
  ⟨List.nodup_nil, fun t h => by simp at h, fun t h => by rw [List.mem_singleton.mp h]; exact Tl.nil k, fun t h => by simp at h, .inr (List.mem_singleton.mpr rfl)⟩
structure KeysI (sds : List (List Nat)) (k : Nat) (ks : List (List Nat)) : Prop where
  nodup : ks.Nodup
  tl : ∀ t ∈ ks, Tl k t
  closed : ∀ t ∈ ks, ∀ u ∈ goals sds k t, u ∈ ks
  root : [] ∈ ks
  len : ks.length ≤ 255
theorem keys_is {sds : List (List Nat)} {k : Nat} (hk : k ≤ 7) : KeysI sds k (keys sds k) := by
  have h := stp_is hk 1000 _ _ (StpI.start sds k) (by decide)
  refine ⟨h.nodup, h.tl, fun t ht u hu => ?_, ?_, tails_le hk h.nodup h.tl⟩
  · rcases h.closed t ht u hu with q | q
    · exact q
    · simp at q
  · rcases h.root with q | q
    · exact q
    · simp at q
theorem KeysI.step {sds : List (List Nat)} {k : Nat} {ks : List (List Nat)} (h : KeysI sds k ks) {t : List Nat} (ht : t ∈ ks) {c : Nat} (hc : c = 61 ∨ c = 47) (ho : okS sds t c = true) : tlK k (t ++ [c]) ∈ ks :=
  h.closed t ht _ (by
    unfold goals
    exact List.mem_map.mpr ⟨(c, tlK k (t ++ [c])), mem_stps.mpr ⟨hc, ho, rfl⟩, rfl⟩)
/-! ### rings -/
def rgo (k : Nat) (vis : List (List Nat)) (t : List Nat) (don : List Nat) : List Nat → List Nat
  | [] => []
  | c :: z => if tlK k (t ++ [c]) ∈ vis then (don ++ [c]).drop (vis.idxOf (tlK k (t ++ [c]))) else rgo k (vis ++ [tlK k (t ++ [c])]) (tlK k (t ++ [c])) (don ++ [c]) z
/-- the way so far: vis are all tails that were come by, behind done -/
structure RgI (sds : List (List Nat)) (k : Nat) (ks : List (List Nat)) (t0 : List Nat) (vis : List (List Nat)) (t don : List Nat) : Prop where
  len : vis.length = don.length + 1
  nodup : vis.Nodup
  mem : ∀ u ∈ vis, u ∈ ks
  at_ : ∀ i u, vis[i]? = some u → run sds k t0 (don.take i) = some u
  here : run sds k t0 don = some t
theorem RgI.start {sds : List (List Nat)} {k : Nat} {ks : List (List Nat)} {t0 : List Nat} (h : t0 ∈ ks) : RgI sds k ks t0 [t0] t0 [] :=
  ⟨rfl, by simp, fun u hu => by rw [List.mem_singleton.mp hu]; exact h, fun i u e => by
    cases i with
    | zero => exact e
    | succ i => simp at e, rfl⟩
theorem RgI.last {sds : List (List Nat)} {k : Nat} {ks : List (List Nat)} {t0 t don : List Nat} {vis : List (List Nat)} (h : RgI sds k ks t0 vis t don) : t ∈ vis := by
  have hl := h.len
  have e : vis[don.length]? = some vis[don.length] := List.getElem?_eq_getElem (by omega)
  have := h.at_ _ _ e
  rw [List.take_length, h.here] at this
  rw [Option.some.inj this]
  exact List.getElem_mem _
theorem RgI.step {sds : List (List Nat)} {k : Nat} {ks : List (List Nat)} (hk : KeysI sds k ks) {t0 t don : List Nat} {vis : List (List Nat)} (h : RgI sds k ks t0 vis t don) {c : Nat} (hc : c = 61 ∨ c = 47) (ho : okS sds t c = true) (hn : tlK k (t ++ [c]) ∉ vis) :
    RgI sds k ks t0 (vis ++ [tlK k (t ++ [c])]) (tlK k (t ++ [c])) (don ++ [c]) := by
  have hrun : run sds k t0 (don ++ [c]) = some (tlK k (t ++ [c])) := by
    rw [run_app, h.here]
    show run sds k t [c] = _
    rw [run_cons, if_pos ho]
    rfl
  refine ⟨by rw [List.length_append, List.length_append, h.len]; rfl, ?_, fun u hu => ?_, fun i u e => ?_, hrun⟩
  · rw [List.nodup_append]
    refine ⟨h.nodup, by simp, fun a ha b hb q => ?_⟩
    rw [List.mem_singleton.mp hb] at q
    exact hn (q ▸ ha)
  · rcases List.mem_append.mp hu with q | q
    · exact h.mem u q
    · rw [List.mem_singleton.mp q]
      exact hk.step (h.mem t h.last) hc ho
  · have hl := h.len
    by_cases hi : i < vis.length
    · rw [List.getElem?_append_left hi] at e
      rw [List.take_append_of_le_length (by omega)]
      exact h.at_ i u e
    · have hi2 := (List.getElem?_eq_some_iff.mp e).1
      rw [List.length_append, List.length_cons, List.length_nil] at hi2
      have : i = vis.length := by omega
      subst this
      rw [List.getElem?_append_right (Nat.le_refl _), Nat.sub_self] at e
      rw [List.take_of_length_le (by rw [List.length_append, hl]; exact Nat.le_refl _), hrun]
      exact e
/-- what a ring is found for: a way that comes by a tail twice -/
theorem rgo_is {sds : List (List Nat)} {k : Nat} {ks : List (List Nat)} (hk : KeysI sds k ks) {t0 : List Nat} : ∀ (z : List Nat) (vis : List (List Nat)) (t don : List Nat), RgI sds k ks t0 vis t don → Lk z → (run sds k t z).isSome = true →
    (∃ a r b u, don ++ z = a ++ (r ++ b) ∧ rgo k vis t don z = r ∧ r ≠ [] ∧ u ∈ ks ∧ run sds k t0 a = some u ∧ run sds k u r = some u) ∨ (rgo k vis t don z = [] ∧ don.length + z.length + 1 ≤ ks.length)
  | [], vis, t, don, h, _, _ => .inr ⟨rfl, by
      have := nodup_le h.nodup h.mem
      rw [h.len] at this
      exact this⟩
  | c :: z, vis, t, don, h, hz, hr => by
    have hc := hz c List.mem_cons_self
    rw [run_cons] at hr
    have ho : okS sds t c = true := by
      refine Classical.byContradiction fun e => ?_
      rw [if_neg e] at hr
      simp at hr
    rw [if_pos ho] at hr
    unfold rgo
    by_cases hm : tlK k (t ++ [c]) ∈ vis
    · rw [if_pos hm]
      have hj := List.idxOf_lt_length_of_mem hm
      have hg : vis[vis.idxOf (tlK k (t ++ [c]))]? = some (tlK k (t ++ [c])) := by
        rw [List.getElem?_eq_getElem hj]
        exact congrArg some (List.getElem_idxOf hj)
      have h1 := h.at_ _ _ hg
      generalize vis.idxOf (tlK k (t ++ [c])) = j at hj h1
      have hl := h.len
      have hfull : run sds k t0 (don ++ [c]) = some (tlK k (t ++ [c])) := by
        rw [run_app, h.here]
        show run sds k t [c] = _
        rw [run_cons, if_pos ho]
        rfl
      have esp : (don ++ [c]).take j = don.take j := List.take_append_of_le_length (by omega)
      have e2 : don ++ [c] = don.take j ++ (don ++ [c]).drop j := by
        rw [← esp, List.take_append_drop]
      refine .inl ⟨don.take j, (don ++ [c]).drop j, z, tlK k (t ++ [c]), ?_, rfl, fun q => ?_, h.mem _ hm, h1, ?_⟩
      · rw [← List.append_assoc, ← e2]
        simp
      · have := congrArg List.length q
        simp only [List.length_drop, List.length_append, List.length_cons, List.length_nil] at this
        omega
      · rw [e2, run_app, h1] at hfull
        exact hfull
    · rw [if_neg hm]
      have := rgo_is hk z _ _ _ (h.step hk hc ho hm) (fun d hd => hz d (List.mem_cons_of_mem _ hd)) hr
      rw [show don ++ c :: z = don ++ [c] ++ z by simp, show don.length + (c :: z).length = (don ++ [c]).length + z.length by simp; omega]
      exact this
/-! ### what bar tells -/
def betd (sds : List (List Nat)) (k : Nat) (g l : Int) (ks : List (List Nat)) (r : Nat) : List (List Nat) := ks.filter fun t => decide (optS sds k g l (r + 1) t ≠ optS sds k g l r t)
def barGo (sds : List (List Nat)) (k : Nat) (g l : Int) (ks : List (List Nat)) : Nat → Nat → BarR
  | 0, _ => .bar 0 []
  | n + 1, r => match betd sds k g l ks r with
    | [] => .bar (optS sds k g l r []).1 (optS sds k g l r []).2
    | t :: _ => if rgo k [t] t [] (optS sds k g l (r + 1) t).2 = [] then barGo sds k g l ks n (r + 1) else .ring [] (rgo k [t] t [] (optS sds k g l (r + 1) t).2)
theorem opt_fix {sds : List (List Nat)} {k : Nat} {g l : Int} {ks : List (List Nat)} (hk : KeysI sds k ks) {r : Nat} (hf : ∀ t ∈ ks, optS sds k g l (r + 1) t = optS sds k g l r t) : ∀ n, ∀ t ∈ ks, optS sds k g l (r + n) t = optS sds k g l r t
  | 0, t, _ => rfl
  | n + 1, t, ht => by
    have ih := opt_fix hk hf n
    rw [← hf t ht]
    show ((stps sds k t).map (cand g l (optS sds k g l (r + n)))).foldl pick (0, []) = ((stps sds k t).map (cand g l (optS sds k g l r))).foldl pick (0, [])
    congr 1
    refine List.map_congr_left fun p hp => ?_
    unfold cand
    rw [ih p.2 (hk.closed t ht _ (by unfold goals; exact List.mem_map.mpr ⟨p, hp, rfl⟩))]
theorem fix_bar {sds : List (List Nat)} {k : Nat} {g l : Int} {ks : List (List Nat)} (hs : SdK k sds) (hk : KeysI sds k ks) {r : Nat} (hr : r ≤ 1000) (hf : ∀ t ∈ ks, optS sds k g l (r + 1) t = optS sds k g l r t) :
    IsBar sds g l (optS sds k g l r []).1 (optS sds k g l r []).2 := by
  have h := optS_is (sds := sds) (k := k) (g := g) (l := l) r []
  have big : ∀ z, Lk z → Free sds z → Gd2 (optS sds k g l r []) (wor g l z, z) := fun z hz hfz => by
    have h2 := optS_is (sds := sds) (k := k) (g := g) (l := l) (r + z.length) []
    rw [opt_fix hk hf z.length [] hk.root] at h2
    exact h2.best z hz ((free_run hs).mp hfz) (by omega)
  refine ⟨h.lk, (free_run hs).mpr h.ok, h.is, fun z hz hfz => ?_, fun z hz hfz e => ?_, by have := h.len; omega⟩
  · rcases big z hz hfz with q | ⟨q, _⟩
    · exact Int.le_of_lt q
    · exact Int.le_of_eq q.symm
  · rcases big z hz hfz with q | ⟨_, q⟩
    · have q' : wor g l z < (optS sds k g l r []).1 := q
      omega
    · exact q
theorem ring_pos {sds : List (List Nat)} {k : Nat} {g l : Int} {r : Nat} {t a q b u : List Nat} (h : IsOpt sds k g l r t (optS sds k g l r t)) (e : (optS sds k g l r t).2 = a ++ (q ++ b)) (hq : q ≠ []) (h1 : run sds k t a = some u) (h2 : run sds k u q = some u) : 0 < wor g l q := by
  have hlk := h.lk
  have hok := h.ok
  have his := h.is
  have hle := h.len
  rw [e] at hlk hok his hle
  have hql : 0 < q.length := by
    cases q with
    | nil => exact absurd rfl hq
    | cons c q => exact Nat.succ_pos _
  have hb := h.best (a ++ b) (fun c hc => hlk c (by
    rcases List.mem_append.mp hc with x | x
    · exact List.mem_append_left _ x
    · exact List.mem_append_right _ (List.mem_append_right _ x))) (by
    rw [run_app, h1] at hok ⊢
    rw [Option.bind_some, run_app, h2] at hok
    exact hok) (by simp only [List.length_append] at hle ⊢; omega)
  rw [wor_app, wor_app] at his
  rcases hb with x | ⟨x, y⟩
  · have x' : wor g l (a ++ b) < (optS sds k g l r t).1 := x
    rw [wor_app] at x'
    omega
  · have y' : Sle (optS sds k g l r t).2 (a ++ b) := y
    have := y'.len
    rw [e] at this
    simp only [List.length_append] at this
    omega
theorem barGo_ok {sds : List (List Nat)} {k : Nat} {g l : Int} {ks : List (List Nat)} (hs : SdK k sds) (hk : KeysI sds k ks) : ∀ (n r : Nat), 256 < n + r → r ≤ 256 → BarOk sds g l (barGo sds k g l ks n r)
  | 0, r, h1, h2 => by omega
  | n + 1, r, h1, h2 => by
    unfold barGo
    cases hb : betd sds k g l ks r with
    | nil =>
      refine fix_bar hs hk (by omega) fun t ht => ?_
      refine Classical.byContradiction fun e => ?_
      have : t ∈ betd sds k g l ks r := List.mem_filter.mpr ⟨ht, decide_eq_true e⟩
      rw [hb] at this
      simp at this
    | cons t r2 =>
      have hm : t ∈ betd sds k g l ks r := by rw [hb]; exact List.mem_cons_self
      obtain ⟨ht, hne⟩ := List.mem_filter.mp hm
      have hne := of_decide_eq_true hne
      have hlen := optS_len hne
      have ho := optS_is (sds := sds) (k := k) (g := g) (l := l) (r + 1) t
      show BarOk sds g l (if rgo k [t] t [] (optS sds k g l (r + 1) t).2 = [] then _ else _)
      rcases rgo_is hk (optS sds k g l (r + 1) t).2 [t] t [] (RgI.start ht) ho.lk ho.ok with ⟨a, q, b, u, e1, e2, e3, e4, e5, e6⟩ | ⟨e1, e2⟩
      · rw [if_neg (by rw [e2]; exact e3), e2]
        rw [List.nil_append] at e1
        have hu := hk.tl u e4
        have hql : q.length ≤ 1000 := by
          have := congrArg List.length e1
          simp only [List.length_append] at this
          omega
        have hlk := ho.lk
        rw [e1] at hlk
        refine ⟨fun c hc => by simp at hc, fun c hc => hlk c (List.mem_append_right _ (List.mem_append_left _ hc)), fun m => ?_, ring_pos ho e1 e3 e5 e6, Nat.zero_le _, hql⟩
        rw [List.nil_append]
        exact run_free hs hu.fix (by rw [run_rp e6]; rfl)
      · rw [if_pos e1]
        rw [hlen, List.length_nil] at e2
        have := hk.len
        exact barGo_ok hs hk n (r + 1) (by omega) (by omega)
def mxL : List Nat → Nat
  | [] => 0
  | a :: l => max a (mxL l)
theorem mxL_ge : ∀ {l : List Nat} {x : Nat}, x ∈ l → x ≤ mxL l
  | a :: l, x, h => by
    rcases List.mem_cons.mp h with e | e
    · subst e; exact Nat.le_max_left _ _
    · exact Nat.le_trans (mxL_ge e) (Nat.le_max_right _ _)
theorem mxL_le : ∀ {l : List Nat} {m : Nat}, (∀ x ∈ l, x ≤ m) → mxL l ≤ m
  | [], m, _ => Nat.zero_le _
  | a :: l, m, h => Nat.max_le.mpr ⟨h a List.mem_cons_self, mxL_le fun x hx => h x (List.mem_cons_of_mem _ hx)⟩
def kM (sds : List (List Nat)) : Nat := mxL (sds.map List.length) - 1
def barM (sds : List (List Nat)) (g l : Int) : BarR := barGo sds (kM sds) g l (keys sds (kM sds)) 300 0
theorem SdK.of {n : Nat} {sds : List (List Nat)} (h : ∀ sd ∈ sds, Sd n sd) : SdK (kM sds) sds :=
  ⟨fun sd hs => (h sd hs).one, fun sd hs => by
    have := mxL_ge (List.mem_map.mpr ⟨sd, hs, rfl⟩ : sd.length ∈ sds.map List.length)
    have h1 := (h sd hs).one
    unfold kM
    omega, fun sd hs => (h sd hs).first⟩
theorem kM_le {sds : List (List Nat)} (h : ∀ sd ∈ sds, Sd 8 sd) : kM sds ≤ 7 := by
  have : mxL (sds.map List.length) ≤ 8 := mxL_le fun x hx => by
    obtain ⟨sd, hs, rfl⟩ := List.mem_map.mp hx
    exact (h sd hs).most
  unfold kM
  omega
theorem barM_ok {sds : List (List Nat)} {g l : Int} (h : ∀ sd ∈ sds, Sd 8 sd) : BarOk sds g l (barM sds g l) :=
  barGo_ok (SdK.of h) (keys_is (kM_le h)) 300 0 (by decide) (by decide)
end Sr

namespace L2
open PySem PySem.Spec PyProof.Rows LamX
/-! ### a lambda that captures nothing, as a known object -/
structure LF where
  qual : Str
  params : Arguments
  body : Expr
  scope : Scope
  c : Addr
abbrev LF.obj (F : LF) (pm ctv : Value) : Obj := PySem.W.kla_obj "<lambda>" F.qual F.params F.body F.scope [] pm F.c ctv
def LamO (f : Addr) (F : LF) : HO := .ext fun h => ∃ (pm ctv : Value), h.get? f = some (F.obj pm ctv)
theorem lamO_ne {f : Addr} {F : LF} (ps : Array Value) : LamO f F ≠ .tbl ps := fun z => by
  unfold LamO at z
  cases z
theorem upd_none' {H : Hp} {a b : Addr} {o : HO} (e : upd H a o b = Option.none) : H b = Option.none := by
  unfold upd at e
  split at e
  · cases e
  · exact e
section
variable {X : Cx} {pins : List (Addr × Obj)} {σ : St} {H : Hp} {s : Shared}
theorem inv_lam {F : LF} {t' : Nat} {pm ctv : Value} (I : Inv X pins σ H s) :
    Inv X pins σ (upd H s.heap.objs.size (LamO s.heap.objs.size F)) { s with heap := s.heap.push (F.obj pm ctv), toks := t' } := by
  refine I.laid (a := s.heap.objs.size) (fun b u e => Heap.get?_push_of_some _ e) (Nat.le_refl _) ?_
  have e : (s.heap.push (F.obj pm ctv)).get? s.heap.objs.size = some (F.obj pm ctv) := Heap.get?_push_size _ rfl
  exact ⟨⟨pm, ctv, e⟩, ⟨_, e⟩, fun h1 h2 ⟨p, t, z⟩ st => ⟨p, t, st _ z⟩⟩
end
/-! ### heaps between which the table at P may have grown -/
theorem tabS_upd {H : Hp} {P D : Addr} {q : Str} {o : HO} (t : TabS H P q) (h1 : ∀ ps, H D ≠ some (.tbl ps)) (h2 : ∀ φ, H D ≠ some (.ext φ)) : TabS (upd H D o) P q := by
  obtain ⟨ps, a, b, c⟩ := t
  refine ⟨ps, by rw [upd_ne (fun z => h1 ps (by rw [← z]; exact a))]; exact a, b, fun pos cv hc => ?_⟩
  obtain ⟨c0, e1, e2⟩ := c pos cv hc
  exact ⟨c0, e1, by rw [upd_ne (fun z => h2 _ (by rw [← z]; exact e2))]; exact e2⟩
structure SmT (P : Addr) (q : Str) (H H' : Hp) : Prop where
  k : ∀ b o, H b = some o → (∀ ps, o ≠ .tbl ps) → H' b = some o
  k' : ∀ b o, b ≠ P → H b = some o → H' b = some o
  t : TabS H P q → TabS H' P q
section
variable {P : Addr} {q : Str} {H H1 H2 H' : Hp}
theorem SmT.refl (H : Hp) : SmT P q H H := ⟨fun _ _ h _ => h, fun _ _ _ h => h, fun h => h⟩
theorem SmT.trans (a : SmT P q H H1) (b : SmT P q H1 H2) : SmT P q H H2 := ⟨fun c o h n => b.k c o (a.k c o h n) n, fun c o n h => b.k' c o n (a.k' c o n h), fun h => b.t (a.t h)⟩
theorem SmT.of (e : Same H H') : SmT P q H H' := ⟨fun b o h _ => e b o h, fun b o _ h => e b o h, fun h => h.ext e⟩
theorem SmT.new {p : Addr} {o : HO} (h : H p = none) : SmT P q H (upd H p o) := SmT.of fun b x e => by
  rw [upd_ne (ne_of_none e h)]
  exact e
theorem SmT.lst (e : SmT P q H H') {a : Addr} {xs : List V} (h : H a = some (.lst xs)) : H' a = some (.lst xs) := e.k _ _ h fun _ z => nomatch z
theorem SmT.tup (e : SmT P q H H') {a : Addr} {xs : List V} (h : H a = some (.tup xs)) : H' a = some (.tup xs) := e.k _ _ h fun _ z => nomatch z
theorem SmT.dK (e : SmT P q H H') {a : Addr} {xs : List (Key × V)} (h : H a = some (.dK xs)) : H' a = some (.dK xs) := e.k _ _ h fun _ z => nomatch z
theorem SmT.frz (e : SmT P q H H') {a : Addr} {o : Obj} {u : HO} (h : H a = some (.frz o u)) : H' a = some (.frz o u) := e.k _ _ h fun _ z => nomatch z
theorem SmT.rdD (e : SmT P q H H') {a : Addr} {xs : List (Key × V)} (h : Rd H a (.dK xs)) : Rd H' a (.dK xs) := by
  rcases h with h | ⟨o, h⟩
  · exact .inl (e.dK h)
  · exact .inr ⟨o, e.frz h⟩
theorem SmT.seq {K : PySem.W.Frag} {a : Addr} {xs : List V} (e : SmT P q H H') (h : SqL K H a xs) : SqL K H' a xs := by
  rcases h with (h | ⟨o, h⟩) | h
  · exact .inl (.inl (e.lst h))
  · exact .inl (.inr ⟨o, e.frz h⟩)
  · exact .inr h
theorem SmT.seqT {K : PySem.W.Frag} {a : Addr} {xs : List V} (e : SmT P q H H') (h : SqT K H a xs) : SqT K H' a xs := by
  rcases h with (h | ⟨o, h⟩) | h
  · exact .inl (.inl (e.tup h))
  · exact .inl (.inr ⟨o, e.frz h⟩)
  · exact .inr h
theorem SmT.free (e : SmT P q H H') (hT : TabS H P q) {l : Addr} (h : H' l = none) : H l = none := by
  cases z : H l with
  | none => rfl
  | some o =>
    by_cases hl : l = P
    · subst hl
      obtain ⟨ps', h1, _⟩ := e.t hT
      rw [h1] at h
      cases h
    · rw [e.k' l o hl z] at h
      cases h
/-- a thing that was new at the start, no table, no code object, is written -/
theorem SmT.put (e : SmT P q H H') {D : Addr} {o : HO} (hD : H D = none) (h1 : ∀ ps, H' D ≠ some (.tbl ps)) (h2 : ∀ φ, H' D ≠ some (.ext φ)) : SmT P q H (upd H' D o) :=
  ⟨fun b x hb n => by rw [upd_ne (ne_of_none hb hD)]; exact e.k b x hb n, fun b x hn hb => by rw [upd_ne (ne_of_none hb hD)]; exact e.k' b x hn hb, fun t => tabS_upd (e.t t) h1 h2⟩
theorem SmT.putD (e : SmT P q H H') {D : Addr} {o : HO} {kvs : List (Key × V)} (hD : H D = none) (h : H' D = some (.dK kvs)) : SmT P q H (upd H' D o) :=
  e.put hD (fun _ z => by rw [h] at z; cases z) fun _ z => by rw [h] at z; cases z
theorem SmT.putL (e : SmT P q H H') {D : Addr} {o : HO} {xs : List V} (hD : H D = none) (h : H' D = some (.lst xs)) : SmT P q H (upd H' D o) :=
  e.put hD (fun _ z => by rw [h] at z; cases z) fun _ z => by rw [h] at z; cases z
theorem SmT.lock {sp : Addr} {od : Obj} {kvs : List (Key × V)} (hd : H sp = some (.dK kvs)) (e : SmT P q (upd H sp (.frz od (.dK kvs))) H2) : SmT P q H (upd H2 sp (.dK kvs)) := by
  have hf : H2 sp = some (.frz od (.dK kvs)) := e.frz upd_same
  refine ⟨fun b o hb n => ?_, fun b o hn hb => ?_, fun t => tabS_upd (e.t (tabS_upd t (fun _ z => by rw [hd] at z; cases z) fun _ z => by rw [hd] at z; cases z)) (fun _ z => by rw [hf] at z; cases z) fun _ z => by rw [hf] at z; cases z⟩
  · by_cases h : b = sp
    · rw [h, hd] at hb
      rw [h, upd_same]
      exact hb
    · rw [upd_ne h]
      exact e.k b o (by rw [upd_ne h]; exact hb) n
  · by_cases h : b = sp
    · rw [h, hd] at hb
      rw [h, upd_same]
      exact hb
    · rw [upd_ne h]
      exact e.k' b o hn (by rw [upd_ne h]; exact hb)
theorem Same.lockD {sp : Addr} {od : Obj} {kvs : List (Key × V)} (hd : H sp = some (.dK kvs)) (e : Same (upd H sp (.frz od (.dK kvs))) H2) : Same H (upd H2 sp (.dK kvs)) := fun b o hb => by
  by_cases h : b = sp
  · rw [h, hd] at hb
    rw [h, upd_same]
    exact hb
  · rw [upd_ne h]
    exact e b o (by rw [upd_ne h]; exact hb)
theorem Same.putN (e : Same H H') {D : Addr} {o : HO} (hD : H D = none) : Same H (upd H' D o) := fun b x hb => by
  rw [upd_ne (ne_of_none hb hD)]
  exact e b x hb
theorem Same.rdD (e : Same H H') {a : Addr} {xs : List (Key × V)} (h : Rd H a (.dK xs)) : Rd H' a (.dK xs) := by
  rcases h with h | ⟨o, h⟩
  · exact .inl (e _ _ h)
  · exact .inr ⟨o, e _ _ h⟩
end
def tLamF (P : Addr) (q : Str) (params : Arguments) (body : Expr) (scope : Scope) : TE := fun _ H Q => TabS H P q ∧
  ∀ (f c' : Addr) (H1 : Hp), SmT P q H H1 → H f = none → H1 f = some (LamO f ⟨q, params, body, scope, c'⟩) → H1 c' = some (CodeO c' q) → Q (.ref f) H1
theorem pe_lamF {X : Cx} {c P : Addr} {params : Arguments} {body : Expr} {scope : Scope} {pos : Pos} (TB : TabB X.base X.mg c P) (hcode : X.env.code = .ref c) (hcl : closureFor scope X.env = pure []) (hdef : defaultsOf params X.env = ([], [])) :
    PE X (.Lambda params body scope pos) (tLamF P (X.env.qual ++ "<lambda>") params body scope) := by
  refine ⟨fun pins s σ H Q I h => ?_⟩
  obtain ⟨⟨ps, hP, ht, ha⟩, h⟩ := h
  refine PySem.W.kla_eval hdef ?_
  have bP : s.heap.BuiltinsAt X.mg P := TB.bm.keeps I.bk
  have hP' : s.heap.get? P = some { cls := .none, data := .fields ps } := I.hok P _ hP
  cases hc : codeAmong pos ps.toList with
  | none =>
    refine PySem.W.kla_makeFunction (mg := X.mg) (c := c) (P := P) (ps := ps) hcl I.ok.glob (I.mod.glob.keeps I.bk) hcode (TB.code.keeps I.bk) hP' ht hc TB.gP bP fun c' ctv h' tk hx hge hlt hrec htb => ?_
    obtain ⟨c2, oc, vs, t, e2, hoc, hd, hv⟩ := hrec
    cases e2
    have nC : H c' = none := I.hok.fresh hge
    have I1 := inv_table (t' := tk) (more := #[rawInt pos.line, rawInt pos.col, .ref c']) (h' := h') I hP (fun b o hb e => hx b o hb e) htb hge ⟨oc, vs, t, hoc, hd, hv⟩
    have hE : ExtN H (upd (upd H P (.tbl (ps ++ #[rawInt pos.line, rawInt pos.col, .ref c']))) c' (CodeO c' (X.env.qual ++ "<lambda>"))) := fun b o e n => by
      rw [upd_ne (ne_of_none e nC), upd_ne (fun z => n ps (Option.some.inj (e.symm.trans (by rw [z]; exact hP))))]
      exact e
    have hE' : ∀ b o, b ≠ P → H b = some o → upd (upd H P (.tbl (ps ++ #[rawInt pos.line, rawInt pos.col, .ref c']))) c' (CodeO c' (X.env.qual ++ "<lambda>")) b = some o := fun b o n e => by
      rw [upd_ne (ne_of_none e nC), upd_ne n]
      exact e
    have eL : (ps ++ #[rawInt pos.line, rawInt pos.col, .ref c']).toList = ps.toList ++ [rawInt pos.line, rawInt pos.col, .ref c'] := by simp
    have T1 : TabS (upd (upd H P (.tbl (ps ++ #[rawInt pos.line, rawInt pos.col, .ref c']))) c' (CodeO c' (X.env.qual ++ "<lambda>"))) P (X.env.qual ++ "<lambda>") := by
      refine ⟨_, by rw [upd_ne (ne_of_none hP nC), upd_same], by rw [eL]; exact PySem.TriplesOk_snoc _ _ _ _ ht, fun p' cv hcv => ?_⟩
      rw [eL] at hcv
      rcases among_app _ ht hcv with z | z
      · obtain ⟨c0, e1, e2⟩ := ha p' cv z
        exact ⟨c0, e1, hE _ _ e2 codeO_ne⟩
      · exact ⟨c', z, upd_same⟩
    have hcc : upd (upd H P (.tbl (ps ++ #[rawInt pos.line, rawInt pos.col, .ref c']))) c' (CodeO c' (X.env.qual ++ "<lambda>")) c' = some (CodeO c' (X.env.qual ++ "<lambda>")) := upd_same
    generalize upd (upd H P (.tbl (ps ++ #[rawInt pos.line, rawInt pos.col, .ref c']))) c' (CodeO c' (X.env.qual ++ "<lambda>")) = H1 at I1 hE hE' T1 hcc
    have nf : H1 h'.objs.size = none := I1.hok.fresh (Nat.le_refl _)
    have sm : ∀ b o, H1 b = some o → upd H1 h'.objs.size (LamO h'.objs.size ⟨X.env.qual ++ "<lambda>", params, body, scope, c'⟩) b = some o := fun b o e => by
      rw [upd_ne (ne_of_none e nf)]
      exact e
    have nfH : H h'.objs.size = none := I.hok.fresh (Nat.le_trans hge (Nat.le_of_lt hlt))
    exact ⟨.ref h'.objs.size, _, inv_lam (F := ⟨X.env.qual ++ "<lambda>", params, body, scope, c'⟩) (t' := tk) I1, rfl, h _ c' _ (SmT.trans ⟨fun b o e n => hE b o e n, hE', fun _ => T1⟩ (SmT.of sm)) nfH upd_same (sm _ _ hcc)⟩
  | some cv =>
    obtain ⟨c', e, hco⟩ := ha pos cv hc
    subst e
    refine PySem.W.kla_makeFunctionHit (mg := X.mg) (c := c) (P := P) (ps := ps) hcl I.ok.glob (I.mod.glob.keeps I.bk) hcode (TB.code.keeps I.bk) hP' ht hc bP fun ctv h' tk hx hsz => ?_
    have I1 : Inv X pins σ H { s with heap := h', toks := tk } := I.kept hx
    have nf : H h'.objs.size = none := I.hok.fresh hsz
    have sm : ∀ b o, H b = some o → upd H h'.objs.size (LamO h'.objs.size ⟨X.env.qual ++ "<lambda>", params, body, scope, c'⟩) b = some o := fun b o e => by
      rw [upd_ne (ne_of_none e nf)]
      exact e
    exact ⟨.ref h'.objs.size, _, inv_lam (F := ⟨X.env.qual ++ "<lambda>", params, body, scope, c'⟩) (t' := tk) I1, rfl, h _ c' _ (SmT.of sm) nf upd_same (sm _ _ hco)⟩
/-! ### its call -/
theorem lam_call {P : Program} {w : World} {K : PySem.W.Frag} {mg : Str → Option Value} {base : Heap} {k : Nat} {F : LF} {f : Addr} {pm ctv : Value} {N ps : List Str} {A : Around} {outer : List Env} {s : Shared} {H : Hp} {us : List Value} {vs : List V} {Q : VK}
    (S : FnScope N ps F.scope) (ho : s.heap.get? f = some (F.obj pm ctv)) (hcode : s.heap.CodeRec (.ref F.c) F.qual) (hb : bindArgs (PySem.W.kla_fn "<lambda>" F.qual F.params F.body F.scope [] pm (.ref F.c) ctv) ⟨us, []⟩ = pure (ps.zip us))
    (r : Vals vs us) (hl : vs.length = ps.length) (hr : Room (k + 1) A) (e0 : Env0 P w K mg base A outer s H)
    (hbody : Room k (A.deeper (envOfC F.qual F.scope s.heap.objs.size f (.ref F.c))) → ∃ t, PE (cxOf CX0 P w K mg base N F.qual F.scope f (.ref F.c) A outer s H E0) F.body t ∧ t (start N vs) H Q) :
    codeAny (model P w) A (.call (.ref f) ⟨us, []⟩) (CR CX0 outer P w H s Q E0) s := by
  have lim : s.heap.NoLimit := e0.mod.nolimit.keeps fun b o e => (e0.bs b o e).1
  have hkind : ∀ y ∈ ps.zip us, F.scope.names.lookup y.1 = some .local ∨ (F.scope.names.lookup y.1 = some .cell ∧ ((cellsFrom (s.heap.objs.size + 1) F.scope.names []).lookup y.1).isSome = true) := fun ⟨n, v⟩ hy => by
    rcases S.par n (List.of_mem_zip hy).1 with q | q
    · exact .inl q
    · exact .inr ⟨q, PySem.W.cellsFrom_some _ _ _ (.inl q)⟩
  refine PySem.W.kla_callFunE hr.depth ho rfl S.co S.gen rfl hcode ?_
  rw [hb]
  refine wpAny_pure ?_
  refine wpAny_newFunctionEnv_cells S.kind hkind fun env he s1 x => ?_
  subst he
  refine ⟨lim.keeps x.toInCall.keep, ?_⟩
  obtain ⟨t, ht, hq⟩ := hbody (hr.deeper _)
  have I : Inv (cxOf CX0 P w K mg base N F.qual F.scope f (.ref F.c) A outer s H E0) [] (start N vs) H s1 := inv_start S hr.hd e0 hl r x
  refine PySem.W.kla_codeExpr (wpAny_mono (ht.run [] s1 (start N vs) H Q I hq) (fun v s' hs => ?_) fun e s' hs => hs)
  obtain ⟨w', H', J, rv, q⟩ := hs
  exact ⟨w', H', J.os, J.bare, J.base, J.hok, rv, q⟩
/-! ### max(xs, key=lambda x: ..), the keys pairs of ints -/
def MxIt (H : Hp) (t : Addr) (p : Int × List Nat) : Prop := H t = some (.tup [.int p.1, .str (Sr.S p.2)]) ∧ p.2.length ≤ 100000
def keyT (p : Int × List Nat) : HO := .tup [.int p.1, .int (-((p.2.length : Nat) : Int))]
def rMaxK (K : PySem.W.Frag) (q : Str) (params : Arguments) (body : Expr) (scope : Scope) : List V → List V → Hp → VK → Prop := fun vs zs H Q => ∃ (a f c' : Addr) (ts : List Addr) (p0 : Int × List Nat) (ps : List (Int × List Nat)),
  vs = [V.ref a] ∧ zs = [V.ref f] ∧ SqL K H a (ts.map V.ref) ∧ H f = some (LamO f ⟨q, params, body, scope, c'⟩) ∧ H c' = some (CodeO c' q) ∧ ts.length = ps.length + 1 ∧ (∀ (i : Nat) t p, ts[i]? = some t → (p0 :: ps)[i]? = some p → MxIt H t p) ∧
  ∀ (i : Nat) t H', ts[i]? = some t → (p0 :: ps)[i]? = some (ps.foldl Sr.pick p0) → Same H H' → Q (.ref t) H'
theorem pair_reads {X : Cx} {pins : List (Addr × Obj)} {σ : St} {H : Hp} {s : Shared} {a : Addr} {x y : Int} (I : Inv X pins σ H s) (h : H a = some (.tup [.int x, .int y])) : ∃ as, Reads s.heap (.ref a) (.tuple [.int x, .int y]) as := by
  obtain ⟨its, r, ⟨o, ho, hc, n, hd⟩, _⟩ := I.tuple (SqT.of h)
  obtain ⟨u, w, rfl, ⟨t1, rfl⟩, ⟨t2, rfl⟩⟩ := vals2 r
  exact ⟨_, .tuple ho hc hd (.cons (.int _ _) (.cons (.int _ _) .nil))⟩
theorem vals_refs_eq : ∀ {ts : List Addr} {us : List Value}, Vals (ts.map V.ref) us → us = ts.map Value.ref
  | [], _, .nil => rfl
  | t :: ts, _, .cons r rr => by
    have e : _ = Value.ref t := r
    rw [e, vals_refs_eq rr]
    rfl
theorem bet_lt (p q : Int × List Nat) : PySem.W.dataLt (.tuple [.int q.1, .int (-((q.2.length : Nat) : Int))]) (.tuple [.int p.1, .int (-((p.2.length : Nat) : Int))]) = Sr.bet q p := by
  rw [PySem.W.dataLt_ii]
  unfold Sr.bet
  rw [Bool.eq_iff_iff]
  simp only [decide_eq_true_eq, Bool.or_eq_true, Bool.and_eq_true]
  omega
section
variable {X : Cx} {k : Nat} {q y : Str} {params : Arguments} {body : Expr} {scope : Scope} {N : List Str} {tb : TE}
theorem max_loop (hc : X.calm = true) (hr : Room (k + 2) X.A) (S : FnScope N [y] scope) (hb : ∀ (c : Addr) (pm ctv u : Value), bindArgs (PySem.W.kla_fn "<lambda>" q params body scope [] pm (.ref c) ctv) ⟨[u], []⟩ = pure ([y].zip [u]))
    (hbody : ∀ (c f : Addr) (A : Around) (outer : List Env) (s : Shared) (H : Hp), Room k (A.deeper (envOfC q scope s.heap.objs.size f (.ref c))) → PE (cxOf CX0 X.prog X.w X.K X.mg X.base N q scope f (.ref c) A outer s H E0) body tb)
    (hkey : ∀ (t : Addr) (p : Int × List Nat) (H : Hp) (Q : VK), MxIt H t p → (∀ kp H', Same H H' → H kp = none → H' kp = some (keyT p) → Q (.ref kp) H') → tb (start N [.ref t]) H Q)
    {pins : List (Addr × Obj)} {σ : St} {H0 : Hp} {a f c' I0 S0 : Addr} {ts : List Addr} {p0 : Int × List Nat} {ps : List (Int × List Nat)} {R : Result → Shared → Prop} (hs0 : SqL X.K H0 a (ts.map V.ref)) (hf0 : H0 f = some (LamO f ⟨q, params, body, scope, c'⟩)) (hc0 : H0 c' = some (CodeO c' q))
    (hlen : ts.length = ps.length + 1) (hit0 : ∀ (i : Nat) t p, ts[i]? = some t → (p0 :: ps)[i]? = some p → MxIt H0 t p) (hfp : FpOk X pins H0 I0) (haI : a ≠ I0)
    (hR : ∀ (i : Nat) t H' s', ts[i]? = some t → (p0 :: ps)[i]? = some (ps.foldl Sr.pick p0) → Same H0 H' → Inv X pins σ H' s' → R (.ok (.ret (.ref t))) s') :
    ∀ (r j : Nat) (s : Shared) (H : Hp) (cur : List V), ts.length - j = r → j ≤ ts.length → Inv X pins σ H s → Same H0 H → H I0 = none → s.heap.IsListIter I0 a j → H S0 = some (.lst cur) → H0 S0 = none →
      (j = 0 ∧ cur = [] ∨ ∃ (n i : Nat) (t kp : Addr), j = n + 1 ∧ cur = [.ref t, .ref kp] ∧ ts[i]? = some t ∧ (p0 :: ps)[i]? = some ((ps.take n).foldl Sr.pick p0) ∧ H kp = some (keyT ((ps.take n).foldl Sr.pick p0))) →
      codeAny (model X.prog X.w) X.A (.builtin "max.loop" ⟨[.ref I0, .ref f, .ref S0], []⟩) R s := by
  have hname : (toString "max" ++ toString ".loop" : String) = "max.loop" := by decide
  have hu := hr.units
  have itl : ∀ {H : Hp} {s : Shared}, Inv X pins σ H s → Same H0 H → s.heap.IsList a (ts.map Value.ref).toArray := fun {H s} I sm => by
    obtain ⟨its, rv, hl, _⟩ := I.list (sm.seq hs0)
    rw [← vals_refs_eq rv]
    exact hl.isList
  have hsz : (ts.map Value.ref).toArray.size = ts.length := by rw [List.size_toArray, List.length_map]
  intro r
  induction r with
  | zero =>
    intro j s H cur hr0 hj I sm nI hit hS nS hcur
    have hjn : j = ts.length := by omega
    have hh : X.A.handled = none := I.ok.hd hc
    have W := Walks.list (prog := X.prog) (w := X.w) (A := X.A.in1) hh I0 a haI (ts.map Value.ref).toArray
    obtain ⟨n, i, t, kp, ej, rfl, ht, hp, hk⟩ : ∃ (n i : Nat) (t kp : Addr), j = n + 1 ∧ cur = [.ref t, .ref kp] ∧ ts[i]? = some t ∧ (p0 :: ps)[i]? = some ((ps.take n).foldl Sr.pick p0) ∧ H kp = some (keyT ((ps.take n).foldl Sr.pick p0)) := by
      rcases hcur with ⟨e, _⟩ | e
      · omega
      · exact e
    obtain ⟨_, its, ne, rv, _, hSo⟩ := I.lstM hS
    obtain ⟨u1, u2, rfl, e1, e2⟩ := vals2 rv
    obtain rfl : u1 = Value.ref t := e1
    obtain rfl : u2 = Value.ref kp := e2
    have nSI : S0 ≠ I0 := fun z => by rw [z, nI] at hS; cases hS
    refine codeAny_builtin F.entry_max_loop ?_
    rw [Around.under_plainId F.plain_max_loop _]
    show wpAny _ X.A.in1 (seqItems? (.ref S0) >>= _) _ _ s
    refine wpAny_bind (wpAny_seqItems hSo rfl ?_)
    show wpAny _ X.A.in1 (tryCatch (pyNext (.ref I0)) _ >>= _) _ _ s
    refine wpAny_bind (wpAny_tryCatch (W.done _ _ _ ⟨by rw [hsz, ← hjn]; exact hit, itl I sm⟩ fun h' tk' hk' => ?_))
    have I1 : Inv X pins σ H { s with heap := h', toks := tk' } := I.turned (t' := tk') (fun b o hb e => hk' b o (by simpa using hb) e) nI hfp.2.1 hfp.2.2.2.1 hfp.2.2.2.2.1 hfp.2.2.2.2.2
    have hS' := hk' S0 _ (by simpa using nSI) hSo
    show wpAny _ X.A.in1 (updateSeq S0 (fun _ => #[]) >>= _) _ _ _
    refine wpAny_bind ?_
    refine wpAny_updateSeq hS' rfl (wpAny_bind (wpAny_letGo (wpAny_pure ?_)))
    have I2 := I1.lset (l := S0) (its' := []) (ys := []) (f := fun _ => #[]) (t' := tk') hS hS' rfl .nil (Nat.zero_le _)
    have en : n = ps.length := by omega
    refine hR i t _ _ ht ?_ (fun b o e => ?_) I2
    · rw [hp, en, List.take_length]
    · rw [upd_ne (ne_of_none e nS)]
      exact sm b o e
  | succ r ih =>
    intro j s H cur hr0 hj I sm nI hit hS nS hcur
    have hlt : j < ts.length := by omega
    have hh : X.A.handled = none := I.ok.hd hc
    have W := Walks.list (prog := X.prog) (w := X.w) (A := X.A.in1) hh I0 a haI (ts.map Value.ref).toArray
    obtain ⟨_, its, ne, rv, _, hSo⟩ := I.lstM hS
    have nSI : S0 ≠ I0 := fun z => by rw [z, nI] at hS; cases hS
    refine codeAny_builtin F.entry_max_loop ?_
    rw [Around.under_plainId F.plain_max_loop _]
    show wpAny _ X.A.in1 (seqItems? (.ref S0) >>= _) _ _ s
    refine wpAny_bind (wpAny_seqItems hSo rfl ?_)
    show wpAny _ X.A.in1 (tryCatch (pyNext (.ref I0)) _ >>= _) _ _ s
    refine wpAny_bind (wpAny_tryCatch (W.item j _ _ _ (by rw [hsz]; exact hlt) ⟨hit, itl I sm⟩ fun v h' tk' hP hst' hk' => ?_))
    have htj : ts[j]? = some ts[j] := List.getElem?_eq_getElem hlt
    have hv : v = Value.ref ts[j] := by
      have hP' : (ts.map Value.ref).toArray[j]? = some v := hP
      rw [List.getElem?_toArray, List.getElem?_map, htj] at hP'
      exact (Option.some.inj hP').symm
    subst hv
    have hpj : j < (p0 :: ps).length := by rw [List.length_cons]; omega
    have hpj' : (p0 :: ps)[j]? = some (p0 :: ps)[j] := List.getElem?_eq_getElem hpj
    have hmx := hit0 j _ _ htj hpj'
    generalize hpe : (p0 :: ps)[j] = pj at hpj' hmx
    generalize hte : ts[j] = tj at htj hmx
    have I1 : Inv X pins σ H { s with heap := h', toks := tk' } := I.turned (t' := tk') (fun b o hb e => hk' b o (by simpa using hb) e) nI hfp.2.1 hfp.2.2.2.1 hfp.2.2.2.2.1 hfp.2.2.2.2.2
    have hS1 := hk' S0 _ (by simpa using nSI) hSo
    obtain ⟨⟨oI, hoI, hoc, hod⟩, _⟩ := hst'
    show wpAny _ X.A.in1 (tryCatch (holding [.ref tj] (call (.ref f) [.ref tj])) _ >>= _) _ _ _
    obtain ⟨⟨pm, ctv, hfo⟩, _, _⟩ := I1.hok f _ (sm _ _ hf0)
    have hcr : ({ s with heap := h', toks := tk' } : Shared).heap.CodeRec (.ref c') q := by
      obtain ⟨⟨oc, vs, t, h1, h2, h3⟩, _, _⟩ := I1.hok c' _ (sm _ _ hc0)
      exact ⟨c', oc, vs, t, rfl, h1, h2, h3⟩
    have run := lam_call (P := X.prog) (w := X.w) (K := X.K) (mg := X.mg) (base := X.base) (F := ⟨q, params, body, scope, c'⟩) (us := [.ref tj]) (vs := [.ref tj]) (Q := fun v H' => ∃ kp, v = .ref kp ∧ Same H H' ∧ H kp = none ∧ H' kp = some (keyT pj)) S hfo hcr (hb _ _ _ _) (.cons rfl .nil) rfl hr.in1 I1.env0.in1
      (fun hr' => ⟨tb, hbody _ _ _ _ _ _ hr', hkey tj pj H _ ⟨sm _ _ hmx.1, hmx.2⟩ fun kp H' s1 n1 e1 => ⟨kp, rfl, s1, n1, e1⟩⟩)
    refine wpAny_bind (wpAny_tryCatch (wpAny_holding (wpAny_call (codeAny_mono run fun r2 s2 hq => ?_))))
    cases r2 with
    | error e => exact (show False from hq).elim
    | ok fl =>
      cases fl with
      | next => exact False.elim hq
      | brk => exact False.elim hq
      | cont => exact False.elim hq
      | ret u =>
        have nfI : I0 ∉ frs X.stack := fun z => by
          rcases List.mem_cons.mp (I1.stkSub _ z) with z | z
          · exact hfp.2.1 z
          · exact hfp.2.2.1 z
        have hI2 : s2.heap.get? I0 = some oI := by
          obtain ⟨_, _, _, _, un, _, _, _⟩ := hq
          exact un.keep I0 oI hoI nI nfI (by simp)
        have nI2 : ∀ H2 : Hp, Un (frs X.stack) [] H H2 h' s2.heap → H2 I0 = none := fun H2 un => un.free I0 oI hoI nI (by simp)
        obtain ⟨v2, H2, os, bare, un, hok, rv2, kp, rfl, sm2, nk, hkp⟩ := id hq
        obtain rfl : u = Value.ref kp := rv2
        have nI3 := nI2 H2 un
        have I2 : Inv X pins σ H2 s2 := by
          obtain ⟨v3, H3, J, _, ev, eH⟩ := I1.after (Q := fun v H' => v = .ref kp ∧ H' = H2) ⟨.ref kp, H2, os, bare, un, hok, rfl, rfl, rfl⟩
          rw [eH] at J
          exact J
        have smA : Same H0 H2 := sm.trans sm2
        have hS2 := sm2 _ _ hS
        obtain ⟨_, its2, ne2, rv3, _, hSo2⟩ := I2.lstM hS2
        have hit2 : s2.heap.IsListIter I0 a (j + 1) := ⟨oI, hI2, hoc, hod⟩
        -- the step's new best
        have upd_inv : Inv X pins σ (upd H2 S0 (.lst [.ref tj, .ref kp])) { s2 with heap := s2.heap.update S0 (Obj.mapSeq fun _ => #[.ref tj, .ref kp]), toks := s2.toks } :=
          I2.lset (l := S0) (its' := [.ref tj, .ref kp]) (ys := [.ref tj, .ref kp]) (f := fun _ => #[.ref tj, .ref kp]) (t' := s2.toks) hS2 hSo2 rfl (.cons rfl (.cons rfl .nil)) (by show 2 ≤ sizeLine; decide)
        have upd_sm : Same H0 (upd H2 S0 (.lst [.ref tj, .ref kp])) := fun b o e => by
          rw [upd_ne (ne_of_none e nS)]
          exact smA b o e
        have kS : kp ≠ S0 := fun z => by rw [z, hS] at nk; cases nk
        have upd_k : upd H2 S0 (.lst [.ref tj, .ref kp]) kp = some (keyT pj) := by rw [upd_ne kS]; exact hkp
        have upd_I : upd H2 S0 (.lst [.ref tj, .ref kp]) I0 = none := by rw [upd_ne nSI.symm]; exact nI3
        have upd_it : (s2.heap.update S0 (Obj.mapSeq fun _ => #[.ref tj, .ref kp])).IsListIter I0 a (j + 1) := ⟨oI, (Heap.get?_update_other _ _ nSI).trans hI2, hoc, hod⟩
        rcases hcur with ⟨j0, rfl⟩ | ⟨n, i, t, kb, ej, rfl, ht, hp, hkb⟩
        · -- the first one
          subst j0
          cases rv
          show wpAny _ X.A.in1 (updateSeq S0 (fun _ => #[.ref tj, .ref kp]) >>= _) _ _ _
          refine wpAny_bind ?_
          refine wpAny_updateSeq hSo2 rfl ?_
          rw [hname]
          have ep : p0 = pj := hpe
          refine wpAny_pure ⟨plainId_quiet F.plain_max_loop _, ih 1 _ _ _ (by omega) (by omega) upd_inv upd_sm upd_I upd_it upd_same nS (.inr ⟨0, 0, tj, kp, rfl, rfl, htj, by rw [ep]; rfl, by rw [List.take_zero, List.foldl_nil, ep]; exact upd_k⟩)⟩
        · subst ej
          obtain ⟨u1, u2, rfl, e1, e2⟩ := vals2 rv
          obtain rfl : u1 = Value.ref t := e1
          obtain rfl : u2 = Value.ref kb := e2
          have hnlt : n < ps.length := by rw [List.length_cons] at hpj; omega
          have hpn : ps[n] = pj := hpe
          generalize hbe : (ps.take n).foldl Sr.pick p0 = pb at hp hkb
          have hfold : (ps.take (n + 1)).foldl Sr.pick p0 = Sr.pick pb pj := by
            rw [List.take_succ_eq_append_getElem hnlt, List.foldl_append, hbe, hpn]
            rfl
          obtain ⟨as1, r1⟩ := pair_reads I2 hkp
          obtain ⟨as2, r2⟩ := pair_reads I2 (sm2 _ _ hkb)
          have cmp := PySem.W.rcGt_alike _ _ X.A.in1 s2 _ _ _ _ r1 r2 rfl (fun z => nomatch z) (by
            show X.A.units + 1 + min (PyData.depth _) (PyData.depth _) < cLine
            simp only [PyData.depth, PyData.depthAll]
            omega)
          rw [bet_lt pj pb] at cmp
          show wpAny _ X.A.in1 (tryCatch (holding [.ref tj, .ref kp] (richCompare .Gt (.ref kp) (.ref kb) >>= _)) _ >>= _) _ _ _
          refine wpAny_bind (wpAny_tryCatch (wpAny_holding (wpAny_bind (cmp X.prog X.w _ _ ?_))))
          refine wpAny_bind (wpAny_holding (wpAny_truthy_bool ?_))
          refine wpAny_bind (wpAny_letGo (wpAny_pure ?_))
          cases hbt : Sr.bet pb pj with
          | true =>
            have epick : Sr.pick pb pj = pj := if_pos hbt
            simp only [if_true]
            refine wpAny_bind ?_
            refine wpAny_updateSeq hSo2 rfl (wpAny_bind (wpAny_letGo ?_))
            rw [hname]
            refine wpAny_pure ⟨plainId_quiet F.plain_max_loop _, ih (n + 1 + 1) _ _ _ (by omega) (by omega) upd_inv upd_sm upd_I upd_it upd_same nS (.inr ⟨n + 1, n + 1, tj, kp, rfl, rfl, htj, by rw [hfold, epick]; exact hpj', by rw [hfold, epick]; exact upd_k⟩)⟩
          | false =>
            have epick : Sr.pick pb pj = pb := if_neg (by rw [hbt]; exact Bool.false_ne_true)
            simp only [Bool.false_eq_true, if_false]
            refine wpAny_bind (wpAny_letGo ?_)
            rw [hname]
            exact wpAny_pure ⟨plainId_quiet F.plain_max_loop _, ih (n + 1 + 1) _ _ _ (by omega) (by omega) I2 smA nI3 hit2 hS2 nS (.inr ⟨n + 1, i, t, kb, rfl, rfl, ht, by rw [hfold, epick]; exact hp, by rw [hfold, epick]; exact sm2 _ _ hkb⟩)⟩
theorem cr_maxKey (hc : X.calm = true) (hr : Room (k + 2) X.A) (S : FnScope N [y] scope) (hb : ∀ (c : Addr) (pm ctv u : Value), bindArgs (PySem.W.kla_fn "<lambda>" q params body scope [] pm (.ref c) ctv) ⟨[u], []⟩ = pure ([y].zip [u]))
    (hbody : ∀ (c f : Addr) (A : Around) (outer : List Env) (s : Shared) (H : Hp), Room k (A.deeper (envOfC q scope s.heap.objs.size f (.ref c))) → PE (cxOf CX0 X.prog X.w X.K X.mg X.base N q scope f (.ref c) A outer s H E0) body tb)
    (hkey : ∀ (t : Addr) (p : Int × List Nat) (H : Hp) (Q : VK), MxIt H t p → (∀ kp H', Same H H' → H kp = none → H' kp = some (keyT p) → Q (.ref kp) H') → tb (start N [.ref t]) H Q) :
    CallRK X (.builtin "max") [Str.ofString "key"] (rMaxK X.K q params body scope) := by
  intro pins s σ H xs zs us ws Q I rx rz h
  obtain ⟨a, f, c', ts, p0, ps, rfl, rfl, hs, hf, hcc, hlen, hit, hq⟩ := h
  obtain rfl := Vals.ref1 rx
  obtain ⟨w1, rfl, e1⟩ := vals1 rz
  obtain rfl : w1 = Value.ref f := e1
  have hh : X.A.handled = none := I.ok.hd hc
  have hname : (toString "max" ++ toString ".loop" : String) = "max.loop" := by decide
  obtain ⟨its, rv, hl, _⟩ := I.list hs
  refine PyProof.Rows.kmk_tree F.kind_max F.plain_max F.entry_max (PyProof.Rows.kmk_max_key _ _) ?_
  show wpAny _ X.A.in1 (Builtin.Builtins.bindParams "max" ["key", "default"] 0 ⟨[], [(Str.ofString "key", .ref f)]⟩ >>= _) _ _ s
  refine wpAny_bind (wpAny_of_eq (show Builtin.Builtins.bindParams "max" ["key", "default"] 0 ⟨[], [(Str.ofString "key", .ref f)]⟩ = pure [some (.ref f), none] from rfl) ?_)
  refine wpAny_bind (wpAny_pure ?_)
  refine wpAny_bind (wpAny_pyIter_list hl.isList ?_)
  have hsz1 : (s.heap.push { cls := .type "list_iterator", data := .fields #[.ref a, .int 0 0] }).objs.size = s.heap.objs.size + 1 := size_push' ..
  have I1 : Inv X pins σ H { s with heap := s.heap.push { cls := .type "list_iterator", data := .fields #[.ref a, .int 0 0] } } := I.kept (t' := s.toks) fun b o e => Heap.get?_push_of_some _ e
  refine wpAny_bind (wpAny_newList ?_ (Nat.zero_le _))
  rw [hname]
  have nS : H (s.heap.push { cls := .type "list_iterator", data := .fields #[.ref a, .int 0 0] }).objs.size = none := I1.hok.fresh (Nat.le_refl _)
  have I2 := I1.laid (a := (s.heap.push { cls := .type "list_iterator", data := .fields #[.ref a, .int 0 0] }).objs.size) (o := .lst []) (t' := s.toks) (h' := (s.heap.push { cls := .type "list_iterator", data := .fields #[.ref a, .int 0 0] }).push (seqObj "list" #[] 0)) (fun b o e => Heap.get?_push_of_some _ e) (Nat.le_refl _)
    ⟨Nat.zero_le _, [], 0, .nil, Heap.get?_push_size _ rfl⟩
  have alt : a < s.heap.objs.size := by
    obtain ⟨o, ho, _⟩ := hl.isList
    exact Heap.lt_size ho
  have nI : H s.heap.objs.size = none := I.hok.fresh (Nat.le_refl _)
  have nSI : s.heap.objs.size ≠ (s.heap.push { cls := .type "list_iterator", data := .fields #[.ref a, .int 0 0] }).objs.size := by rw [hsz1]; exact Nat.ne_of_lt (Nat.lt_succ_self _)
  refine wpAny_pure ⟨plainId_quiet F.plain_max_loop _, ?_⟩
  refine max_loop (S0 := (s.heap.push { cls := .type "list_iterator", data := .fields #[.ref a, .int 0 0] }).objs.size) hc hr S hb hbody hkey hs hf hcc hlen hit (I.fpOk (Nat.le_refl _) nI) (Nat.ne_of_lt alt) (fun i t H' s' h1 h2 h3 J => ⟨.ref t, H', J, rfl, hq i t H' h1 h2 h3⟩) ts.length 0 _ _ [] (by omega) (Nat.zero_le _) I2 (fun b o e => ?_) ?_ ?_ upd_same nS (.inl ⟨rfl, rfl⟩)
  · rw [upd_ne (ne_of_none e nS)]
    exact e
  · rw [upd_ne nSI]
    exact nI
  · exact ⟨_, Heap.get?_push_of_some _ (Heap.get?_push_size _ rfl), rfl, rfl⟩
end
/-! ### max(xs, default=d), xs ints -/
def rMaxD (K : PySem.W.Frag) : List V → List V → Hp → VK → Prop := fun vs zs H Q => ∃ (a : Addr) (ns : List Int) (d : Int), vs = [V.ref a] ∧ zs = [V.int d] ∧ SqL K H a (ns.map V.int) ∧ ns ≠ [] ∧ ∀ m ∈ ns, (∀ x ∈ ns, x ≤ m) → Q (.int m) H
theorem foldl_max : ∀ (ns : List Int) (n : Int), (ns.foldl max n = n ∨ ns.foldl max n ∈ ns) ∧ n ≤ ns.foldl max n ∧ ∀ x ∈ ns, x ≤ ns.foldl max n
  | [], n => ⟨.inl rfl, Int.le_refl _, fun x h => by simp at h⟩
  | k :: ns, n => by
    obtain ⟨h1, h2, h3⟩ := foldl_max ns (max n k)
    rw [List.foldl_cons]
    refine ⟨?_, by omega, fun x hx => ?_⟩
    · rcases h1 with h1 | h1
      · rw [h1]
        by_cases e : n ≤ k
        · exact .inr (by rw [Int.max_eq_right e]; exact List.mem_cons_self)
        · exact .inl (by omega)
      · exact .inr (List.mem_cons_of_mem _ h1)
    · rcases List.mem_cons.mp hx with e | e
      · subst e; omega
      · exact h3 x e
theorem reads_ints {h : Heap} : ∀ {ns : List Int} {us : List Value}, Vals (ns.map V.int) us → ReadsAll h us (ns.map PyData.int) []
  | [], _, .nil => .nil
  | n :: ns, _, .cons ⟨t, e⟩ rr => by
    subst e
    exact .cons (as := []) (bs := []) (.int _ _) (reads_ints rr)
theorem alike_ints (ns : List Int) : PySem.W.AlikeAll (ns.map PyData.int) := by
  refine ⟨fun x hx y hy => ?_, fun x hx => ?_⟩
  · obtain ⟨i, _, rfl⟩ := List.mem_map.mp hx
    obtain ⟨j, _, rfl⟩ := List.mem_map.mp hy
    rfl
  · obtain ⟨i, _, rfl⟩ := List.mem_map.mp hx
    exact fun z => nomatch z
theorem cr_maxD {X : Cx} (hc : X.calm = true) (hu : X.A.units + 64 < cLine) : CallRK X (.builtin "max") [Str.ofString "default"] (rMaxD X.K) := by
  intro pins s σ H xs zs us ws Q I rx rz h
  obtain ⟨a, ns, d, rfl, rfl, hs, hne, q⟩ := h
  obtain rfl := Vals.ref1 rx
  obtain ⟨w1, rfl, t1, rfl⟩ := vals1 rz
  have hh : X.A.handled = none := I.ok.hd hc
  obtain ⟨its, rv, hl, _⟩ := I.list hs
  have hdep : PyData.depthAll (ns.map PyData.int) ≤ 1 := Sr.depth_ints ns
  refine PySem.W.max_list_default (as := []) hh hl.isList (xs := ns.map PyData.int) (show ReadsAll s.heap its _ _ from reads_ints rv) (alike_ints ns) (by omega) (fun e => ?_) fun y ys i v h' tk bs e hv hR hk => ?_
  · cases ns with
    | nil => exact absurd rfl hne
    | cons n ns => cases e
  · cases ns with
    | nil => cases e
    | cons n ns =>
      injection e with e1 e2
      subst e1 e2
      rw [PySem.W.maxD_ints] at hR
      cases hR with
      | int _ t =>
        obtain ⟨h1, h2, h3⟩ := foldl_max ns n
        refine ⟨.int _, H, I.kept (t' := tk) hk, ⟨t, rfl⟩, q _ ?_ fun x hx => ?_⟩
        · rcases h1 with h1 | h1
          · rw [h1]; exact List.mem_cons_self
          · exact List.mem_cons_of_mem _ h1
        · rcases List.mem_cons.mp hx with e | e
          · rw [e]; exact h2
          · exact h3 x e
end L2

namespace L2
open PySem PySem.Spec PyProof.Rows LamX
/-! ### a def whose code object is known -/
theorem fn_okL {P : Program} {w : World} {K : PySem.W.Frag} {mg : Str → Option Value} {base : Heap} {x qual : Str} {st : Stmt} {f cc : Addr} {oc kV doc pm ct : Value} {od an : Option Addr} {osl : Array (Option Value)} {N ps : List Str} {k : Nat} {sp : Sp}
    (lk : K.lookup f = some ⟨oc, od, .func (PySem.W.fnOf x qual (defArgs st) (defBody st) (defScope st) .none kV doc pm an (.ref cc) ct), osl⟩) (hcd : PySem.W.codeIn K (.ref cc) qual = true) (S : FnScope N ps (defScope st)) (len : ∀ vs H Q E, sp vs H Q E → vs.length = ps.length)
    (hbody : ∀ (A : Around) (outer : List Env) (s : Shared) (H : Hp) (vs : List V) (Q : VK) (E : XK), Room k (A.deeper (envOfC qual (defScope st) s.heap.objs.size f (.ref cc))) → sp vs H Q E →
      ∃ t, PSs (cxOf CX0 P w K mg base N qual (defScope st) f (.ref cc) A outer s H E).nox (defBody st) t ∧ t { nx := fun _ H' => Q .non H', rt := Q } (start N vs) H) :
    FnOk P w K mg base CX0 (k + 1) f (PySem.W.fnOf x qual (defArgs st) (defBody st) (defScope st) .none kV doc pm an (.ref cc) ct) ps sp :=
  fn_of lk hcd S len fun A outer s H vs Q E hr hsp => by
    obtain ⟨t, h, q⟩ := hbody A outer s H vs Q E hr hsp
    exact ⟨t, h.nox, q⟩
/-! ### readings of dicts -/
section
variable {σ : St} {H : Hp} {Q : VK} {ta tb td ty tv : TE}
theorem x_dget (q : td σ H fun x H1 => ty σ H1 fun y H2 => ∃ a v, x = .ref a ∧ DGet H2 a y (some v) ∧ Q v H2) : tDGet td ty σ H Q := q
theorem x_dnotin (q : ty σ H fun y H1 => td σ H1 fun x H2 => ∃ a o, x = .ref a ∧ DGet H2 a y o ∧ Q (.bl (!o.isSome)) H2) : tDNotIn ty td σ H Q := q
theorem x_din (q : ty σ H fun y H1 => td σ H1 fun x H2 => ∃ a o, x = .ref a ∧ DGet H2 a y o ∧ Q (.bl o.isSome) H2) : tDIn ty td σ H Q := q
theorem x_dput {D : Ends} (q : tv σ H fun v H1 => td σ H1 fun x H2 => ty σ H2 fun y H3 => ∃ a H4, x = .ref a ∧ DPut H3 a y v H4 ∧ D.nx σ H4) : sDPut td ty tv D σ H := q
theorem x_lock {t : TS} {D : Ends} {d : Addr} {u : HO} (hd : H d = some u) (mu : Mut (some u)) (q : ∀ od, t ⟨fun σ' H' => H' d = some (.frz od u) ∧ D.nx σ' (upd H' d u), fun v H' => H' d = some (.frz od u) ∧ D.rt v (upd H' d u), fun σ' H' => H' d = some (.frz od u) ∧ D.bk σ' (upd H' d u), fun σ' H' => H' d = some (.frz od u) ∧ D.ct σ' (upd H' d u)⟩ σ (upd H d (.frz od u))) : tLock t D σ H := ⟨d, u, hd, mu, q⟩
theorem x_getS {a : Addr} {kvs : List (Key × V)} {z : Str} {v : V} {R : Addr → V → Prop} (h : Rd H a (.dK kvs)) (e : valV kvs (.inr z) = some v) (q : R a v) : ∃ a' v', V.ref a = .ref a' ∧ DGet H a' (.str z) (some v') ∧ R a' v' := ⟨a, v, rfl, .inl ⟨kvs, .inr z, h, rfl, e.symm⟩, q⟩
theorem x_askS {a : Addr} {kvs : List (Key × V)} {z : Str} {R : Addr → Option V → Prop} (h : Rd H a (.dK kvs)) (q : R a (valV kvs (.inr z))) : ∃ a' o, V.ref a = .ref a' ∧ DGet H a' (.str z) o ∧ R a' o := ⟨a, _, rfl, .inl ⟨kvs, .inr z, h, rfl, rfl⟩, q⟩
theorem x_putS {a : Addr} {kvs : List (Key × V)} {z : Str} {v : V} {R : Hp → Prop} (h : H a = some (.dK kvs)) (hl : kvs.length < sizeLine) (q : R (upd H a (.dK (putK kvs (.inr z) v)))) : ∃ a' H4, V.ref a = .ref a' ∧ DPut H a' (.str z) v H4 ∧ R H4 := ⟨a, _, rfl, DPut.k (k := .inr z) h hl, q⟩
theorem x_keys {R : It → Hp → Prop} {a : Addr} {o : Obj} {kvs : List (Key × V)} (h : H a = some (.frz o (.dK kvs))) (q : R (Itk a o kvs) H) : ∃ d o', V.ref a = .ref d ∧ ((∃ kvs, H d = some (.frz o' (.dK kvs)) ∧ R (Itk d o' kvs) H) ∨ ∃ kvs, H d = some (.frz o' (.dT kvs)) ∧ R (Itkt d o' kvs) H) := ⟨a, o, rfl, .inl ⟨kvs, h, q⟩⟩
end
/-- a dict comprehension over anything that is walked -/
theorem dc_it {J : It} {n : Nat} {G : Hp → Prop} {Y : Nat → Hp → V → Hp → Prop} (w : Walk J n G Y) {g : TG} {tt : TT} {tk tv : TE} {vs : List Nat} {σ : St} {H1 : Hp} {D : Addr} {Qd : Hp → Prop} (Pv : Nat → Hp → Prop) (h0 : Pv 0 (upd H1 D (.dK []))) (hG : ∀ i H, i ≤ n → Pv i H → G H)
    (hs : ∀ i x H H', i < n → Pv i H → Y i H x H' → g x (wipe σ vs) H' fun σ2 H2 => wipe σ2 vs = wipe σ vs ∧ tt σ2 H2 fun b H3 =>
      if b = true then tk σ2 H3 fun y H4 => tv σ2 H4 fun z H5 => ∃ kvs k, y = kV k ∧ H5 D = some (.dK kvs) ∧ kvs.length < sizeLine ∧ Pv (i + 1) (upd H5 D (.dK (putK kvs k z))) else Pv (i + 1) H3) (hd : ∀ H, Pv n H → Qd H) :
    ∃ W : Nat → Nat → Hp → Prop, (∃ m, W 0 m (upd H1 D (.dK []))) ∧ ∀ i m H, W i m H →
      (J.stop i H ∧ Qd H) ∨ (J.go i H ∧ ∃ Nx : Hp → Prop, (∀ H', Nx H' → ∃ m', m' < m ∧ W (i + 1) m' H') ∧ ∀ x H', J.yld i H x H' → g x (wipe σ vs) H' fun σ2 H2 => wipe σ2 vs = wipe σ vs ∧ tt σ2 H2 fun b H3 =>
        if b = true then tk σ2 H3 fun y H4 => tv σ2 H4 fun z H5 => ∃ kvs k, y = kV k ∧ H5 D = some (.dK kvs) ∧ kvs.length < sizeLine ∧ Nx (upd H5 D (.dK (putK kvs k z))) else Nx H3) := by
  refine ⟨fun i m H => m = n - i ∧ i ≤ n ∧ Pv i H, ⟨n, by simp, Nat.zero_le _, h0⟩, ?_⟩
  rintro i m H ⟨rfl, hi, p⟩
  have q := hG i H hi p
  by_cases hlt : i < n
  · refine .inr ⟨w.goes i H hlt q, Pv (i + 1), fun H' p' => ⟨n - (i + 1), by omega, rfl, hlt, p'⟩, fun x H' y => hs i x H H' hlt p (w.yields i H x H' hlt q y)⟩
  · have e : i = n := by omega
    subst e
    exact .inl ⟨w.stops H q, hd H p⟩
theorem x_dc {wi : TI} {g : TG} {tt : TT} {tk tv : TE} {vs : List Nat} {σ : St} {H : Hp} {Q : VK} (q : wi σ H fun J H1 => ∀ D, H1 D = none → ∃ W : Nat → Nat → Hp → Prop, (∃ m, W 0 m (upd H1 D (.dK []))) ∧ ∀ i m H, W i m H →
  (J.stop i H ∧ Q (.ref D) H) ∨ (J.go i H ∧ ∃ Nx : Hp → Prop, (∀ H', Nx H' → ∃ m', m' < m ∧ W (i + 1) m' H') ∧ ∀ x H', J.yld i H x H' → g x (wipe σ vs) H' fun σ2 H2 => wipe σ2 vs = wipe σ vs ∧ tt σ2 H2 fun b H3 =>
    if b = true then tk σ2 H3 fun y H4 => tv σ2 H4 fun z H5 => ∃ kvs k, y = kV k ∧ H5 D = some (.dK kvs) ∧ kvs.length < sizeLine ∧ Nx (upd H5 D (.dK (putK kvs k z))) else Nx H3)) : tDc wi g tt tk tv vs σ H Q := q
theorem x_bm0 {K : PySem.W.Frag} {T : String} {r : V → List V → Hp → VK → Prop} {to : TE} {σ : St} {H : Hp} {Q : VK} (q : to σ H fun x H1 => tyV K T x H1 ∧ r x [] H1 Q) : tBM0 K T r to σ H Q := q
theorem x_ckw {r : List V → List V → Hp → VK → Prop} {t tk : TA} {σ : St} {H : Hp} {Q : VK} (q : t σ H fun vs H1 => tk σ H1 fun zs H2 => r vs zs H2 Q) : tCKw r t tk σ H Q := q
theorem x_iTup {K : PySem.W.Frag} {te : TE} {σ : St} {H : Hp} {R : It → Hp → Prop} (q : te σ H fun v H1 => ∃ a, v = .ref a ∧ (∃ xs, SqT K H1 a xs) ∧ R (Itt K a) H1) : iTup K te σ H R := q
theorem x_iKeys {td : TE} {σ : St} {H : Hp} {R : It → Hp → Prop} (q : td σ H fun x H1 => ∃ d o, x = .ref d ∧ ((∃ kvs, H1 d = some (.frz o (.dK kvs)) ∧ R (Itk d o kvs) H1) ∨ ∃ kvs, H1 d = some (.frz o (.dT kvs)) ∧ R (Itkt d o kvs) H1)) : iKeys td σ H R := q
/-! ### list(d.values()) -/
def rValsL : V → Hp → VK → Prop := fun x H Q => ∃ (d : Addr) (kvs : List (Key × V)), x = .ref d ∧ H d = some (.dK kvs) ∧ ∀ p, H p = none → Q (.ref p) (upd H p (.lst (kvs.map (·.2))))
def tListVals (te : TE) : TE := fun σ H Q => te σ H fun x H1 => rValsL x H1 Q
theorem KV.vals' : ∀ {kvs : List (Key × V)} {vs : List (Key × Value)}, KV kvs vs → Vals (kvs.map (·.2)) (vs.map (·.2))
  | _, _, .nil => .nil
  | _, _, .cons r t => .cons r.2 (KV.vals' t)
theorem pe_listVals {X : Cx} {e : Expr} {te : TE} {p apos cpos pos : Pos} (hc : X.calm = true) (he : PE X e te) (hg : Gl X "list") (hm : X.mg "list" = none) (hv : bootBuiltins "list" = some (.type "list")) (hbase : attributeBase e "values" X.env (eval e X.env) = eval e X.env := by rfl) (hline : (apos.endLine == cpos.line) = true := by rfl)
    (hs : starEach [.Call (.Attribute e "values" apos) [] [] cpos] X.env = (false, eval (.Call (.Attribute e "values" apos) [] [] cpos) X.env) :: starEach [] X.env := by rfl) :
    PE X (.Call (.Name "list" p) [.Call (.Attribute e "values" apos) [] [] cpos] [] pos) (tListVals te) := by
  refine ⟨fun pins s σ H Q I hq => ?_⟩
  refine wpAny_Call_Name_kw (ld_blt I hg hm hv ?_)
  refine PyProof.Rows.callWith_type1 ?_ hs rfl
  rw [hs]
  show wpAny _ _ (spliced ((false, eval (.Call (.Attribute e "values" apos) [] [] cpos) X.env) :: backTo pos (starEach [] X.env))) _ _ s
  refine Calls.spliced_cons ?_
  refine wpAny_Call_method (T := "dict") (id := "dict.values") hbase rfl hline F.plainAttrs_dict F.slot_dict_values F.type_dict_values (thn (he.run pins s σ H _ I hq) fun u s1 ⟨x, H1, I1, rx, d, kvs, ex, hd, q⟩ => ?_)
  subst ex
  obtain rfl : u = Value.ref d := rx
  obtain ⟨hz, hs0, vs, kv, hdo⟩ := I1.hok d _ hd
  obtain ⟨ep, hat⟩ := hdo.dictAt
  have lk : kvs.length = vs.length := Paired.length kv
  have I2 : Inv X pins σ H1 { s1 with heap := s1.heap.push { cls := .type "dict_values", data := .fields #[.ref d] } } := I1.kept (t' := s1.toks) fun b ob q => Heap.get?_push_of_some _ q
  refine ⟨hdo.typeIs, hdo.mapOf.noDict, ?_⟩
  show wpAny _ _ (callWith cpos (.builtin "dict.values") [.ref d] [] []) _ X.xe s1
  refine method_meetsIn F.slot_dict_values F.entry_dict_values rfl (PySem.evalArgs_none ⟨rfl, hdo.typeIs, F.args_dict_values_1 _, _, meets_dict_values (mixKind X.prog X.w) d hs0, ⟨vs, hdo⟩, ?_⟩)
  refine Calls.spliced_nil ?_
  refine PySem.W.kdl_call (PySem.W.kdl_values (knd := mixKind X.prog X.w) (kvs := vs) (ep := ep)) (I1.ok.hd hc) ⟨⟨_, Heap.get?_push_size _ rfl, rfl, rfl⟩, hat.push _⟩ (by omega) fun h' tk acc' c' hk hS hacc => ?_
  refine ⟨.ref _, upd H1 _ (.lst (kvs.map (·.2))), I2.laid (t' := tk) hk (Nat.le_refl _) (show ObjOk X.prog X.w _ _ _ (.lst (kvs.map (·.2))) from ⟨by rw [List.length_map]; exact hz, acc'.toList, c', ?_, ?_⟩), rfl, q _ (I2.hok.fresh (Nat.le_refl _))⟩
  · have e1 : acc'.toList = vs.map (·.2) := by
      apply List.ext_getElem?
      intro j
      by_cases hj : j < acc'.size
      · have h1 : acc'.toList[j]? = some acc'[j] := by rw [Array.getElem?_toList]; exact Array.getElem?_eq_getElem hj
        obtain ⟨k, hk2⟩ := hacc.2 j acc'[j] (Array.getElem?_eq_getElem hj)
        rw [h1, List.getElem?_map, hk2]
        rfl
      · rw [List.getElem?_eq_none (by rw [Array.length_toList]; omega), List.getElem?_eq_none (by rw [List.length_map, ← hacc.1]; omega)]
    rw [e1]
    exact KV.vals' kv
  · rw [Array.toArray_toList]
    exact hS
theorem x_listVals {te : TE} {σ : St} {H : Hp} {Q : VK} (q : te σ H fun x H1 => rValsL x H1 Q) : tListVals te σ H Q := q
theorem x_valsD {a : Addr} {kvs : List (Key × V)} {H : Hp} {Q : VK} (h : H a = some (.dK kvs)) (q : ∀ p, H p = none → Q (.ref p) (upd H p (.lst (kvs.map (·.2))))) : rValsL (.ref a) H Q := ⟨a, kvs, rfl, h, q⟩
/-! ### lstrip of one sign -/
theorem dropW_eq (p : Nat → Bool) : ∀ l : List Nat, l.drop (l.takeWhile p).length = l.dropWhile p
  | [] => rfl
  | c :: l => by
    by_cases h : p c = true
    · rw [List.takeWhile_cons, if_pos h, List.dropWhile_cons, if_pos h, List.length_cons, List.drop_succ_cons, dropW_eq p l]
    · rw [List.takeWhile_cons, if_neg h, List.dropWhile_cons, if_neg h]
      rfl
theorem dropW_no {p : Nat → Bool} {c : Nat} {l : List Nat} (h : ¬ p c = true) : (c :: l).dropWhile p = c :: l := by rw [List.dropWhile_cons, if_neg h]
theorem TabS_nil {H : Hp} {P : Addr} {q : Str} (h : H P = some (.tbl #[])) : TabS H P q := TabS.nil h
/-! ### the law's end where a def's table is empty -/
def TabF (K : PySem.W.Frag) (mg : Str → Option Value) (h : Heap) (x : Str) : Prop := ∀ (a c P : Addr) (o : Obj) (fd : FuncData) (e : Value) (dd : Option Addr) (vs : Array Value) (sl : Array (Option Value)), mg x = some (.ref a) → K.lookup a = some o → o.data = .func fd → fd.code = .ref c → K.lookup c = some ⟨e, dd, .fields vs, sl⟩ → vs[11]? = some (.ref P) →
  h.get? P = some { cls := .none, data := .fields #[] }
theorem walk_ofTab {l : PySem.W.OpenLaw} {n k : Nat} {q : Program} {loose : List Str} {XP : (Str → Option Value) → Heap → Prop} {YP : World → Heap → Prop} {d : DefRec} {K : Params → PySem.W.Frag} {CX : World → CXT} {x y : Str}
    (hn : l.most = some n) (hn2 : n ≤ sizeLine) (hdf : d.params.defaults = []) (hr : Room k callerA) (hrec : ((recsOf q).any fun e => e.name == y) = true) (hY : ∀ (w : World) (h : Heap), YP w h → (K w.params).In h)
    (F : ∀ (w : World) (mg : Str → Option Value) (fa : Addr) (h : Heap), YP w h → (K w.params).In h → h.Ns mainGlobals mg → mg d.name = some (.ref fa) → TabF (K w.params) mg h y → LawAtS l w (K w.params) (CX w) k n x mg fa h)
    (hCX : ∀ (w : World) (H : Hp) (s : Shared) (e : Value) (s' : Shared), CX w [] H s (fun _ _ _ => False) e s' → False) :
    PySem.W.WalkO q loose XP YP l.row.toRowW d [] (fun f vs => PySem.call f vs) := by
  refine Att.attach_callB hn hdf fun w s₀ s₁ mg mb fa o pm cd doc a vs ns G Y ho hd hcd hmg hobj hints hlen hbits hg => ?_
  have KX := hY w _ Y
  have own : TabF (K w.params) mg s₁.heap y := fun a1 c P o1 fd1 e dd vs1 sl k0 k1 k2 k3 k4 k5 => by
    obtain ⟨dL, hm, hn1⟩ := List.any_eq_true.mp hrec
    have hn2 : dL.name = y := beq_iff_eq.mp hn1
    obtain ⟨a', o', fd', c', P', h1, h2, h3, h4, h5, h6⟩ := G.T.tab dL hm
    rw [hn2, k0] at h1
    cases h1
    have g1 := KX _ _ k1
    rw [g1] at h2
    cases h2
    rw [k2] at h3
    cases h3
    rw [k3] at h4
    cases h4
    obtain ⟨⟨oc, vc, e1, _, e3, e4⟩, hP⟩ := h6
    have g2 := KX _ _ k4
    rw [g2] at e1
    cases e1
    cases e3
    rw [k5] at e4
    cases e4
    exact hP
  obtain ⟨fd, cs, sp, hT, nT, C, hb, hsp, hF⟩ := F w mg fa _ Y KX G.T.g hmg own
  exact law_callTs KX G.T.g G.T.b G.T.builtins G.T.nolimit hg hT nT C G.T.bmain hobj hints (Nat.le_trans hlen hn2) hr hF hb (fun H hH hS => hsp H a ns hlen hbits hH hS) fun H e s' => hCX w H s₁ e s'
end L2
namespace Sr
open PySem PySem.Spec PyProof.Rows L2
theorem lstrip_S (l : List Nat) : Txt.lstripChars (S l) (S [47]) = S (l.dropWhile fun c => c == 47) := by
  have hp : (S [47]).cps.contains = fun c => c == 47 := by
    funext c
    show (#[47] : Array Nat).contains c = _
    rw [Bool.eq_iff_iff]
    simp
  unfold Txt.lstripChars Txt.stripBy
  rw [hp]
  have hlo : stripLo (fun c => c == 47) true (S l) = (l.takeWhile fun c => c == 47).length := rfl
  have hhi : ∀ n, stripHi (fun c => c == 47) false (S l) n = l.length := fun n => len_S l
  refine TL.ext_tl ?_
  by_cases h : stripSame (fun c => c == 47) true false (S l) = true
  · rw [if_pos h, tl_S, tl_S]
    unfold stripSame at h
    rw [Bool.and_eq_true, hlo] at h
    have h0 : (l.takeWhile fun c => c == 47).length = 0 := by simpa using h.1
    have := dropW_eq (fun c => c == 47) l
    rw [h0, List.drop_zero] at this
    exact this
  · rw [if_neg h, tl_S]
    unfold stripped
    rw [hlo, hhi]
    show (Builtin.Str.strSub (S l) _ _).cps.toList = _
    rw [StrLaws.strSub_toList]
    show (l.drop _).take _ = _
    rw [List.take_of_length_le (by rw [List.length_drop]; exact Nat.le_refl _), dropW_eq]
end Sr

namespace Sr
open PySem PySem.Spec PyProof.Rows L2
/-! ### how the tails' tables stand in the heap -/
abbrev qL : Str := "_best_behind.<locals>." ++ "<lambda>"
def stKV : List (List Nat) → List Addr → List (Key × V)
  | t :: ks, d :: ds => (Sum.inr (S t), V.ref d) :: stKV ks ds
  | _, _ => []
theorem stKV_len : ∀ {ks : List (List Nat)} {ds : List Addr}, ds.length = ks.length → (stKV ks ds).length = ks.length
  | [], [], _ => rfl
  | [], _ :: _, h => by simp at h
  | _ :: _, [], h => by simp at h
  | t :: ks, d :: ds, h => by
    rw [stKV, List.length_cons, stKV_len (by simpa using h), List.length_cons]
theorem stKV_snoc {t : List Nat} {d : Addr} : ∀ {ks : List (List Nat)} {ds : List Addr}, ds.length = ks.length → stKV (ks ++ [t]) (ds ++ [d]) = stKV ks ds ++ [(Sum.inr (S t), V.ref d)]
  | [], [], _ => rfl
  | [], _ :: _, h => by simp at h
  | _ :: _, [], h => by simp at h
  | u :: ks, e :: ds, h => by
    rw [List.cons_append, List.cons_append, stKV, stKV_snoc (by simpa using h), stKV, List.cons_append]
theorem stKV_get : ∀ {ks : List (List Nat)} {ds : List Addr} {i : Nat} {t : List Nat} {d : Addr}, ks[i]? = some t → ds[i]? = some d → (stKV ks ds)[i]? = some (Sum.inr (S t), V.ref d)
  | [], _, i, t, d, h, _ => by simp at h
  | _ :: _, [], i, t, d, _, h => by simp at h
  | u :: ks, e :: ds, 0, t, d, h1, h2 => by
    cases h1; cases h2
    rfl
  | u :: ks, e :: ds, i + 1, t, d, h1, h2 => by
    rw [stKV, List.getElem?_cons_succ]
    exact stKV_get (by simpa using h1) (by simpa using h2)
theorem inr_S {a b : List Nat} (h : (Sum.inr (S a) : Key) = Sum.inr (S b)) : a = b := S_inj (Sum.inr.inj h)
theorem stKV_in : ∀ {ks : List (List Nat)} {ds : List Addr} {t : List Nat}, ds.length = ks.length → t ∈ ks → ∃ (i : Nat) (d : Addr), ks[i]? = some t ∧ ds[i]? = some d ∧ valV (stKV ks ds) (Sum.inr (S t)) = some (.ref d)
  | [], _, t, _, h => by simp at h
  | _ :: _, [], _, h, _ => by simp at h
  | u :: ks, e :: ds, t, hl, ht => by
    by_cases hu : u = t
    · subst hu
      exact ⟨0, e, rfl, rfl, valV_pos rfl⟩
    · obtain ⟨i, d, h1, h2, h3⟩ := stKV_in (ks := ks) (ds := ds) (t := t) (by simpa using hl) (by
        rcases List.mem_cons.mp ht with q | q
        · exact absurd q.symm hu
        · exact q)
      refine ⟨i + 1, d, h1, h2, ?_⟩
      rw [stKV, valV_neg (fun q => hu (inr_S q))]
      exact h3
theorem stKV_out : ∀ {ks : List (List Nat)} {ds : List Addr} {t : List Nat}, t ∉ ks → valV (stKV ks ds) (Sum.inr (S t)) = none
  | [], _, t, _ => rfl
  | _ :: _, [], _, _ => rfl
  | u :: ks, e :: ds, t, ht => by
    rw [stKV, valV_neg (fun q => ht (by rw [← inr_S q]; exact List.mem_cons_self))]
    exact stKV_out fun q => ht (List.mem_cons_of_mem _ q)
def stepKV (l : List (Nat × List Nat)) : List (Key × V) := l.map fun p => (Sum.inr (S [p.1]), V.str (S p.2))
theorem stepKV_vals (sds : List (List Nat)) (k : Nat) (t : List Nat) : (stepKV (stps sds k t)).map (·.2) = (goals sds k t).map strV := by
  unfold stepKV goals
  rw [List.map_map, List.map_map]
  rfl
theorem stepKV_in {c : Nat} {u : List Nat} : ∀ {l : List (Nat × List Nat)}, (c, u) ∈ l → (∀ p ∈ l, p.1 = c → p.2 = u) → valV (stepKV l) (Sum.inr (S [c])) = some (.str (S u))
  | [], h, _ => by simp at h
  | p :: l, h, hu => by
    by_cases hp : p.1 = c
    · have := hu p List.mem_cons_self hp
      show valV ((Sum.inr (S [p.1]), V.str (S p.2)) :: stepKV l) _ = _
      rw [valV_pos (by rw [hp]), this]
    · show valV ((Sum.inr (S [p.1]), V.str (S p.2)) :: stepKV l) _ = _
      rw [valV_neg (fun q => hp (List.cons.inj (inr_S q)).1)]
      refine stepKV_in ?_ fun r hr => hu r (List.mem_cons_of_mem _ hr)
      rcases List.mem_cons.mp h with q | q
      · rw [← q] at hp
        exact absurd rfl hp
      · exact q
theorem stepKV_go {sds : List (List Nat)} {k : Nat} {t : List Nat} {c : Nat} (hc : c = 61 ∨ c = 47) (ho : okS sds t c = true) : valV (stepKV (stps sds k t)) (Sum.inr (S [c])) = some (.str (S (tlK k (t ++ [c])))) := by
  refine stepKV_in (mem_stps.mpr ⟨hc, ho, rfl⟩) fun p hp e => ?_
  obtain ⟨_, _, h3⟩ := mem_stps.mp hp
  rw [h3, e]
structure StAt (H : Hp) (sp : Addr) (sds : List (List Nat)) (k : Nat) (ks : List (List Nat)) (ds : List Addr) : Prop where
  len : ds.length = ks.length
  at_ : Rd H sp (.dK (stKV ks ds))
  each : ∀ (i : Nat) t d, ks[i]? = some t → ds[i]? = some d → H d = some (.dK (stepKV (stps sds k t)))
theorem StAt.same {H H' : Hp} {sp : Addr} {sds : List (List Nat)} {k : Nat} {ks : List (List Nat)} {ds : List Addr} (h : StAt H sp sds k ks ds) (e : Same H H') : StAt H' sp sds k ks ds :=
  ⟨h.len, e.rdD h.at_, fun i t d h1 h2 => e _ _ (h.each i t d h1 h2)⟩
theorem StAt.smT {H H' : Hp} {P : Addr} {q : Str} {sp : Addr} {sds : List (List Nat)} {k : Nat} {ks : List (List Nat)} {ds : List Addr} (h : StAt H sp sds k ks ds) (e : SmT P q H H') : StAt H' sp sds k ks ds :=
  ⟨h.len, e.rdD h.at_, fun i t d h1 h2 => e.dK (h.each i t d h1 h2)⟩
theorem StAt.get {H : Hp} {sp : Addr} {sds : List (List Nat)} {k : Nat} {ks : List (List Nat)} {ds : List Addr} (h : StAt H sp sds k ks ds) {t : List Nat} (ht : t ∈ ks) : ∃ d, valV (stKV ks ds) (Sum.inr (S t)) = some (.ref d) ∧ H d = some (.dK (stepKV (stps sds k t))) := by
  obtain ⟨i, d, h1, h2, h3⟩ := stKV_in h.len ht
  exact ⟨d, h3, h.each i t d h1 h2⟩
/-- the best likes behind each tail -/
structure BsAt (H : Hp) (bp : Addr) (ks : List (List Nat)) (f : List Nat → Int × List Nat) (as : List Addr) : Prop where
  len : as.length = ks.length
  at_ : H bp = some (.dK (stKV ks as))
  each : ∀ (i : Nat) t a, ks[i]? = some t → as[i]? = some a → MxIt H a (f t)
theorem BsAt.same {H H' : Hp} {bp : Addr} {ks : List (List Nat)} {f : List Nat → Int × List Nat} {as : List Addr} (h : BsAt H bp ks f as) (e : Same H H') : BsAt H' bp ks f as :=
  ⟨h.len, e _ _ h.at_, fun i t a h1 h2 => ⟨e _ _ (h.each i t a h1 h2).1, (h.each i t a h1 h2).2⟩⟩
theorem BsAt.smT {H H' : Hp} {P : Addr} {q : Str} {bp : Addr} {ks : List (List Nat)} {f : List Nat → Int × List Nat} {as : List Addr} (h : BsAt H bp ks f as) (e : SmT P q H H') : BsAt H' bp ks f as :=
  ⟨h.len, e.dK h.at_, fun i t a h1 h2 => ⟨e.tup (h.each i t a h1 h2).1, (h.each i t a h1 h2).2⟩⟩
theorem BsAt.get {H : Hp} {bp : Addr} {ks : List (List Nat)} {f : List Nat → Int × List Nat} {as : List Addr} (h : BsAt H bp ks f as) {t : List Nat} (ht : t ∈ ks) : ∃ a, valV (stKV ks as) (Sum.inr (S t)) = some (.ref a) ∧ MxIt H a (f t) := by
  obtain ⟨i, a, h1, h2, h3⟩ := stKV_in h.len ht
  exact ⟨a, h3, h.each i t a h1 h2⟩
theorem step_ne {ks : List (List Nat)} {ds : List Addr} {l : List (Nat × List Nat)} {i : Nat} {t : List Nat} {d : Addr} (h1 : ks[i]? = some t) (h2 : ds[i]? = some d) (h : stepKV l = stKV ks ds) : False := by
  have e := stKV_get h1 h2
  rw [← h] at e
  unfold stepKV at e
  rw [List.getElem?_map] at e
  cases hl : l[i]? with
  | none => rw [hl] at e; cases e
  | some p => rw [hl] at e; cases e
def wKV (g l : Int) : List (Key × V) := [(Sum.inr (S [61]), .int g), (Sum.inr (S [47]), .int (-l))]
theorem wKV_get {g l : Int} {c : Nat} (hc : c = 61 ∨ c = 47) : valV (wKV g l) (Sum.inr (S [c])) = some (.int (wt g l c)) := by
  rcases hc with e | e
  · subst e; rfl
  · subst e
    unfold wKV
    rw [valV_neg (fun q => by have := (List.cons.inj (inr_S q)).1; omega), valV_pos rfl]
    rfl
theorem mxL_of {l : List Nat} {m : Int} (hm : m ∈ l.map fun n => ((n : Nat) : Int)) (h : ∀ x ∈ l.map (fun n => ((n : Nat) : Int)), x ≤ m) : m = ((mxL l : Nat) : Int) := by
  obtain ⟨n, hn, rfl⟩ := List.mem_map.mp hm
  have h1 := mxL_ge hn
  have h2 : mxL l ≤ n := mxL_le fun x hx => by
    have := h _ (List.mem_map.mpr ⟨x, hx, rfl⟩)
    omega
  omega
end Sr
namespace Sr
open PySem PySem.Spec PyProof.Rows L2
theorem Kp.tab {a b P : Addr} {q : Str} {H H' : Hp} (k : Kp a b H H') (s : Src H a b) (t : LamX.TabS H P q) : LamX.TabS H' P q := by
  obtain ⟨ps, h1, h2, h3⟩ := t
  obtain ⟨_, s0, i, cs, e1, e2, _⟩ := s
  have ne : ∀ c o, H c = some o → (∀ xs, o ≠ .lst xs) → c ≠ a ∧ c ≠ b := fun c o hc hn =>
    ⟨fun z => by
      subst z
      exact hn _ (Option.some.inj (hc.symm.trans e1)), fun z => by
      subst z
      exact hn _ (Option.some.inj (hc.symm.trans e2))⟩
  have n1 := ne P _ h1 (fun _ z => nomatch z)
  refine ⟨ps, k _ _ n1.1 n1.2 h1, h2, fun pos cv hc => ?_⟩
  obtain ⟨c, z1, z2⟩ := h3 pos cv hc
  have n2 := ne c _ z2 (fun _ z => by unfold LamX.CodeO at z; cases z)
  exact ⟨c, z1, k _ _ n2.1 n2.2 z2⟩
theorem Src_smT {a b P : Addr} {q : Str} {H H' : Hp} (x : Src H a b) (e : SmT P q H H') : Src H' a b := by
  obtain ⟨n, s, i, cs, h1, h2, h3⟩ := x
  exact ⟨n, s, i, cs, e.lst h1, e.lst h2, h3⟩
end Sr
namespace Sr
open PySem PySem.Spec PyProof.Rows L2
/-- the tables are kept -/
def Tk (H H' : Hp) : Prop := ∀ P q, LamX.TabS H P q → LamX.TabS H' P q
theorem Tk.refl (H : Hp) : Tk H H := fun _ _ h => h
theorem Tk.new {H H1 : Hp} {p : Addr} {o : HO} (t : Tk H H1) (h : H1 p = none) : Tk H (upd H1 p o) := fun P q x => (t P q x).ext (same_upd h)
theorem Tk.kp {a b : Addr} {H H1 H2 : Hp} (t : Tk H H1) (s : Src H1 a b) (k : Kp a b H1 H2) : Tk H H2 := fun P q x => k.tab s (t P q x)
theorem Tk.lst {H H1 : Hp} {p : Addr} {o : HO} {xs : List V} (t : Tk H H1) (h : H1 p = some (.lst xs)) : Tk H (upd H1 p o) := fun P q x => tabS_upd (t P q x) (fun _ z => by rw [h] at z; cases z) fun _ z => by rw [h] at z; cases z
end Sr

namespace Sr
open PySem PySem.Spec PyProof.Rows L2
/-! ### all texts of likes in which no seed fits -/
/-- no seed fits at the end -/
def endB (sds : List (List Nat)) (y : List Nat) : Bool := (sds.filter fun sd => fitsB sd y ((y.length : Int) - (sd.length : Int))).isEmpty
def two (z : List Nat) : List (List Nat) := [z ++ [61], z ++ [47]]
def nextU (sds : List (List Nat)) (rows : List (List Nat)) : List (List Nat) := (rows.flatMap two).filter (endB sds)
def un (sds : List (List Nat)) : Nat → List (List Nat)
  | 0 => [[]]
  | n + 1 => nextU sds (un sds n)
def every (sds : List (List Nat)) : Nat → List (List Nat)
  | 0 => [[]]
  | n + 1 => every sds n ++ un sds (n + 1)
theorem endB_iff {sds : List (List Nat)} (h1 : Ones sds) {y : List Nat} : endB sds y = true ↔ ∀ sd ∈ sds, sd.length ≤ y.length → ∃ k, k < sd.length ∧ sd[k]? = some 35 ∧ y[y.length - sd.length + k]? = some 47 := by
  unfold endB
  rw [List.isEmpty_iff, List.filter_eq_nil_iff]
  constructor
  · intro h sd hsd hl
    have h2 := h sd hsd
    rw [fitsB_iff (h1 sd hsd)] at h2
    refine Classical.byContradiction fun hn => h2 ⟨by omega, by omega, fun k hk hc => hn ⟨k, hk, hc.1, ?_⟩⟩
    have : ((y.length : Int) - (sd.length : Int)).toNat = y.length - sd.length := by omega
    rw [this] at hc
    exact hc.2
  · intro h sd hsd h2
    obtain ⟨h3, h4, h5⟩ := (fitsB_iff (h1 sd hsd)).mp h2
    obtain ⟨k, hk, e1, e2⟩ := h sd hsd (by omega)
    have : ((y.length : Int) - (sd.length : Int)).toNat = y.length - sd.length := by omega
    rw [this] at h5
    exact h5 k hk ⟨e1, e2⟩
theorem free_snoc {sds : List (List Nat)} (h1 : Ones sds) {z : List Nat} {c : Nat} : Free sds (z ++ [c]) ↔ Free sds z ∧ endB sds (z ++ [c]) = true := by
  constructor
  · intro h
    refine ⟨Free.mid h1 (a := []) (c := [c]) (by simpa using h), ?_⟩
    rw [endB_iff h1]
    rw [free_iff h1] at h
    intro sd hsd hl
    exact h sd hsd _ (by omega)
  · rintro ⟨h, he⟩
    rw [endB_iff h1] at he
    rw [free_iff h1] at h ⊢
    intro sd hsd p hp
    rw [List.length_append] at hp
    have hc : [c].length = 1 := rfl
    by_cases hlt : p + sd.length ≤ z.length
    · obtain ⟨k, hk, e1, e2⟩ := h sd hsd p hlt
      exact ⟨k, hk, e1, by rw [List.getElem?_append_left (by omega)]; exact e2⟩
    · obtain ⟨k, hk, e1, e2⟩ := he sd hsd (by rw [List.length_append]; omega)
      refine ⟨k, hk, e1, ?_⟩
      rw [← e2]
      congr 1
      rw [List.length_append]
      omega
theorem free_nil {sds : List (List Nat)} (h1 : Ones sds) : Free sds [] := by
  rw [free_iff h1]
  intro sd hsd p hp
  have := h1 sd hsd
  have e : ([] : List Nat).length = 0 := rfl
  omega
theorem un_iff {sds : List (List Nat)} (h1 : Ones sds) : ∀ {n : Nat} {z : List Nat}, z ∈ un sds n ↔ z.length = n ∧ Lk z ∧ Free sds z
  | 0, z => by
    show z ∈ [[]] ↔ _
    rw [List.mem_singleton]
    constructor
    · intro e
      subst e
      exact ⟨rfl, (fun c hc => nomatch hc), free_nil h1⟩
    · rintro ⟨e, _⟩
      exact List.length_eq_zero_iff.mp e
  | n + 1, z => by
    show z ∈ nextU sds (un sds n) ↔ _
    unfold nextU
    rw [List.mem_filter, List.mem_flatMap]
    constructor
    · rintro ⟨⟨y, hy, hz⟩, he⟩
      obtain ⟨e, lk, fr⟩ := (un_iff h1).mp hy
      have : z = y ++ [61] ∨ z = y ++ [47] := by simpa [two] using hz
      rcases this with e2 | e2
      · subst e2
        exact ⟨by rw [List.length_append, e]; rfl, lk.app fun c hc => .inl (List.mem_singleton.mp hc), (free_snoc h1).mpr ⟨fr, he⟩⟩
      · subst e2
        exact ⟨by rw [List.length_append, e]; rfl, lk.app fun c hc => .inr (List.mem_singleton.mp hc), (free_snoc h1).mpr ⟨fr, he⟩⟩
    · rintro ⟨e, lk, fr⟩
      have hne : z ≠ [] := fun h => by rw [h] at e; simp at e
      obtain ⟨y, c, rfl⟩ : ∃ y c, z = y ++ [c] := ⟨z.dropLast, z.getLast hne, (List.dropLast_concat_getLast hne).symm⟩
      obtain ⟨f1, f2⟩ := (free_snoc h1).mp fr
      refine ⟨⟨y, (un_iff h1).mpr ⟨by rw [List.length_append] at e; have e1 : [c].length = 1 := rfl; omega, fun d hd => lk d (List.mem_append.mpr (.inl hd)), f1⟩, ?_⟩, f2⟩
      have := lk c (List.mem_append.mpr (.inr (List.mem_singleton.mpr rfl)))
      rcases this with e2 | e2 <;> subst e2 <;> simp [two]
theorem every_iff {sds : List (List Nat)} (h1 : Ones sds) : ∀ {n : Nat} {z : List Nat}, z ∈ every sds n ↔ z.length ≤ n ∧ Lk z ∧ Free sds z
  | 0, z => by
    show z ∈ un sds 0 ↔ _
    rw [un_iff h1]
    constructor
    · rintro ⟨e, h⟩
      exact ⟨by omega, h⟩
    · rintro ⟨e, h⟩
      exact ⟨by omega, h⟩
  | n + 1, z => by
    show z ∈ every sds n ++ un sds (n + 1) ↔ _
    rw [List.mem_append, every_iff h1, un_iff h1]
    constructor
    · rintro (⟨e, h⟩ | ⟨e, h⟩)
      · exact ⟨by omega, h⟩
      · exact ⟨by omega, h⟩
    · rintro ⟨e, h⟩
      by_cases he : z.length ≤ n
      · exact .inl ⟨he, h⟩
      · exact .inr ⟨by omega, h⟩
theorem lexB_app : ∀ {a b : List Nat} (c d : List Nat), a.length = b.length → lexB a b = true → a ≠ b → lexB (a ++ c) (b ++ d) = true
  | [], [], _, _, _, _, h => absurd rfl h
  | [], _ :: _, _, _, h, _, _ => by simp at h
  | _ :: _, [], _, _, h, _, _ => by simp at h
  | x :: a, y :: b, c, d, hl, h, hn => by
    simp only [List.cons_append, lexB, Bool.or_eq_true, Bool.and_eq_true, decide_eq_true_eq] at h ⊢
    rcases h with h | ⟨e, h⟩
    · exact .inl h
    · subst e
      exact .inr ⟨rfl, lexB_app c d (by simpa using hl) h fun e => hn (by rw [e])⟩
theorem lexB_two : ∀ z : List Nat, lexB (z ++ [61]) (z ++ [47]) = true
  | [] => by decide
  | c :: z => by simp [lexB, lexB_two z]
/-- strictly ahead, at one length -/
def Ahead (a b : List Nat) : Prop := lexB a b = true ∧ a ≠ b
theorem un_sorted {sds : List (List Nat)} (h1 : Ones sds) : ∀ n : Nat, (un sds n).Pairwise Ahead
  | 0 => List.pairwise_singleton _ _
  | n + 1 => by
    show (nextU sds (un sds n)).Pairwise Ahead
    refine List.Pairwise.filter _ ?_
    rw [List.pairwise_flatMap]
    refine ⟨fun z _ => ?_, ?_⟩
    · refine List.pairwise_cons.mpr ⟨fun y hy => ?_, List.pairwise_singleton _ _⟩
      rw [List.mem_singleton.mp hy]
      refine ⟨lexB_two z, fun e => ?_⟩
      have := List.append_cancel_left e
      cases this
    · refine List.Pairwise.imp_of_mem ?_ (un_sorted h1 n)
      intro a b ha hb hab x hx y hy
      have hl : a.length = b.length := by rw [((un_iff h1).mp ha).1, ((un_iff h1).mp hb).1]
      have ex : ∃ c, x = a ++ [c] := by
        have : x = a ++ [61] ∨ x = a ++ [47] := by simpa [two] using hx
        rcases this with e | e <;> exact ⟨_, e⟩
      have ey : ∃ c, y = b ++ [c] := by
        have : y = b ++ [61] ∨ y = b ++ [47] := by simpa [two] using hy
        rcases this with e | e <;> exact ⟨_, e⟩
      obtain ⟨c, rfl⟩ := ex
      obtain ⟨d, rfl⟩ := ey
      refine ⟨lexB_app _ _ hl hab.1 hab.2, fun e => hab.2 ?_⟩
      exact (List.append_inj e hl).1
theorem every_sorted {sds : List (List Nat)} (h1 : Ones sds) : ∀ n : Nat, (every sds n).Pairwise Sle
  | 0 => List.pairwise_singleton _ _
  | n + 1 => by
    show (every sds n ++ un sds (n + 1)).Pairwise Sle
    rw [List.pairwise_append]
    refine ⟨every_sorted h1 n, ?_, fun a ha b hb => .inl ?_⟩
    · refine List.Pairwise.imp_of_mem ?_ (un_sorted h1 (n + 1))
      intro a b ha hb hab
      exact .inr ⟨by rw [((un_iff h1).mp ha).1, ((un_iff h1).mp hb).1], hab.1⟩
    · have := ((every_iff h1).mp ha).1
      have := ((un_iff h1).mp hb).1
      omega
theorem two_len (rows : List (List Nat)) : (rows.flatMap two).length = 2 * rows.length := by
  induction rows with
  | nil => rfl
  | cons z rows ih =>
    rw [List.flatMap_cons, List.length_append, ih]
    show 2 + _ = 2 * (_ + 1)
    omega
theorem un_len (sds : List (List Nat)) : ∀ n : Nat, (un sds n).length ≤ 2 ^ n
  | 0 => Nat.le_refl _
  | n + 1 => by
    have h := un_len sds n
    have h2 := List.length_filter_le (endB sds) ((un sds n).flatMap two)
    rw [two_len] at h2
    show (((un sds n).flatMap two).filter (endB sds)).length ≤ _
    rw [Nat.pow_succ]
    omega
theorem every_len (sds : List (List Nat)) : ∀ n : Nat, (every sds n).length ≤ 2 ^ (n + 1)
  | 0 => (show 1 ≤ 2 by decide)
  | n + 1 => by
    have h := every_len sds n
    have h2 := un_len sds (n + 1)
    show (every sds n ++ un sds (n + 1)).length ≤ _
    rw [List.length_append, Nat.pow_succ]
    omega
/-- the first one of the best ones is the bar's -/
theorem best_first {sds : List (List Nat)} (h1 : Ones sds) {g l w : Int} {z : List Nat} (h : IsBar sds g l w z) {n : Nat} (hz : z.length ≤ n) : ((every sds n).filter fun y => decide (w ≤ wor g l y))[0]? = some z := by
  have hmem : z ∈ (every sds n).filter fun y => decide (w ≤ wor g l y) := List.mem_filter.mpr ⟨(every_iff h1).mpr ⟨hz, h.lk, h.free⟩, decide_eq_true (by rw [h.is]; omega)⟩
  have hs := List.Pairwise.filter (fun y => decide (w ≤ wor g l y)) (every_sorted h1 n)
  cases hb : (every sds n).filter fun y => decide (w ≤ wor g l y) with
  | nil =>
    rw [hb] at hmem
    cases hmem
  | cons f t =>
    have hf : f ∈ (every sds n).filter fun y => decide (w ≤ wor g l y) := by rw [hb]; exact List.mem_cons_self
    obtain ⟨f1, f2⟩ := List.mem_filter.mp hf
    obtain ⟨_, f3, f4⟩ := (every_iff h1).mp f1
    have f5 : w ≤ wor g l f := of_decide_eq_true f2
    have f6 := h.max f f3 f4
    have f7 := h.first f f3 f4 (by omega)
    rw [hb] at hmem hs
    rcases List.mem_cons.mp hmem with e | e
    · rw [e]; rfl
    · have := (List.pairwise_cons.mp hs).1 z e
      rw [f7.anti this]
      rfl
theorem best_none {sds : List (List Nat)} (h1 : Ones sds) {g l w : Int} {z : List Nat} (h : IsBar sds g l w z) (n : Nat) : (((every sds n).filter fun y => decide (w ≤ wor g l y)).filter fun y => decide (w < wor g l y)) = [] := by
  rw [List.filter_eq_nil_iff]
  intro y hy hw
  obtain ⟨y1, _⟩ := List.mem_filter.mp hy
  obtain ⟨_, y3, y4⟩ := (every_iff h1).mp y1
  have := h.max y y3 y4
  have := of_decide_eq_true hw
  omega
end Sr
namespace Sr
open PySem PySem.Spec PyProof.Rows L2
theorem eqv_strs_nil : ∀ cs : List (List Nat), PyData.eqv (.list (cs.map strD)) (.list []) = cs.isEmpty
  | [] => by decide +kernel
  | c :: cs => by
    show PyData.eqv (.list (strD c :: cs.map strD)) (.list []) = false
    simp [PyData.eqv, PyData.eqvAll]
theorem eqS_nil {K : PySem.W.Frag} {H : Hp} {D p : Addr} {cs : List (List Nat)} (hc : Cd cs) (hD : H D = some (.lst (cs.map strV))) (hp : H p = some (.lst [])) {Q : VK} (q : Q (.bl cs.isEmpty) H) : rEqD K (.ref D) (.ref p) H Q :=
  ⟨.list (cs.map strD), .list [], .lst (SqL.of hD) (dp_strs _), .lst (SqL.of hp) .nil, shaped_strs hc, by decide +kernel, by rw [eqv_strs_nil]; exact q⟩
theorem neS_nil {K : PySem.W.Frag} {H : Hp} {D p : Addr} {cs : List (List Nat)} (hc : Cd cs) (hD : H D = some (.lst (cs.map strV))) (hp : H p = some (.lst [])) {Q : VK} (q : Q (.bl (!cs.isEmpty)) H) : rNeD K (.ref D) (.ref p) H Q :=
  ⟨.list (cs.map strD), .list [], .lst (SqL.of hD) (dp_strs _), .lst (SqL.of hp) .nil, shaped_strs hc, by decide +kernel, by rw [eqv_strs_nil]; exact q⟩
theorem take_filter_yes {α : Type} {l : List α} {f : α → Bool} {i : Nat} (hi : i < l.length) (h : f l[i] = true) : (l.take (i + 1)).filter f = (l.take i).filter f ++ [l[i]] := by
  rw [List.take_succ_eq_append_getElem hi, List.filter_append, List.filter_cons, if_pos h]
  rfl
theorem take_filter_no {α : Type} {l : List α} {f : α → Bool} {i : Nat} (hi : i < l.length) (h : ¬ f l[i] = true) : (l.take (i + 1)).filter f = (l.take i).filter f := by
  rw [List.take_succ_eq_append_getElem hi, List.filter_append, List.filter_cons, if_neg h]
  simp
/-- a comprehension over a list of texts that keeps its own texts: a turn -/
theorem keep_yes {H0 H : Hp} {D : Addr} {l : List (List Nat)} {f : List Nat → Bool} {i : Nat} (hi : i < l.length) (hl : l.length ≤ 100000) (hn : H0 D = none) (sm : Same H0 H) (hD : H D = some (.lst (((l.take i).filter f).map strV))) (hf : f l[i] = true) :
    ∃ acc, H D = some (.lst acc) ∧ acc.length < sizeLine ∧ (Same H0 (upd H D (.lst (acc ++ [strV l[i]]))) ∧ upd H D (.lst (acc ++ [strV l[i]])) D = some (.lst (((l.take (i + 1)).filter f).map strV))) := by
  refine ⟨_, hD, ?_, fun b x e => ?_, ?_⟩
  · rw [List.length_map]
    have h1 := List.length_filter_le f (l.take i)
    rw [List.length_take] at h1
    exact Nat.lt_of_le_of_lt (by omega : _ ≤ 100000) (by decide)
  · rw [upd_ne (ne_of_none e hn)]
    exact sm b x e
  · rw [upd_same, take_filter_yes hi hf, List.map_append]
    rfl
theorem keep_no {H0 H : Hp} {D : Addr} {l : List (List Nat)} {f : List Nat → Bool} {i : Nat} (hi : i < l.length) (sm : Same H0 H) (hD : H D = some (.lst (((l.take i).filter f).map strV))) (hf : ¬ f l[i] = true) :
    Same H0 H ∧ H D = some (.lst (((l.take (i + 1)).filter f).map strV)) := by
  refine ⟨sm, ?_⟩
  rw [take_filter_no hi hf]
  exact hD
/-- the rows told so far: all of i texts, and of the next one's two the first j -/
def rowsU (sds rows : List (List Nat)) (i j : Nat) : List (List Nat) := ((rows.take i).flatMap two ++ ((rows[i]?.map two).getD []).take j).filter (endB sds)
theorem rowsU_zero (sds rows : List (List Nat)) : rowsU sds rows 0 0 = [] := by simp [rowsU]
theorem rowsU_all (sds rows : List (List Nat)) : rowsU sds rows rows.length 0 = nextU sds rows := by simp [rowsU, nextU]
theorem rowsU_row {sds rows : List (List Nat)} {i : Nat} (hi : i < rows.length) : rowsU sds rows i 2 = rowsU sds rows (i + 1) 0 := by
  unfold rowsU
  rw [List.take_succ_eq_append_getElem hi, List.flatMap_append, List.getElem?_eq_getElem hi]
  simp [two]
theorem rowsU_yes {sds rows : List (List Nat)} {i j : Nat} (hi : i < rows.length) (hj : j < 2) (h : endB sds (rows[i] ++ [if j = 0 then 61 else 47]) = true) : rowsU sds rows i (j + 1) = rowsU sds rows i j ++ [rows[i] ++ [if j = 0 then 61 else 47]] := by
  unfold rowsU
  rw [List.getElem?_eq_getElem hi]
  have : j = 0 ∨ j = 1 := by omega
  rcases this with e | e
  · subst e
    simp [two, List.filter_append, List.filter_cons] at h ⊢
    simp [h]
  · subst e
    simp [two, List.filter_append, List.filter_cons] at h ⊢
    simp only [h, if_true]
    split <;> rfl
theorem rowsU_no {sds rows : List (List Nat)} {i j : Nat} (hi : i < rows.length) (hj : j < 2) (h : ¬ endB sds (rows[i] ++ [if j = 0 then 61 else 47]) = true) : rowsU sds rows i (j + 1) = rowsU sds rows i j := by
  unfold rowsU
  rw [List.getElem?_eq_getElem hi]
  have : j = 0 ∨ j = 1 := by omega
  rcases this with e | e <;> subst e <;> simp [two, List.filter_append, List.filter_cons] at h ⊢ <;> simp [h]
theorem rowsU_len (sds rows : List (List Nat)) (i j : Nat) : (rowsU sds rows i j).length ≤ 2 * rows.length + 2 := by
  unfold rowsU
  refine Nat.le_trans (List.length_filter_le _ _) ?_
  rw [List.length_append, two_len, List.length_take, List.length_take]
  have : ((rows[i]?.map two).getD []).length ≤ 2 := by
    cases rows[i]? <;> simp [two]
  omega
end Sr

namespace Sr
open PySem PySem.Spec PyProof.Rows L2
/-! ### windows -/
structure Win where
  k : Nat
  z : List Nat
  n : Nat
  p : Nat
/-- the signs under the picks of a seed at a place -/
def pickN (sd r : List Nat) (p i : Nat) : List Nat := (List.range i).filterMap fun j => if sd[j]? = some 35 then r[p + j]? else none
def pickW (sd r : List Nat) (p : Nat) : List Nat := pickN sd r p sd.length
/-- how many places -/
def plcs (sd r : List Nat) : Nat := ((r.length : Int) - (sd.length : Int) + 1).toNat
def winsP (k : Nat) (sd : List Nat) (n : Nat) (r : List Nat) (m : Nat) : List Win := (List.range m).map fun p => ⟨k, pickW sd r p, n, p⟩
def winsR (k : Nat) (sd : List Nat) (rows : List (List Nat)) (m : Nat) : List Win := (List.range m).flatMap fun n => winsP k sd n (rows[n]?.getD []) (plcs sd (rows[n]?.getD []))
def winsS (sds rows : List (List Nat)) (m : Nat) : List Win := (List.range m).flatMap fun k => winsR k (sds[k]?.getD []) rows rows.length
def wins (sds rows : List (List Nat)) : List Win := winsS sds rows sds.length
def winV (w : Win) : List V := [.int (w.k : Nat), .str (S w.z), .int (w.n : Nat), .int (w.p : Nat)]
def winD (w : Win) : List PyData := [.int (w.k : Nat), .str (S w.z), .int (w.n : Nat), .int (w.p : Nat)]
def winsUp (sds rows : List (List Nat)) : List Win := (wins sds rows).mergeSort (PySem.W.dataLe false fun w => PyData.tuple (winD w))
theorem winsP_succ (k : Nat) (sd : List Nat) (n : Nat) (r : List Nat) (m : Nat) : winsP k sd n r (m + 1) = winsP k sd n r m ++ [⟨k, pickW sd r m, n, m⟩] := by
  unfold winsP
  rw [List.range_succ, List.map_append]
  rfl
theorem winsR_succ (k : Nat) (sd : List Nat) (rows : List (List Nat)) (m : Nat) : winsR k sd rows (m + 1) = winsR k sd rows m ++ winsP k sd m (rows[m]?.getD []) (plcs sd (rows[m]?.getD [])) := by
  unfold winsR
  rw [List.range_succ, List.flatMap_append]
  simp
theorem winsS_succ (sds rows : List (List Nat)) (m : Nat) : winsS sds rows (m + 1) = winsS sds rows m ++ winsR m (sds[m]?.getD []) rows rows.length := by
  unfold winsS
  rw [List.range_succ, List.flatMap_append]
  simp
theorem pickN_yes {sd r : List Nat} {p i c : Nat} (h : sd[i]? = some 35) (hr : r[p + i]? = some c) : pickN sd r p (i + 1) = pickN sd r p i ++ [c] := by
  unfold pickN
  rw [List.range_succ, List.filterMap_append]
  simp [h, hr]
theorem pickN_no {sd r : List Nat} {p i : Nat} (h : ¬ sd[i]? = some 35) : pickN sd r p (i + 1) = pickN sd r p i := by
  unfold pickN
  rw [List.range_succ, List.filterMap_append]
  simp [h]
theorem pickN_len (sd r : List Nat) (p i : Nat) : (pickN sd r p i).length ≤ i := by
  unfold pickN
  have := List.length_filterMap_le (fun j => if sd[j]? = some 35 then r[p + j]? else none) (List.range i)
  rw [List.length_range] at this
  exact this
theorem winsP_len (k : Nat) (sd : List Nat) (n : Nat) (r : List Nat) (m : Nat) : (winsP k sd n r m).length = m := by
  unfold winsP
  rw [List.length_map, List.length_range]
theorem plcs_le (sd r : List Nat) : plcs sd r ≤ r.length + 1 := by
  unfold plcs
  omega
theorem winsR_len {k : Nat} {sd : List Nat} {rows : List (List Nat)} (h : ∀ z ∈ rows, z.length ≤ 60) : ∀ m, (winsR k sd rows m).length ≤ 61 * m
  | 0 => Nat.le_refl _
  | m + 1 => by
    rw [winsR_succ, List.length_append, winsP_len]
    have h1 := winsR_len (k := k) (sd := sd) h m
    have h2 : (rows[m]?.getD []).length ≤ 60 := by
      cases e : rows[m]? with
      | none => simp
      | some z => exact h z (List.mem_of_getElem? e)
    have := plcs_le sd (rows[m]?.getD [])
    omega
theorem winsS_len {sds rows : List (List Nat)} (h : ∀ z ∈ rows, z.length ≤ 60) (hr : rows.length ≤ 10) : ∀ m, (winsS sds rows m).length ≤ 610 * m
  | 0 => Nat.le_refl _
  | m + 1 => by
    rw [winsS_succ, List.length_append]
    have h1 := winsS_len (sds := sds) h hr m
    have h2 := winsR_len (k := m) (sd := sds[m]?.getD []) h rows.length
    omega
theorem dp_win {K : PySem.W.Frag} {H : Hp} (w : Win) : DpAll K H (winV w) (winD w) := .cons (.int _) (.cons (.str _) (.cons (.int _) (.cons (.int _) .nil)))
end Sr
namespace Sr
open PySem PySem.Spec PyProof.Rows L2
theorem allAlike_wins (L : List Win) : PySem.W.AllAlike (L.map fun p => PyData.tuple (winD p)) := by
  intro d hd d' hd'
  obtain ⟨p, _, rfl⟩ := List.mem_map.mp hd
  obtain ⟨p', _, rfl⟩ := List.mem_map.mp hd'
  show PySem.W.alikeAll _ _ = true
  simp [winD, PySem.W.alikeAll, PySem.W.alike]
theorem depth_win (w : Win) : (PyData.tuple (winD w)).depth ≤ 60 := by
  simp only [winD, PyData.depth, PyData.depthAll]
  omega
theorem pickN_code (sd r : List Nat) (p i : Nat) : ∀ c ∈ pickN sd r p i, c ∈ r := by
  intro c hc
  obtain ⟨j, _, h⟩ := List.mem_filterMap.mp hc
  by_cases hp : sd[j]? = some 35
  · rw [if_pos hp] at h
    exact List.mem_of_getElem? h
  · rw [if_neg hp] at h
    cases h
end Sr
namespace Sr
open PySem PySem.Spec PyProof.Rows L2
theorem flatMap_app_perm {α β : Type} (f g : α → List β) : ∀ l : List α, (l.flatMap fun a => f a ++ g a).Perm (l.flatMap f ++ l.flatMap g)
  | [] => .refl _
  | a :: l => by
    rw [List.flatMap_cons, List.flatMap_cons, List.flatMap_cons]
    have ih := flatMap_app_perm f g l
    have h1 : (f a ++ g a ++ (l.flatMap fun a => f a ++ g a)).Perm (f a ++ g a ++ (l.flatMap f ++ l.flatMap g)) := List.Perm.append_left _ ih
    refine h1.trans ?_
    rw [List.append_assoc, List.append_assoc]
    refine List.Perm.append_left _ ?_
    rw [← List.append_assoc, ← List.append_assoc]
    exact List.Perm.append_right _ List.perm_append_comm
theorem flatMap_nil' {α β : Type} : ∀ l : List α, (l.flatMap fun _ => ([] : List β)) = []
  | [] => rfl
  | a :: l => by rw [List.flatMap_cons, flatMap_nil' l]; rfl
theorem flatMap_swap {α β γ : Type} (f : α → β → List γ) (m : List β) : ∀ l : List α, (l.flatMap fun a => m.flatMap fun b => f a b).Perm (m.flatMap fun b => l.flatMap fun a => f a b)
  | [] => by
    rw [List.flatMap_nil]
    have : (m.flatMap fun b => ([] : List α).flatMap fun a => f a b) = [] := flatMap_nil' m
    rw [this]
  | a :: l => by
    rw [List.flatMap_cons]
    have ih := flatMap_swap f m l
    refine (List.Perm.append_left _ ih).trans ?_
    have := (flatMap_app_perm (fun b => f a b) (fun b => l.flatMap fun a => f a b) m).symm
    exact this
theorem dataLe_trans {α : Type} (k : α → PyData) (a b c : α) (h1 : PySem.W.dataLe false k a b = true) (h2 : PySem.W.dataLe false k b c = true) : PySem.W.dataLe false k a c = true := by
  rw [PySem.W.dataLe_eq] at h1 h2 ⊢
  have h1 : (!PySem.W.dataLt (k b) (k a)) = true := h1
  have h2 : (!PySem.W.dataLt (k c) (k b)) = true := h2
  show (!PySem.W.dataLt (k c) (k a)) = true
  rw [Bool.not_eq_true'] at h1 h2 ⊢
  cases h : PySem.W.dataLt (k c) (k a) with
  | false => rfl
  | true =>
    rcases lex_negTrans _ (PySem.W.keyToks (k b)) _ h with q | q
    · have q' : PySem.W.dataLt (k c) (k b) = true := q
      rw [h2] at q'; cases q'
    · have q' : PySem.W.dataLt (k b) (k a) = true := q
      rw [h1] at q'; cases q'
theorem dataLe_total {α : Type} (k : α → PyData) (a b : α) : (PySem.W.dataLe false k a b || PySem.W.dataLe false k b a) = true := by
  rw [PySem.W.dataLe_eq]
  show ((!PySem.W.dataLt (k b) (k a)) || (!PySem.W.dataLt (k a) (k b))) = true
  cases h : PySem.W.dataLt (k b) (k a) with
  | false => rfl
  | true =>
    cases h2 : PySem.W.dataLt (k a) (k b) with
    | false => rfl
    | true =>
      have q : PySem.W.dataLt (k a) (k a) = true := lex_trans _ _ _ h2 h
      have q2 : PySem.W.dataLt (k a) (k a) = false := lex_irrefl _
      rw [q2] at q; cases q
theorem dataLe_anti {α : Type} (k : α → PyData) {a b : α} (h1 : PySem.W.dataLe false k a b = true) (h2 : PySem.W.dataLe false k b a = true) : PySem.W.keyToks (k a) = PySem.W.keyToks (k b) := by
  rw [PySem.W.dataLe_eq] at h1 h2
  have h1 : (!PySem.W.dataLt (k b) (k a)) = true := h1
  have h2 : (!PySem.W.dataLt (k a) (k b)) = true := h2
  rw [Bool.not_eq_true'] at h1 h2
  exact lex_total _ _ h2 h1
theorem mergeSort_perm_eq {α : Type} (k : α → PyData) {L M : List α} (inj : ∀ a b, PySem.W.keyToks (k a) = PySem.W.keyToks (k b) → a = b) (h : L.Perm M) : L.mergeSort (PySem.W.dataLe false k) = M.mergeSort (PySem.W.dataLe false k) :=
  List.Perm.eq_of_pairwise (le := fun a b => PySem.W.dataLe false k a b = true) (fun a b _ _ h1 h2 => inj a b (dataLe_anti k h1 h2)) (List.pairwise_mergeSort (dataLe_trans k) (dataLe_total k) L) (List.pairwise_mergeSort (dataLe_trans k) (dataLe_total k) M)
    ((List.mergeSort_perm L _).trans (h.trans (List.mergeSort_perm M _).symm))
theorem win_inj (a b : Win) (h : PySem.W.keyToks (PyData.tuple (winD a)) = PySem.W.keyToks (PyData.tuple (winD b))) : a = b := by
  obtain ⟨k, z, n, p⟩ := a
  obtain ⟨k', z', n', p'⟩ := b
  simp [winD, PySem.W.keyToks, PySem.W.keyToksAll] at h
  obtain ⟨h1, h2, h3, h4⟩ := h
  have h2 : z = z' := by simpa [S] using h2
  have h1 : k = k' := by omega
  have h3 : n = n' := by omega
  have h4 : p = p' := by omega
  subst h1 h2 h3 h4
  rfl
/-! ### the program's order of them -/
abbrev W3 := Nat × List Nat × Nat
def w3V (q : W3) : List V := [.int (q.1 : Nat), .str (S q.2.1), .int (q.2.2 : Nat)]
def woK (row : List Nat) (k : Nat) (sd : List Nat) (m : Nat) : List W3 := (List.range m).map fun p => (k, pickW sd row p, p)
def wo (row : List Nat) (sds : List (List Nat)) (m : Nat) : List W3 := (List.range m).flatMap fun k => woK row k (sds[k]?.getD []) (plcs (sds[k]?.getD []) row)
def winsM (sds rows : List (List Nat)) (m : Nat) : List Win := (List.range m).flatMap fun n => (wo (rows[n]?.getD []) sds sds.length).map fun q => ⟨q.1, q.2.1, n, q.2.2⟩
theorem woK_succ (row : List Nat) (k : Nat) (sd : List Nat) (m : Nat) : woK row k sd (m + 1) = woK row k sd m ++ [(k, pickW sd row m, m)] := by
  unfold woK
  rw [List.range_succ, List.map_append]
  rfl
theorem wo_succ (row : List Nat) (sds : List (List Nat)) (m : Nat) : wo row sds (m + 1) = wo row sds m ++ woK row m (sds[m]?.getD []) (plcs (sds[m]?.getD []) row) := by
  unfold wo
  rw [List.range_succ, List.flatMap_append]
  simp
theorem winsM_succ (sds rows : List (List Nat)) (m : Nat) : winsM sds rows (m + 1) = winsM sds rows m ++ (wo (rows[m]?.getD []) sds sds.length).map fun q => ⟨q.1, q.2.1, m, q.2.2⟩ := by
  unfold winsM
  rw [List.range_succ, List.flatMap_append]
  simp
theorem winsM_perm (sds rows : List (List Nat)) : (winsM sds rows rows.length).Perm (wins sds rows) := by
  have e : winsM sds rows rows.length = (List.range rows.length).flatMap fun n => (List.range sds.length).flatMap fun k => winsP k (sds[k]?.getD []) n (rows[n]?.getD []) (plcs (sds[k]?.getD []) (rows[n]?.getD [])) := by
    unfold winsM wo
    congr 1
    funext n
    rw [List.map_flatMap]
    congr 1
    funext k
    unfold woK winsP
    rw [List.map_map]
    rfl
  rw [e]
  exact flatMap_swap _ _ _
theorem winsM_sort (sds rows : List (List Nat)) : (winsM sds rows rows.length).mergeSort (PySem.W.dataLe false fun w => PyData.tuple (winD w)) = winsUp sds rows := mergeSort_perm_eq _ win_inj (winsM_perm sds rows)
theorem woK_len (row : List Nat) (k : Nat) (sd : List Nat) (m : Nat) : (woK row k sd m).length = m := by
  unfold woK
  rw [List.length_map, List.length_range]
theorem wo_len {row : List Nat} {sds : List (List Nat)} (h : row.length ≤ 60) : ∀ m, (wo row sds m).length ≤ 61 * m
  | 0 => Nat.le_refl _
  | m + 1 => by
    rw [wo_succ, List.length_append, woK_len]
    have h1 := wo_len (sds := sds) h m
    have := plcs_le (sds[m]?.getD []) row
    omega
theorem winsM_len {sds rows : List (List Nat)} (h : ∀ z ∈ rows, z.length ≤ 60) (hs : sds.length ≤ 3) : ∀ m, (winsM sds rows m).length ≤ 183 * m
  | 0 => Nat.le_refl _
  | m + 1 => by
    rw [winsM_succ, List.length_append, List.length_map]
    have h1 := winsM_len h hs m
    have h2 : (rows[m]?.getD []).length ≤ 60 := by
      cases e : rows[m]? with
      | none => simp
      | some z => exact h z (List.mem_of_getElem? e)
    have h3 := wo_len (sds := sds) h2 sds.length
    omega
end Sr

namespace Sr
open PySem PySem.Spec PyProof.Rows L2
/-! ### a shelf in the heap -/
structure ShS where
  lets : List Nat
  g : Int
  l : Int
  sds : List (List Nat)
  rows : List (List Nat)
/-- what a shelf's own words are -/
structure ShOk (s : ShS) : Prop where
  g1 : 1 ≤ s.g
  g2 : s.g ≤ 9
  l1 : 1 ≤ s.l
  l2 : s.l ≤ 9
  sd : ∀ sd ∈ s.sds, Sd 8 sd
  one : 1 ≤ s.sds.length
  three : s.sds.length ≤ 3
structure ShAt (c : Addr) (H : Hp) (p : Addr) (foot : List Addr) (s : ShS) : Prop where
  ok : ShOk s
  ob : ∃ dx sc sq lp kp, H p = some (.ins c dx [("letters", .str (S s.lets)), ("scale", .ref sc), ("seeds", .ref sq), ("limit", .ref lp), ("laid", .ref kp)]) ∧ foot = [p, sq, kp] ∧ sq ≠ kp ∧ H sc = some (.tup [.int s.g, .int s.l]) ∧ H sq = some (.lst (s.sds.map strV)) ∧ H lp = some (.tup (barV (barM s.sds s.g s.l))) ∧ H kp = some (.lst (s.rows.map strV))
theorem ShAt.here {c p : Addr} {H : Hp} {foot : List Addr} {s : ShS} (h : ShAt c H p foot s) : ∀ b ∈ foot, ∃ o, H b = some o := by
  obtain ⟨dx, sc, sq, lp, kp, h1, rfl, n, h2, h3, h4, h5⟩ := h.ob
  intro b hb
  simp only [List.mem_cons, List.not_mem_nil, or_false] at hb
  rcases hb with e | e | e
  · subst e; exact ⟨_, h1⟩
  · subst e; exact ⟨_, h3⟩
  · subst e; exact ⟨_, h5⟩
theorem ShAt.notup {c p : Addr} {H : Hp} {foot : List Addr} {s : ShS} (h : ShAt c H p foot s) : ∀ b ∈ foot, ∀ xs, H b ≠ some (.tup xs) := by
  obtain ⟨dx, sc, sq, lp, kp, h1, rfl, n, h2, h3, h4, h5⟩ := h.ob
  intro b hb xs z
  simp only [List.mem_cons, List.not_mem_nil, or_false] at hb
  rcases hb with e | e | e
  · subst e; rw [h1] at z; cases z
  · subst e; rw [h3] at z; cases z
  · subst e; rw [h5] at z; cases z
theorem ShAt.same {c p : Addr} {H H' : Hp} {foot : List Addr} {s : ShS} (h : ShAt c H p foot s) (e : ∀ b ∈ foot, ∀ o, H b = some o → H' b = some o) (et : ∀ b xs, H b = some (.tup xs) → H' b = some (.tup xs)) : ShAt c H' p foot s := by
  obtain ⟨dx, sc, sq, lp, kp, h1, rfl, n, h2, h3, h4, h5⟩ := h.ob
  exact ⟨h.ok, dx, sc, sq, lp, kp, e _ (by simp) _ h1, rfl, n, et _ _ h2, e _ (by simp) _ h3, et _ _ h4, e _ (by simp) _ h5⟩
theorem ShAt.ins {c p : Addr} {H : Hp} {foot : List Addr} {s : ShS} (h : ShAt c H p foot s) : ∃ dx fs, H p = some (.ins c dx fs) ∧ fs.lookup ("lay" : Str) = none ∧ fs.lookup ("rows" : Str) = none ∧ fs.lookup ("windows" : Str) = none ∧ fs.lookup ("find" : Str) = none ∧ fs.lookup ("change" : Str) = none ∧ fs.lookup ("put" : Str) = none ∧ fs.lookup ("cut" : Str) = none ∧ fs.lookup ("_row_of" : Str) = none ∧ fs.lookup ("_seeded_lanes" : Str) = none := by
  obtain ⟨dx, sc, sq, lp, kp, h1, _⟩ := h.ob
  have no : ∀ m : Str, (m == ("letters" : Str)) = false → (m == ("scale" : Str)) = false → (m == ("seeds" : Str)) = false → (m == ("limit" : Str)) = false → (m == ("laid" : Str)) = false → ([(("letters" : Str), V.str (S s.lets)), ("scale", .ref sc), ("seeds", .ref sq), ("limit", .ref lp), ("laid", .ref kp)] : List (Str × V)).lookup m = none := fun m a1 a2 a3 a4 a5 => by
    simp only [List.lookup, a1, a2, a3, a4, a5]
  exact ⟨dx, _, h1, no _ (by decide +kernel) (by decide +kernel) (by decide +kernel) (by decide +kernel) (by decide +kernel), no _ (by decide +kernel) (by decide +kernel) (by decide +kernel) (by decide +kernel) (by decide +kernel), no _ (by decide +kernel) (by decide +kernel) (by decide +kernel) (by decide +kernel) (by decide +kernel), no _ (by decide +kernel) (by decide +kernel) (by decide +kernel) (by decide +kernel) (by decide +kernel), no _ (by decide +kernel) (by decide +kernel) (by decide +kernel) (by decide +kernel) (by decide +kernel), no _ (by decide +kernel) (by decide +kernel) (by decide +kernel) (by decide +kernel) (by decide +kernel), no _ (by decide +kernel) (by decide +kernel) (by decide +kernel) (by decide +kernel) (by decide +kernel), no _ (by decide +kernel) (by decide +kernel) (by decide +kernel) (by decide +kernel) (by decide +kernel), no _ (by decide +kernel) (by decide +kernel) (by decide +kernel) (by decide +kernel) (by decide +kernel)⟩
theorem ShAt.mem {c p : Addr} {H : Hp} {foot : List Addr} {s : ShS} (h : ShAt c H p foot s) : p ∈ foot := by
  obtain ⟨dx, sc, sq, lp, kp, h1, rfl, _⟩ := h.ob
  simp
/-! ### what follows of those alone -/
/-- what is not one's own stays, and so does every tuple -/
def Fr (foot : List Addr) (H H' : Hp) : Prop := (∀ b o, H b = some o → b ∉ foot → H' b = some o) ∧ ∀ b xs, H b = some (.tup xs) → H' b = some (.tup xs)
theorem Tup.fr {α : Type} {f : α → List V} {foot : List Addr} {H H' : Hp} {as : List Addr} {L : List α} (h : Tup f H as L) (fr : Fr foot H H') : Tup f H' as L := ⟨h.1, fun j a p h1 h2 => fr.2 _ _ (h.2 j a p h1 h2)⟩
theorem Tup.updL {α : Type} {f : α → List V} {H : Hp} {as : List Addr} {L : List α} {r : Addr} {xs : List V} {o : HO} (h : Tup f H as L) (hr : H r = some (.lst xs)) : Tup f (upd H r o) as L := ⟨h.1, fun j a p h1 h2 => by
  have := h.2 j a p h1 h2
  rw [upd_ne (ne_of this hr (by intro q; cases q))]
  exact this⟩
def Grow (foot foot' : List Addr) (H : Hp) : Prop := ∀ b ∈ foot', b ∈ foot ∨ H b = none
structure Two (c : Addr) (H : Hp) (p1 : Addr) (f1 : List Addr) (s1 : ShS) (p2 : Addr) (f2 : List Addr) (s2 : ShS) (Tr : List (Addr × HO)) : Prop where
  one : ShAt c H p1 f1 s1
  two : ShAt c H p2 f2 s2
  apart : ∀ b ∈ f1, b ∉ f2
  tr : ∀ t ∈ Tr, H t.1 = some t.2 ∧ t.1 ∉ f1 ∧ t.1 ∉ f2
theorem Two.swap {c p1 p2 : Addr} {H : Hp} {f1 f2 : List Addr} {s1 s2 : ShS} {Tr : List (Addr × HO)} (h : Two c H p1 f1 s1 p2 f2 s2 Tr) : Two c H p2 f2 s2 p1 f1 s1 Tr :=
  ⟨h.two, h.one, fun b h2 h1 => h.apart b h1 h2, fun t ht => ⟨(h.tr t ht).1, (h.tr t ht).2.2, (h.tr t ht).2.1⟩⟩
theorem Two.op {c p1 p2 : Addr} {H H' : Hp} {f1 f1' f2 : List Addr} {s1 s1' s2 : ShS} {Tr : List (Addr × HO)} (h : Two c H p1 f1 s1 p2 f2 s2 Tr) (sh : ShAt c H' p1 f1' s1') (fr : Fr f1 H H') (gr : Grow f1 f1' H) : Two c H' p1 f1' s1' p2 f2 s2 Tr := by
  refine ⟨sh, h.two.same (fun b hb o e => fr.1 b o e fun h1 => h.apart b h1 hb) fr.2, fun b hb h2 => ?_, fun t ht => ?_⟩
  · rcases gr b hb with e | e
    · exact h.apart b e h2
    · obtain ⟨o, eo⟩ := h.two.here b h2
      rw [e] at eo
      cases eo
  · obtain ⟨h1, h2, h3⟩ := h.tr t ht
    refine ⟨fr.1 _ _ h1 h2, fun hm => ?_, h3⟩
    rcases gr _ hm with e | e
    · exact h2 e
    · rw [e] at h1
      cases h1
theorem Two.same {c p1 p2 : Addr} {H H' : Hp} {f1 f2 : List Addr} {s1 s2 : ShS} {Tr : List (Addr × HO)} (h : Two c H p1 f1 s1 p2 f2 s2 Tr) (e : Same H H') : Two c H' p1 f1 s1 p2 f2 s2 Tr :=
  ⟨h.one.same (fun b _ o => e b o) (fun b _ x => e b _ x), h.two.same (fun b _ o => e b o) (fun b _ x => e b _ x), h.apart, fun t ht => ⟨e _ _ (h.tr t ht).1, (h.tr t ht).2⟩⟩
/-- an address that is no one's -/
theorem Two.upd {c p1 p2 r : Addr} {o : HO} {H : Hp} {f1 f2 : List Addr} {s1 s2 : ShS} {Tr : List (Addr × HO)} (h : Two c H p1 f1 s1 p2 f2 s2 Tr) (h1 : r ∉ f1) (h2 : r ∉ f2) (h3 : ∀ t ∈ Tr, r ≠ t.1) (h4 : ∀ xs, H r ≠ some (.tup xs)) : Two c (upd H r o) p1 f1 s1 p2 f2 s2 Tr := by
  have ht : ∀ b xs, H b = some (.tup xs) → L2.upd H r o b = some (.tup xs) := fun b xs e => by
    rw [upd_ne (fun q : b = r => h4 xs (by rw [← q]; exact e))]
    exact e
  refine ⟨h.one.same (fun b hb o' e => ?_) ht, h.two.same (fun b hb o' e => ?_) ht, h.apart, fun t ht => ⟨?_, (h.tr t ht).2⟩⟩
  · rw [upd_ne (fun q : b = r => h1 (by rw [← q]; exact hb))]; exact e
  · rw [upd_ne (fun q : b = r => h2 (by rw [← q]; exact hb))]; exact e
  · rw [upd_ne (Ne.symm (h3 t ht))]; exact (h.tr t ht).1
theorem Two.add {c p1 p2 r : Addr} {o : HO} {H : Hp} {f1 f2 : List Addr} {s1 s2 : ShS} {Tr : List (Addr × HO)} (h : Two c H p1 f1 s1 p2 f2 s2 Tr) (hr : H r = some o) (h1 : r ∉ f1) (h2 : r ∉ f2) : Two c H p1 f1 s1 p2 f2 s2 ((r, o) :: Tr) :=
  ⟨h.one, h.two, h.apart, fun t ht => by
    rcases List.mem_cons.mp ht with e | e
    · rw [e]; exact ⟨hr, h1, h2⟩
    · exact h.tr t e⟩
theorem Two.no {c p1 p2 r : Addr} {H : Hp} {f1 f2 : List Addr} {s1 s2 : ShS} {Tr : List (Addr × HO)} (h : Two c H p1 f1 s1 p2 f2 s2 Tr) (hr : H r = none) : r ∉ f1 ∧ r ∉ f2 ∧ ∀ t ∈ Tr, r ≠ t.1 :=
  ⟨fun hm => (by
    obtain ⟨o, e⟩ := h.one.here r hm
    rw [hr] at e
    cases e), fun hm => (by
    obtain ⟨o, e⟩ := h.two.here r hm
    rw [hr] at e
    cases e), fun t ht e => (by
    have := (h.tr t ht).1
    rw [← e, hr] at this
    cases this)⟩
def Lets (z : List Nat) : Prop := ∃ t n, z = letL t n ∧ t < 26 ∧ 2 ≤ n ∧ n ≤ 6
/-- the windows as data -/
def winsD (L : List Win) : PyData := .list (L.map fun w => PyData.tuple (winD w))
theorem dp_wins {K : PySem.W.Frag} {H : Hp} {r : Addr} {as : List Addr} {L : List Win} (h : SqL K H r (as.map V.ref)) (hT : Tup winV H as L) : Dp K H (.ref r) (winsD L) := .lst h (Tup.dp dp_win hT)
theorem Gd_wins (L : List Win) (h : L.length ≤ 100000) : Gd (winsD L) := by
  refine .lst _ (by rw [List.length_map]; exact h) fun d hd => ?_
  obtain ⟨w, _, rfl⟩ := List.mem_map.mp hd
  refine .tup _ (by show 4 ≤ 100000; omega) fun e he => ?_
  simp only [winD, List.mem_cons, List.not_mem_nil, or_false] at he
  rcases he with rfl | rfl | rfl | rfl
  · exact .int _
  · exact .str _
  · exact .int _
  · exact .int _
theorem depth_wins (L : List Win) : (winsD L).depth ≤ 3 := by
  have h : PyData.depthAll (L.map fun w => PyData.tuple (winD w)) ≤ 2 := by
    induction L with
    | nil => simp [PyData.depthAll]
    | cons w L ih =>
      rw [List.map_cons, PyData.depthAll]
      refine Nat.max_le.mpr ⟨?_, ih⟩
      simp only [winD, PyData.depth, PyData.depthAll]
      omega
  simp only [winsD, PyData.depth]
  omega
theorem Gd_strs (L : List (List Nat)) (h : L.length ≤ 100000) : Gd (.list (L.map strD)) := by
  refine .lst _ (by rw [List.length_map]; exact h) fun d hd => ?_
  obtain ⟨w, _, rfl⟩ := List.mem_map.mp hd
  exact .str _
theorem depth_strL (L : List (List Nat)) : (PyData.list (L.map strD)).depth ≤ 2 := by
  have h := depth_strs L
  simp only [PyData.depth]
  omega
theorem lay_wins : ∀ {L : List Win}, (∀ w ∈ L, ∀ c ∈ w.z, c < 1114112) → PyData.canLayAll0 (L.map fun w => PyData.tuple (winD w)) = true
  | [], _ => by simp [PyData.canLayAll0]
  | w :: L, h => by
    have h1 := lay_wins (L := L) fun x hx => h x (List.mem_cons_of_mem _ hx)
    have h2 := strOk_S (h w List.mem_cons_self)
    rw [List.map_cons]
    simp only [winD, PyData.canLayAll0, PyData.canLay0, Bool.and_eq_true, Bool.true_and, Bool.and_true]
    exact ⟨h2, h1⟩
theorem eq_wins_same {K : PySem.W.Frag} {H : Hp} {r r' : Addr} {as as' : List Addr} {L : List Win} (hc : ∀ w ∈ L, ∀ c ∈ w.z, c < 1114112) (h : SqL K H r (as.map V.ref)) (hT : Tup winV H as L) (h' : SqL K H r' (as'.map V.ref)) (hT' : Tup winV H as' L) {Q : VK} (q : Q (.bl true) H) : rEqD K (.ref r) (.ref r') H Q := by
  have sh : SeqAt.shaped (winsD L) = true := by
    unfold SeqAt.shaped
    rw [Bool.and_eq_true]
    refine ⟨lay_wins hc, decide_eq_true ?_⟩
    have := depth_wins L
    omega
  exact ⟨winsD L, winsD L, dp_wins h hT, dp_wins h' hT', sh, sh, by rw [SeqAt.eqv_refl (winsD L) (lay_wins hc)]; exact q⟩
theorem winsUp_mem {sds rows : List (List Nat)} {w : Win} (h : w ∈ winsUp sds rows) : ∀ c ∈ w.z, ∃ r ∈ rows, c ∈ r := by
  have h1 : w ∈ wins sds rows := (List.mergeSort_perm _ _).mem_iff.mp h
  unfold wins winsS winsR winsP at h1
  obtain ⟨k, hk, h2⟩ := List.mem_flatMap.mp h1
  obtain ⟨n, hn, h3⟩ := List.mem_flatMap.mp h2
  obtain ⟨p, hp, rfl⟩ := List.mem_map.mp h3
  have hn' := List.mem_range.mp hn
  rw [List.getElem?_eq_getElem hn'] at hp ⊢
  intro c hc
  exact ⟨rows[n], List.getElem_mem hn', pickN_code _ _ _ _ c hc⟩
theorem winsUp_len {sds rows : List (List Nat)} (h : ∀ z ∈ rows, z.length ≤ 60) (hr : rows.length ≤ 10) (hs : sds.length ≤ 4) : (winsUp sds rows).length ≤ 2440 := by
  unfold winsUp
  rw [List.length_mergeSort]
  have := winsS_len (sds := sds) h hr sds.length
  unfold wins
  omega
theorem cutV_take (xs : List V) (k : Nat) : cutV xs none (some (k : Int)) = xs.take k := by
  unfold cutV
  have e0 : HT.sIx xs.length 0 none = 0 := rfl
  have e1 : HT.sIx xs.length xs.length (some (k : Int)) = min k xs.length := HT.sIx_nat _ _ _
  rw [e0, e1, List.drop_zero, Nat.sub_zero]
  by_cases h : k ≤ xs.length
  · rw [Nat.min_eq_left h]
  · rw [Nat.min_eq_right (by omega), List.take_of_length_le (Nat.le_refl _), List.take_of_length_le (by omega)]
theorem upd2_none {H : Hp} {x dx b : Addr} {o1 o2 : HO} (h : (upd (upd H dx o1) x o2) b = none) : H b = none := by
  cases e : H b with
  | none => rfl
  | some o =>
    by_cases h1 : b = x
    · rw [h1, upd_same] at h
      cases h
    · rw [upd_ne h1] at h
      by_cases h2 : b = dx
      · rw [h2, upd_same] at h
        cases h
      · rw [upd_ne h2, e] at h
        cases h
theorem Two.less {c p1 p2 : Addr} {H : Hp} {f1 f2 : List Addr} {s1 s2 : ShS} {Tr Tr' : List (Addr × HO)} (h : Two c H p1 f1 s1 p2 f2 s2 Tr) (e : ∀ t ∈ Tr', t ∈ Tr) : Two c H p1 f1 s1 p2 f2 s2 Tr' := ⟨h.one, h.two, h.apart, fun t ht => h.tr t (e t ht)⟩
theorem rep_map_strV (k : Nat) (z : List Nat) : (List.replicate k [strV z]).flatten = (List.replicate k z).map strV := by
  induction k with
  | zero => rfl
  | succ k ih =>
    rw [List.replicate_succ, List.flatten_cons, ih, List.replicate_succ, List.map_cons]
    rfl
end Sr
namespace Sr
open PySem PySem.Spec PyProof.Rows L2
/-- .. but the instance at x -/
structure SmX (x P : Addr) (q : Str) (H H' : Hp) : Prop where
  k : ∀ b o, b ≠ x → H b = some o → (∀ ps, o ≠ .tbl ps) → H' b = some o
  k' : ∀ b o, b ≠ x → b ≠ P → H b = some o → H' b = some o
  t : LamX.TabS H P q → LamX.TabS H' P q
theorem SmX.to {x P : Addr} {q : Str} {H0 H H' : Hp} (h : SmX x P q H H') (n : H0 x = none) (s : Same H0 H) : SmT P q H0 H' :=
  ⟨fun b o e ne => h.k b o (ne_of_none e n) (s b o e) ne, fun b o np e => h.k' b o (ne_of_none e n) np (s b o e), fun t => h.t (t.ext s)⟩
theorem ShAt.smT {c p P : Addr} {q : Str} {H H' : Hp} {foot : List Addr} {s : ShS} (h : ShAt c H p foot s) (e : SmT P q H H') : ShAt c H' p foot s := by
  obtain ⟨dx, sc, sq, lp, kp, h1, rfl, n, h2, h3, h4, h5⟩ := h.ob
  exact ⟨h.ok, dx, sc, sq, lp, kp, e.k _ _ h1 (fun _ z => nomatch z), rfl, n, e.tup h2, e.lst h3, e.tup h4, e.lst h5⟩
end Sr
namespace L2
section
open PySem PySem.Spec PyProof.Rows
variable {K : PySem.W.Frag} {σ : St} {H : Hp} {Q : VK} {ta tv : TE} {f : Str} {R : It → Hp → Prop}
theorem x_fld (q : ta σ H fun x H1 => ∃ a C dx fs v, x = .ref a ∧ H1 a = some (.ins C dx fs) ∧ Cls K C ∧ NoAttr K C f ∧ fs.lookup f = some v ∧ Q v H1) : tFld K ta f σ H Q := q
theorem x_sfld {D : Ends} (q : tv σ H fun y H1 => ta σ H1 fun x H2 => ∃ a C dx fs, x = .ref a ∧ H2 a = some (.ins C dx fs) ∧ Cls K C ∧ NoAttr K C f ∧ fs.length < 1000 ∧ D.nx σ (upd H2 a (.ins C dx (putF f y fs)))) : sFld K ta tv f D σ H := q
theorem x_iEnumL {t : TA} (q : t σ H fun vs H1 => ∃ a xs, vs = [.ref a] ∧ SqL K H1 a xs ∧ R (Ite K a) H1) : iEnum K t σ H R := q
end
end L2
namespace Sr
open PySem PySem.Spec PyProof.Rows L2
abbrev fl5 (a b c d e : V) : List (Str × V) := [("letters", a), ("scale", b), ("seeds", c), ("limit", d), ("laid", e)]
theorem fl5_letters (a b c d e : V) : (fl5 a b c d e).lookup (Str.ofString "letters") = some a := rfl
theorem fl5_scale (a b c d e : V) : (fl5 a b c d e).lookup (Str.ofString "scale") = some b := rfl
theorem fl5_seeds (a b c d e : V) : (fl5 a b c d e).lookup (Str.ofString "seeds") = some c := rfl
theorem fl5_limit (a b c d e : V) : (fl5 a b c d e).lookup (Str.ofString "limit") = some d := rfl
theorem fl5_laid (a b c d e : V) : (fl5 a b c d e).lookup (Str.ofString "laid") = some e := rfl
theorem fl5_put1 (a : V) : putF (Str.ofString "letters") a [] = ([("letters", a)] : List (Str × V)) := rfl
theorem fl5_put2 (a b : V) : putF (Str.ofString "scale") b ([("letters", a)] : List (Str × V)) = ([("letters", a), ("scale", b)] : List (Str × V)) := rfl
theorem fl5_put3 (a b c : V) : putF (Str.ofString "seeds") c ([("letters", a), ("scale", b)] : List (Str × V)) = ([("letters", a), ("scale", b), ("seeds", c)] : List (Str × V)) := rfl
theorem fl5_get3 (a b c : V) : List.lookup (Str.ofString "seeds") ([("letters", a), ("scale", b), ("seeds", c)] : List (Str × V)) = some c := rfl
theorem fl5_put4 (a b c d : V) : putF (Str.ofString "limit") d ([("letters", a), ("scale", b), ("seeds", c)] : List (Str × V)) = ([("letters", a), ("scale", b), ("seeds", c), ("limit", d)] : List (Str × V)) := rfl
theorem fl5_put5 (a b c d e : V) : putF (Str.ofString "laid") e ([("letters", a), ("scale", b), ("seeds", c), ("limit", d)] : List (Str × V)) = fl5 a b c d e := rfl
theorem letL_ok {z : List Nat} (h : Lets z) : 2 ≤ z.length ∧ z.length ≤ 6 ∧ (∀ c ∈ z, 97 ≤ c ∧ c ≤ 122) ∧ z.Nodup := by
  obtain ⟨t, n, rfl, ht, h2, h6⟩ := h
  have key : ∀ t < 26, ∀ n < 7, (letL t n).length = n ∧ (∀ c ∈ letL t n, 97 ≤ c ∧ c ≤ 122) ∧ (letL t n).Nodup := by decide +kernel
  obtain ⟨a, b, c⟩ := key t ht n (by omega)
  exact ⟨by omega, by omega, b, c⟩
end Sr
namespace Sr
open PySem PySem.Spec PyProof.Rows L2
section
variable {x P : Addr} {q : Str} {H H1 H2 : Hp}
theorem SmX.of (s : Same H H1) : SmX x P q H H1 := ⟨fun b o _ e _ => s b o e, fun b o _ _ e => s b o e, fun t => t.ext s⟩
theorem SmX.smT (a : SmX x P q H H1) (s : SmT P q H1 H2) : SmX x P q H H2 := ⟨fun b o n e h => s.k b o (a.k b o n e h) h, fun b o n m e => s.k' b o m (a.k' b o n m e), fun t => s.t (a.t t)⟩
theorem SmX.put {c d : Addr} {fs : List (Str × V)} {o : HO} (a : SmX x P q H H1) (e : H1 x = some (.ins c d fs)) : SmX x P q H (L2.upd H1 x o) :=
  ⟨fun b o' n h t => by rw [upd_ne n]; exact a.k b o' n h t, fun b o' n m h => by rw [upd_ne n]; exact a.k' b o' n m h, fun t => tabS_upd (a.t t) (fun _ z => by rw [e] at z; cases z) fun _ z => by rw [e] at z; cases z⟩
end
end Sr
namespace Sr
open PySem PySem.Spec PyProof.Rows L2
theorem ShAt.tab {c p P : Addr} {q : Str} {H H' : Hp} {foot : List Addr} {s : ShS} (h : ShAt c H p foot s) (fr : Fr foot H H') (t : LamX.TabS H P q) : LamX.TabS H' P q := by
  obtain ⟨dx, sc, sq, lp, kp, e1, rfl, n, e2, e3, e4, e5⟩ := h.ob
  obtain ⟨ps, h1, h2, h3⟩ := t
  have no : ∀ b o, H b = some o → (∀ c d fs, o ≠ .ins c d fs) → (∀ xs, o ≠ .lst xs) → b ∉ [p, sq, kp] := fun b o e n1 n2 hb => by
    simp only [List.mem_cons, List.not_mem_nil, or_false] at hb
    rcases hb with z | z | z
    · subst z; exact n1 _ _ _ (Option.some.inj (e.symm.trans e1))
    · subst z; exact n2 _ (Option.some.inj (e.symm.trans e3))
    · subst z; exact n2 _ (Option.some.inj (e.symm.trans e5))
  refine ⟨ps, fr.1 _ _ h1 (no _ _ h1 (fun _ _ _ z => nomatch z) fun _ z => nomatch z), h2, fun pos cv hc => ?_⟩
  obtain ⟨c', z1, z2⟩ := h3 pos cv hc
  exact ⟨c', z1, fr.1 _ _ z2 (no _ _ z2 (fun _ _ _ z => by unfold LamX.CodeO at z; cases z) fun _ z => by unfold LamX.CodeO at z; cases z)⟩
/-- a deed on a shelf that is new -/
theorem ShAt.smFr {c p P : Addr} {q : Str} {H0 H H' : Hp} {foot : List Addr} {s : ShS} (h : ShAt c H p foot s) (e : SmT P q H0 H) (fr : Fr foot H H') (fn : ∀ b ∈ foot, H0 b = none) : SmT P q H0 H' := by
  have nf : ∀ b o, H0 b = some o → b ∉ foot := fun b o e hb => by
    rw [fn b hb] at e; cases e
  exact ⟨fun b o eo hn => fr.1 _ _ (e.k b o eo hn) (nf b o eo), fun b o np eo => fr.1 _ _ (e.k' b o np eo) (nf b o eo), fun t => h.tab fr (e.t t)⟩
end Sr

namespace Sr
open PySem PySem.Spec PyProof.Rows L2
/-! ### one shelf, the source of draws, and what is tracked beside -/
structure One1 (c : Addr) (H : Hp) (a b p : Addr) (f : List Addr) (s : ShS) (Tr : List (Addr × HO)) : Prop where
  sh : ShAt c H p f s
  src : Src H a b
  na : a ∉ f
  nb : b ∉ f
  tr : ∀ t ∈ Tr, H t.1 = some t.2 ∧ t.1 ∉ f ∧ t.1 ≠ a ∧ t.1 ≠ b
theorem Src.la {a b : Addr} {H : Hp} (h : Src H a b) : ∃ xs, H a = some (.lst xs) := by
  obtain ⟨_, s, i, cs, h1, _⟩ := h
  exact ⟨_, h1⟩
theorem Src.lb {a b : Addr} {H : Hp} (h : Src H a b) : ∃ xs, H b = some (.lst xs) := by
  obtain ⟨_, s, i, cs, _, h2, _⟩ := h
  exact ⟨_, h2⟩
theorem Kp.tups {a b q : Addr} {H H' : Hp} {xs : List V} (k : Kp a b H H') (h : Src H a b) (e : H q = some (.tup xs)) : H' q = some (.tup xs) := by
  obtain ⟨la, ea⟩ := h.la
  obtain ⟨lb, eb⟩ := h.lb
  refine k q _ (fun z => ?_) (fun z => ?_) e
  · rw [z, ea] at e
    cases e
  · rw [z, eb] at e
    cases e
theorem Tup.kp {α : Type} {f : α → List V} {a b : Addr} {H H' : Hp} {as : List Addr} {L : List α} (h : Tup f H as L) (k : Kp a b H H') (hs : Src H a b) : Tup f H' as L := ⟨h.1, fun j q p h1 h2 => k.tups hs (h.2 j q p h1 h2)⟩
variable {c a b p : Addr} {H H' : Hp} {f f' : List Addr} {s s' : ShS} {Tr Tr' : List (Addr × HO)}
theorem One1.same (h : One1 c H a b p f s Tr) (e : Same H H') : One1 c H' a b p f s Tr :=
  ⟨h.sh.same (fun b _ o => e b o) (fun b _ x => e b _ x), Src_same h.src e, h.na, h.nb, fun t ht => ⟨e _ _ (h.tr t ht).1, (h.tr t ht).2⟩⟩
theorem One1.kp (h : One1 c H a b p f s Tr) (k : Kp a b H H') (hs : Src H' a b) : One1 c H' a b p f s Tr :=
  ⟨h.sh.same (fun q hq o e => k q o (fun z => h.na (z ▸ hq)) (fun z => h.nb (z ▸ hq)) e) (fun q xs e => k.tups h.src e), hs, h.na, h.nb, fun t ht => ⟨k _ _ (h.tr t ht).2.2.1 (h.tr t ht).2.2.2 (h.tr t ht).1, (h.tr t ht).2⟩⟩
theorem One1.op (h : One1 c H a b p f s Tr) (sh : ShAt c H' p f' s') (fr : Fr f H H') (gr : Grow f f' H) : One1 c H' a b p f' s' Tr := by
  have out : ∀ q o, H q = some o → q ∉ f → q ∉ f' := fun q o e n hm => by
    rcases gr q hm with z | z
    · exact n z
    · rw [z] at e
      cases e
  obtain ⟨nab, s0, i, cs, h1, h2, h3⟩ := h.src
  exact ⟨sh, ⟨nab, s0, i, cs, fr.1 _ _ h1 h.na, fr.1 _ _ h2 h.nb, h3⟩, out _ _ h1 h.na, out _ _ h2 h.nb, fun t ht => ⟨fr.1 _ _ (h.tr t ht).1 (h.tr t ht).2.1, out _ _ (h.tr t ht).1 (h.tr t ht).2.1, (h.tr t ht).2.2⟩⟩
theorem One1.add {r : Addr} {o : HO} (h : One1 c H a b p f s Tr) (hr : H r = some o) (h1 : r ∉ f) (h2 : r ≠ a) (h3 : r ≠ b) : One1 c H a b p f s ((r, o) :: Tr) :=
  ⟨h.sh, h.src, h.na, h.nb, fun t ht => by
    rcases List.mem_cons.mp ht with e | e
    · rw [e]; exact ⟨hr, h1, h2, h3⟩
    · exact h.tr t e⟩
theorem One1.no {r : Addr} (h : One1 c H a b p f s Tr) (hr : H r = none) : r ∉ f ∧ r ≠ a ∧ r ≠ b ∧ ∀ t ∈ Tr, r ≠ t.1 := by
  refine ⟨fun hm => ?_, h.src.ne_a hr, h.src.ne_b hr, fun t ht z => ?_⟩
  · obtain ⟨o, e⟩ := h.sh.here r hm
    rw [hr] at e
    cases e
  · have := (h.tr t ht).1
    rw [← z, hr] at this
    cases this
/-- something new, tracked from now on -/
theorem One1.new {r : Addr} {o : HO} (h : One1 c H a b p f s Tr) (hr : H r = none) : One1 c (L2.upd H r o) a b p f s ((r, o) :: Tr) :=
  (h.same (same_upd hr)).add upd_same (h.no hr).1 (h.no hr).2.1 (h.no hr).2.2.1
theorem One1.less (h : One1 c H a b p f s Tr) (e : ∀ t ∈ Tr', t ∈ Tr) : One1 c H a b p f s Tr' := ⟨h.sh, h.src, h.na, h.nb, fun t ht => h.tr t (e t ht)⟩
theorem One1.get (h : One1 c H a b p f s Tr) {r : Addr} {o : HO} (e : (r, o) ∈ Tr) : H r = some o := (h.tr _ e).1
/-- a tracked thing is changed -/
theorem One1.chg {r : Addr} {o o' : HO} (h : One1 c H a b p f s ((r, o) :: Tr)) (ht : ∀ t ∈ Tr, t.1 ≠ r) (nt : ∀ xs, o ≠ .tup xs) : One1 c (L2.upd H r o') a b p f s ((r, o') :: Tr) := by
  obtain ⟨e0, n0, n1, n2⟩ := h.tr _ List.mem_cons_self
  obtain ⟨nab, s0, i, cs, h1, h2, h3⟩ := h.src
  refine ⟨h.sh.same (fun q hq o e => ?_) (fun q xs e => ?_), ⟨nab, s0, i, cs, ?_, ?_, h3⟩, h.na, h.nb, fun t ht' => ?_⟩
  · rw [upd_ne (fun z : q = r => n0 (z ▸ hq))]
    exact e
  · rw [upd_ne (fun z : q = r => by rw [z, e0] at e; exact nt xs (Option.some.inj e))]
    exact e
  · rw [upd_ne (Ne.symm n1)]; exact h1
  · rw [upd_ne (Ne.symm n2)]; exact h2
  · rcases List.mem_cons.mp ht' with z | z
    · rw [z]; exact ⟨upd_same, n0, n1, n2⟩
    · obtain ⟨a1, a2⟩ := h.tr t (List.mem_cons_of_mem _ z)
      exact ⟨by rw [upd_ne (ht t z)]; exact a1, a2⟩
end Sr

namespace Sr
open PySem PySem.Spec PyProof.Rows L2
/-! ### deeds on a row -/
/-- the windows that have the places from first to last under them -/
def ovP (m : Nat) (first last : Int) (k : Nat) : Nat := ((List.range k).filter fun p : Nat => decide ((p : Int) ≤ first) && decide (last < (p : Int) + (m : Int))).length
def ovS (sds : List (List Nat)) (len first last : Int) (k : Nat) : Nat := ((List.range k).map fun i => ovP (sds[i]?.getD []).length first last (len - ((sds[i]?.getD []).length : Int) + 1).toNat).sum
def over (sds : List (List Nat)) (len first last : Int) : Nat := ovS sds len first last sds.length
theorem ovP_succ (m : Nat) (first last : Int) (k : Nat) : ovP m first last (k + 1) = ovP m first last k + (if decide ((k : Int) ≤ first) && decide (last < (k : Int) + (m : Int)) then 1 else 0) := by
  unfold ovP
  rw [List.range_succ, List.filter_append, List.length_append]
  congr 1
  by_cases h : (decide ((k : Int) ≤ first) && decide (last < (k : Int) + (m : Int))) = true
  · rw [if_pos h, List.filter_cons, if_pos h]; rfl
  · rw [if_neg h, List.filter_cons, if_neg h]; rfl
theorem ovS_succ (sds : List (List Nat)) (len first last : Int) (k : Nat) : ovS sds len first last (k + 1) = ovS sds len first last k + ovP (sds[k]?.getD []).length first last (len - ((sds[k]?.getD []).length : Int) + 1).toNat := by
  unfold ovS
  rw [List.range_succ, List.map_append, List.sum_append]
  simp
/-- a row with a sign changed, put in, cut out -/
def chg (r : List Nat) (p c : Nat) : List Nat := r.take p ++ [c] ++ r.drop (p + 1)
def putR (r : List Nat) (p c : Nat) : List Nat := r.take p ++ [c] ++ r.drop p
def cutR (r : List Nat) (p : Nat) : List Nat := r.take p ++ r.drop (p + 1)
end Sr
namespace Sr
open PySem PySem.Spec PyProof.Rows L2
theorem fl5_row_of (a b c d e : V) : (fl5 a b c d e).lookup (Str.ofString "_row_of") = none := rfl
end Sr
namespace Sr
open PySem PySem.Spec PyProof.Rows L2
theorem ixN_nat {n k : Nat} (h : k < n) : ixN n (k : Int) = some k := by
  unfold ixN
  rw [if_pos (by omega), if_pos (by omega)]
  rfl
theorem chg_len {r : List Nat} {p c : Nat} (h : p < r.length) : (chg r p c).length = r.length := by
  unfold chg
  simp only [List.length_append, List.length_take, List.length_drop, List.length_cons, List.length_nil]
  omega
theorem putR_len {r : List Nat} {p c : Nat} (h : p ≤ r.length) : (putR r p c).length = r.length + 1 := by
  unfold putR
  simp only [List.length_append, List.length_take, List.length_drop, List.length_cons, List.length_nil]
  omega
theorem cutR_len {r : List Nat} {p : Nat} (h : p < r.length) : (cutR r p).length = r.length - 1 := by
  unfold cutR
  simp only [List.length_append, List.length_take, List.length_drop]
  omega
/-- a shelf with another row at n -/
theorem ShAt.setRow {c p : Addr} {H : Hp} {foot : List Addr} {s : ShS} (h : ShAt c H p foot s) {n : Nat} {z : List Nat} {kp : Addr} (hk : H kp = some (.lst (s.rows.map strV))) (hf : kp ∈ foot) (hkp : ∃ dx sc sq lp, H p = some (.ins c dx (fl5 (.str (S s.lets)) (.ref sc) (.ref sq) (.ref lp) (.ref kp)))) :
    ShAt c (L2.upd H kp (.lst ((s.rows.map strV).set n (.str (S z))))) p foot { s with rows := s.rows.set n z } ∧ Fr foot H (L2.upd H kp (.lst ((s.rows.map strV).set n (.str (S z))))) := by
  obtain ⟨dx, sc, sq, lp, kp', e1, rfl, nn, e2, e3, e4, e5⟩ := h.ob
  obtain ⟨dx', sc', sq', lp', e1'⟩ := hkp
  rw [e1'] at e1
  have e6 : kp' = kp := by
    have := (HO.ins.inj (Option.some.inj e1)).2.2
    simp only [List.cons.injEq, Prod.mk.injEq, V.ref.injEq, and_true, true_and] at this
    exact this.2.2.2.symm
  subst e6
  have nkp : kp' ≠ p := fun e => by rw [e, e1'] at e5; cases e5
  have tup : ∀ b xs, H b = some (.tup xs) → L2.upd H kp' (.lst ((s.rows.map strV).set n (.str (S z)))) b = some (.tup xs) := fun b xs e => (upd_ne (fun z => by rw [z, e5] at e; cases e)).trans e
  rw [e1] at e1'
  refine ⟨⟨⟨h.ok.g1, h.ok.g2, h.ok.l1, h.ok.l2, h.ok.sd, h.ok.one, h.ok.three⟩, dx, sc, sq, lp, kp', ?_, rfl, nn, tup _ _ e2, (upd_ne nn).trans e3, tup _ _ e4, ?_⟩, fun b o e hb => (upd_ne fun z => hb (by rw [z]; exact hf)).trans e, tup⟩
  · exact (upd_ne nkp.symm).trans e1'
  · rw [upd_same]
    show _ = some (HO.lst ((s.rows.set n z).map strV))
    rw [List.map_set]
    rfl
end Sr
namespace Sr
open PySem PySem.Spec PyProof.Rows L2
theorem fl5_change (a b c d e : V) : (fl5 a b c d e).lookup (Str.ofString "change") = none := rfl
theorem fl5_put (a b c d e : V) : (fl5 a b c d e).lookup (Str.ofString "put") = none := rfl
theorem fl5_cut (a b c d e : V) : (fl5 a b c d e).lookup (Str.ofString "cut") = none := rfl
end Sr

namespace Sr
open PySem PySem.Spec PyProof.Rows L2
/-! ### what a search is due to tell -/
theorem rchL_in {g l told : Int} {o t : List Nat} {d : Int} {p : Tri} (h : p ∈ rchL g l told o t d) : ∃ b e : Nat, p = (d, ((bgn d + b : Nat) : Int), ((bgn d + e : Nat) : Int)) ∧ b < e ∧ e ≤ (likL o t d).length ∧ told ≤ lev g l (likL o t d) e - lev g l (likL o t d) b := by
  unfold rchL at h
  obtain ⟨q, hq, rfl⟩ := List.mem_map.mp h
  obtain ⟨h1, h2⟩ := List.mem_filter.mp hq
  unfold ripL at h1
  split at h1
  · rename_i hx
    have hr := hx.choose_spec.ripe _ h1
    exact ⟨q.1, q.2, rfl, hr.1.1, hr.2.1, of_decide_eq_true h2⟩
  · cases h1
theorem rchA_in {g l told : Int} {o t : List Nat} {p : Tri} (h : p ∈ rchA g l told o t) : ∃ (d : Int) (b e : Nat), p = (d, ((bgn d + b : Nat) : Int), ((bgn d + e : Nat) : Int)) ∧ b < e ∧ e ≤ (likL o t d).length ∧ told ≤ lev g l (likL o t d) e - lev g l (likL o t d) b ∧ -(o.length : Int) ≤ d ∧ d ≤ t.length := by
  unfold rchA at h
  obtain ⟨k, hk, hp⟩ := rchN_mem.mp h
  obtain ⟨b, e, h1, h2, h3, h4⟩ := rchL_in hp
  refine ⟨_, b, e, h1, h2, h3, h4, by omega, ?_⟩
  unfold nsh at hk
  omega
theorem rchA_len (g l told : Int) (o t : List Nat) : (rchA g l told o t).length ≤ (o.length + t.length) * o.length := by
  unfold rchA
  refine Nat.le_trans (rchN_len g l told o t _ _) (Nat.mul_le_mul_right _ ?_)
  unfold nsh
  omega
/-- the worth of such a stretch -/
def fndW (g l : Int) (o t : List Nat) (p : Tri) : Int := lev g l (likL o t p.1) (p.2.2 - bgn p.1).toNat - lev g l (likL o t p.1) (p.2.1 - bgn p.1).toNat
theorem fndW_eq (g l : Int) (o t : List Nat) (d : Int) (b e : Nat) : fndW g l o t (d, ((bgn d + b : Nat) : Int), ((bgn d + e : Nat) : Int)) = lev g l (likL o t d) e - lev g l (likL o t d) b := by
  unfold fndW
  have e1 : (((bgn d + e : Nat) : Int) - (bgn d : Int)).toNat = e := by omega
  have e2 : (((bgn d + b : Nat) : Int) - (bgn d : Int)).toNat = b := by omega
  show lev g l (likL o t d) (((bgn d + e : Nat) : Int) - (bgn d : Int)).toNat - lev g l (likL o t d) (((bgn d + b : Nat) : Int) - (bgn d : Int)).toNat = _
  rw [e1, e2]
def fndI (q : Nat × Tri × Int) : List Int := [(q.1 : Nat), q.2.1.1, q.2.1.2.1, q.2.1.2.2, q.2.2]
def fndV (q : Nat × Tri × Int) : List V := [.int (q.1 : Nat), .int q.2.1.1, .int q.2.1.2.1, .int q.2.1.2.2, .int q.2.2]
noncomputable def dueR (g l told : Int) (o : List Nat) (n : Nat) (r : List Nat) (M : List Tri) : List (Nat × Tri × Int) := M.map fun p => (n, p, fndW g l o r p)
noncomputable def dueM (g l told : Int) (o : List Nat) (rows : List (List Nat)) (m : Nat) : List (Nat × Tri × Int) := (List.range m).flatMap fun n => dueR g l told o n (rows[n]?.getD []) (rchA g l told o (rows[n]?.getD []))
noncomputable def dueUp (g l told : Int) (o : List Nat) (rows : List (List Nat)) : List (Nat × Tri × Int) := (dueM g l told o rows rows.length).mergeSort fun p q => !decide (fndI q < fndI p)
theorem dueM_succ (g l told : Int) (o : List Nat) (rows : List (List Nat)) (m : Nat) : dueM g l told o rows (m + 1) = dueM g l told o rows m ++ dueR g l told o m (rows[m]?.getD []) (rchA g l told o (rows[m]?.getD [])) := by
  unfold dueM
  rw [List.range_succ, List.flatMap_append]
  simp
theorem dueM_len {g l told : Int} {o : List Nat} {rows : List (List Nat)} (ho : o.length ≤ 60) (hr : ∀ z ∈ rows, z.length ≤ 60) : ∀ m, (dueM g l told o rows m).length ≤ 7200 * m
  | 0 => Nat.le_refl _
  | m + 1 => by
    rw [dueM_succ, List.length_append]
    have h1 := dueM_len (g := g) (l := l) (told := told) ho hr m
    have h2 : (rows[m]?.getD []).length ≤ 60 := by
      cases e : rows[m]? with
      | none => simp
      | some z => exact hr z (List.mem_of_getElem? e)
    have h3 := rchA_len g l told o (rows[m]?.getD [])
    have h4 : (o.length + (rows[m]?.getD []).length) * o.length ≤ 120 * 60 := Nat.mul_le_mul (by omega) ho
    unfold dueR
    rw [List.length_map]
    omega
theorem dp_fnd {K : PySem.W.Frag} {H : Hp} (q : Nat × Tri × Int) : DpAll K H (fndV q) ((fndI q).map .int) := .cons (.int _) (.cons (.int _) (.cons (.int _) (.cons (.int _) (.cons (.int _) .nil))))
end Sr
namespace Sr
open PySem PySem.Spec PyProof.Rows L2
/-! ### one shelf -/
structure One (c : Addr) (H : Hp) (p : Addr) (f : List Addr) (s : ShS) (Tr : List (Addr × HO)) : Prop where
  sh : ShAt c H p f s
  tr : ∀ t ∈ Tr, H t.1 = some t.2 ∧ t.1 ∉ f
theorem One.op {c p : Addr} {H H' : Hp} {f f' : List Addr} {s s' : ShS} {Tr : List (Addr × HO)} (h : One c H p f s Tr) (sh : ShAt c H' p f' s') (fr : Fr f H H') (gr : Grow f f' H) : One c H' p f' s' Tr := by
  refine ⟨sh, fun t ht => ?_⟩
  obtain ⟨h1, h2⟩ := h.tr t ht
  refine ⟨fr.1 _ _ h1 h2, fun hm => ?_⟩
  rcases gr _ hm with e | e
  · exact h2 e
  · rw [e] at h1
    cases h1
theorem One.same {c p : Addr} {H H' : Hp} {f : List Addr} {s : ShS} {Tr : List (Addr × HO)} (h : One c H p f s Tr) (e : Same H H') : One c H' p f s Tr :=
  ⟨h.sh.same (fun b _ o => e b o) (fun b _ x => e b _ x), fun t ht => ⟨e _ _ (h.tr t ht).1, (h.tr t ht).2⟩⟩
theorem One.upd {c p r : Addr} {o : HO} {H : Hp} {f : List Addr} {s : ShS} {Tr : List (Addr × HO)} (h : One c H p f s Tr) (h1 : r ∉ f) (h3 : ∀ t ∈ Tr, r ≠ t.1) (h4 : ∀ xs, H r ≠ some (.tup xs)) : One c (upd H r o) p f s Tr := by
  have ht : ∀ b xs, H b = some (.tup xs) → L2.upd H r o b = some (.tup xs) := fun b xs e => by
    rw [upd_ne (fun q : b = r => h4 xs (by rw [← q]; exact e))]
    exact e
  refine ⟨h.sh.same (fun b hb o' e => ?_) ht, fun t ht => ⟨?_, (h.tr t ht).2⟩⟩
  · rw [upd_ne (fun q : b = r => h1 (by rw [← q]; exact hb))]; exact e
  · rw [upd_ne (Ne.symm (h3 t ht))]; exact (h.tr t ht).1
theorem One.add {c p r : Addr} {o : HO} {H : Hp} {f : List Addr} {s : ShS} {Tr : List (Addr × HO)} (h : One c H p f s Tr) (hr : H r = some o) (h1 : r ∉ f) : One c H p f s ((r, o) :: Tr) :=
  ⟨h.sh, fun t ht => by
    rcases List.mem_cons.mp ht with e | e
    · rw [e]; exact ⟨hr, h1⟩
    · exact h.tr t e⟩
theorem One.no {c p r : Addr} {H : Hp} {f : List Addr} {s : ShS} {Tr : List (Addr × HO)} (h : One c H p f s Tr) (hr : H r = none) : r ∉ f ∧ ∀ t ∈ Tr, r ≠ t.1 :=
  ⟨fun hm => (by
    obtain ⟨o, e⟩ := h.sh.here r hm
    rw [hr] at e
    cases e), fun t ht e => (by
    have := (h.tr t ht).1
    rw [← e, hr] at this
    cases this)⟩
theorem One.less {c p : Addr} {H : Hp} {f : List Addr} {s : ShS} {Tr Tr' : List (Addr × HO)} (h : One c H p f s Tr) (e : ∀ t ∈ Tr', t ∈ Tr) : One c H p f s Tr' := ⟨h.sh, fun t ht => h.tr t (e t ht)⟩
/-! ### finds as data -/
def fndsD (L : List (Nat × Tri × Int)) : PyData := .list (L.map fun q => PyData.tuple ((fndI q).map .int))
theorem dp_fnds {K : PySem.W.Frag} {H : Hp} {r : Addr} {as : List Addr} {L : List (Nat × Tri × Int)} (h : SqL K H r (as.map V.ref)) (hT : Tup fndV H as L) : Dp K H (.ref r) (fndsD L) := .lst h (Tup.dp dp_fnd hT)
theorem Gd_fnds (L : List (Nat × Tri × Int)) (h : L.length ≤ 100000) : Gd (fndsD L) := by
  refine .lst _ (by rw [List.length_map]; exact h) fun d hd => ?_
  obtain ⟨q, _, rfl⟩ := List.mem_map.mp hd
  refine .tup _ (by show 5 ≤ 100000; omega) fun e he => ?_
  obtain ⟨i, _, rfl⟩ := List.mem_map.mp he
  exact .int i
theorem depth_fnds (L : List (Nat × Tri × Int)) : (fndsD L).depth ≤ 3 := by
  have h : PyData.depthAll (L.map fun q => PyData.tuple ((fndI q).map .int)) ≤ 2 := by
    induction L with
    | nil => simp [PyData.depthAll]
    | cons q L ih =>
      rw [List.map_cons, PyData.depthAll]
      exact Nat.max_le.mpr ⟨depth_tup_ints _, ih⟩
  simp only [fndsD, PyData.depth]
  omega
theorem lay_fnds : ∀ L : List (Nat × Tri × Int), PyData.canLayAll0 (L.map fun q => PyData.tuple ((fndI q).map .int)) = true
  | [] => by simp [PyData.canLayAll0]
  | q :: L => by
    have h1 := lay_fnds L
    have h2 := lay_ints (fndI q)
    rw [List.map_cons]
    simp only [PyData.canLayAll0, PyData.canLay0, Bool.and_eq_true]
    exact ⟨h2, h1⟩
theorem ne_fnds_same {K : PySem.W.Frag} {H : Hp} {r r' : Addr} {as as' : List Addr} {L : List (Nat × Tri × Int)} (h : SqL K H r (as.map V.ref)) (hT : Tup fndV H as L) (h' : SqL K H r' (as'.map V.ref)) (hT' : Tup fndV H as' L) {Q : VK} (q : Q (.bl false) H) : rNeD K (.ref r) (.ref r') H Q := by
  have sh : SeqAt.shaped (fndsD L) = true := by
    unfold SeqAt.shaped
    rw [Bool.and_eq_true]
    refine ⟨lay_fnds L, decide_eq_true ?_⟩
    have := depth_fnds L
    omega
  exact ⟨fndsD L, fndsD L, dp_fnds h hT, dp_fnds h' hT', sh, sh, by rw [SeqAt.eqv_refl (fndsD L) (lay_fnds L)]; exact q⟩
theorem eq_strs_same {K : PySem.W.Frag} {H : Hp} {a b : Addr} {l : List (List Nat)} (hl : Cd l) (ha : SqL K H a (l.map strV)) (hb : SqL K H b (l.map strV)) {Q : VK} (q : Q (.bl true) H) : rEqD K (.ref a) (.ref b) H Q :=
  ⟨.list (l.map strD), .list (l.map strD), .lst ha (dp_strs l), .lst hb (dp_strs l), shaped_strs hl, shaped_strs hl, by rw [eqv_strs_same hl]; exact q⟩
theorem dueUp_len {g l told : Int} {o : List Nat} {rows : List (List Nat)} (ho : o.length ≤ 60) (hr : ∀ z ∈ rows, z.length ≤ 60) (hn : rows.length ≤ 10) : (dueUp g l told o rows).length ≤ 72000 := by
  unfold dueUp
  rw [List.length_mergeSort]
  have := dueM_len (g := g) (l := l) (told := told) ho hr rows.length
  omega
/-- picks in a row among the seeds: there is a bar -/
theorem no_grow {sds : List (List Nat)} {m : Nat} (h1 : Ones sds) (hm : 1 ≤ m) (hm9 : m ≤ 10) (hin : ones m ∈ sds) : ¬ Grows sds 1 9 := fun hg => by
  obtain ⟨z, hz, hf, hw⟩ := hg m
  have hf1 : Free [ones m] z := by
    rw [free_iff h1] at hf
    rw [free_iff (one_ones hm)]
    intro sd hsd
    rw [List.mem_singleton.mp hsd]
    exact hf _ hin
  have := (HB.row hm).bound 1 9 (by omega) (by omega) (by omega) z hz hf1
  omega
end Sr

namespace Zs
open PySem PySem.Spec PyProof.Rows L2
/-! ### sets of pairs of ints, many: the tables of up to 2048 slots -/
def cyc (M b : Nat) : Nat := (5 ^ b - 1) / 4 % M
/-- which slots the round passes, as bits, by halves -/
def hit (M : Nat) : Nat → Nat → Nat
  | 0, lo => 1 <<< cyc M lo
  | d + 1, lo => hit M d lo ||| hit M d (lo + 2 ^ d)
theorem hit_some {M j : Nat} : ∀ (d lo : Nat), (hit M d lo).testBit j = true → ∃ b, lo ≤ b ∧ b < lo + 2 ^ d ∧ cyc M b = j
  | 0, lo, h => by
    refine ⟨lo, Nat.le_refl _, by simp, ?_⟩
    unfold hit at h
    rw [Nat.one_shiftLeft, Nat.testBit_two_pow] at h
    simpa using h
  | d + 1, lo, h => by
    unfold hit at h
    rw [Nat.testBit_or, Bool.or_eq_true] at h
    rcases h with h | h
    · obtain ⟨b, h1, h2, h3⟩ := hit_some d lo h
      exact ⟨b, h1, by rw [Nat.pow_succ]; omega, h3⟩
    · obtain ⟨b, h1, h2, h3⟩ := hit_some d (lo + 2 ^ d) h
      exact ⟨b, by omega, by rw [Nat.pow_succ]; omega, h3⟩
theorem lcg_cyc (m : Nat) : ∀ b, lcgN m b = cyc (m + 1) b
  | 0 => by simp [lcgN, cyc]
  | b + 1 => by
    have y1 : 5 ^ b % 4 = 1 := by
      rw [Nat.pow_mod]
      simp
    have e : (5 ^ (b + 1) - 1) / 4 = (5 ^ b - 1) / 4 * 5 + 1 := by
      rw [Nat.pow_succ]
      generalize 5 ^ b = y at y1
      omega
    unfold lcgN
    rw [lcg_cyc m b]
    unfold cyc
    rw [e, Nat.add_mod, Nat.mul_mod, Nat.mod_mod, ← Nat.mul_mod, ← Nat.add_mod]
def Mk (m : Nat) : Prop := ∃ d, 3 ≤ d ∧ d < 12 ∧ d % 2 = 1 ∧ m + 1 = 2 ^ d
theorem hit_all : ∀ d, d < 12 → hit (2 ^ d) d 0 = 2 ^ (2 ^ d) - 1 := by decide +kernel
theorem cyc_all : ∀ d, d < 12 → cyc (2 ^ d) (2 ^ d) = 0 := by decide +kernel
theorem Mk.meet {m j : Nat} (h : Mk m) (hj : j ≤ m) : ∃ b, b ≤ m ∧ lcgN m b = j := by
  obtain ⟨d, _, hd, _, e⟩ := h
  have h1 := hit_all d hd
  obtain ⟨b, _, hb, hc⟩ := hit_some (M := 2 ^ d) (j := j) d 0 (by
    rw [h1, Nat.testBit_two_pow_sub_one]
    exact decide_eq_true (by omega))
  refine ⟨b, by omega, ?_⟩
  rw [lcg_cyc, e]
  exact hc
theorem Mk.again {m : Nat} (h : Mk m) : ∀ k, lcgN m (m + 1 + k) = lcgN m k
  | 0 => by
    obtain ⟨d, _, hd, _, e⟩ := h
    show lcgN m (m + 1) = 0
    rw [lcg_cyc, e]
    exact cyc_all d hd
  | k + 1 => by
    show (lcgN m (m + 1 + k) * 5 + 1) % (m + 1) = (lcgN m k * 5 + 1) % (m + 1)
    rw [h.again k]
theorem Mk.fromAny {m i j : Nat} (h : Mk m) (hi : i ≤ m) (hj : j ≤ m) : ∃ k, k ≤ m ∧ lcgI m i k = j := by
  obtain ⟨x, hx, ex⟩ := h.meet hi
  obtain ⟨y, hy, ey⟩ := h.meet hj
  subst ex
  by_cases c : x ≤ y
  · refine ⟨y - x, by omega, ?_⟩
    rw [lcgN_add, show x + (y - x) = y by omega]
    exact ey
  · refine ⟨y + (m + 1) - x, by omega, ?_⟩
    rw [lcgN_add, show x + (y + (m + 1) - x) = m + 1 + y by omega, h.again]
    exact ey
theorem Mk.run {m j : Nat} (h : Mk m) (z : Int) (hj : j ≤ m) : ∃ n, n ≤ m + 12 ∧ runI m (SetTable.bits z) n = j := by
  obtain ⟨k, hk, e⟩ := h.fromAny (runI_le m (SetTable.bits z) 12) hj
  exact ⟨12 + k, by omega, (runI_tail (bits_lt z) k).trans e⟩
theorem Mk.met {m j : Nat} (h : Mk m) (z : Int) (hj : j ≤ m) : ∃ k, k < 10 * SetTable.turns m ∧ way m z k = j := by
  obtain ⟨n, hn, e⟩ := h.run z hj
  obtain ⟨k, hk, e2⟩ := run_nth m (SetTable.bits z) n
  have ht : SetTable.turns m = m + 15 := rfl
  exact ⟨k, by omega, (congrArg SetTable.Probe.j e2).trans e⟩
theorem Mk.odd {m : Nat} (h : Mk m) : m % 2 = 1 := by
  obtain ⟨d, h3, _, _, e⟩ := h
  obtain ⟨k, rfl⟩ : ∃ k, d = k + 1 := ⟨d - 1, by omega⟩
  rw [Nat.pow_succ] at e
  omega
theorem Mk.le {m : Nat} (h : Mk m) : m ≤ 2047 := by
  obtain ⟨d, _, hd, _, e⟩ := h
  have : 2 ^ d ≤ 2 ^ 11 := Nat.pow_le_pow_right (by decide) (by omega)
  omega
theorem Mk.cases {m : Nat} (h : Mk m) : m = 7 ∨ m = 31 ∨ m = 127 ∨ m = 511 ∨ m = 2047 := by
  obtain ⟨d, h3, hd, ho, e⟩ := h
  have : d = 3 ∨ d = 5 ∨ d = 7 ∨ d = 9 ∨ d = 11 := by omega
  rcases this with rfl | rfl | rfl | rfl | rfl
  · exact .inl (by simpa using e)
  · exact .inr (.inl (by simpa using e))
  · exact .inr (.inr (.inl (by simpa using e)))
  · exact .inr (.inr (.inr (.inl (by simpa using e))))
  · exact .inr (.inr (.inr (.inr (by simpa using e))))
theorem mk7 : Mk 7 := ⟨3, by decide, by decide, by decide, rfl⟩
theorem mk31 : Mk 31 := ⟨5, by decide, by decide, by decide, rfl⟩
theorem mk127 : Mk 127 := ⟨7, by decide, by decide, by decide, rfl⟩
theorem mk511 : Mk 511 := ⟨9, by decide, by decide, by decide, rfl⟩
theorem mk2047 : Mk 2047 := ⟨11, by decide, by decide, by decide, rfl⟩
theorem wayLe {m : Nat} {z : Int} {k : Nat} : way m z k ≤ m := by
  have hb : SetTable.bits z % (m + 1) < m + 1 := Nat.mod_lt _ (Nat.succ_pos _)
  have hr := runEnd_bd (m := m) (i := SetTable.bits z % (m + 1)) (by omega)
  have hn := nth_in (m := m) k (runAt m (SetTable.bits z % (m + 1)) (SetTable.bits z)) (by simp only [runAt]; omega)
  have : way m z k = (nth m (runAt m (SetTable.bits z % (m + 1)) (SetTable.bits z)) k).j := rfl
  omega
/-! ### a table in which each member is met on its way -/
structure Tb (t : SetTable) (hs : List Int) : Prop where
  up : Ris t.place.toList
  nd : t.dummies = #[]
  sz : t.place.size = hs.length
  msk : Mk t.mask
  le : ∀ x ∈ t.place.toList, x ≤ t.mask
  met : ∀ (i : Nat) (z : Int) (j : Nat), hs[i]? = some z → t.place.toList[i]? = some j → ∃ k, way t.mask z k = j ∧ ∀ k', k' < k → way t.mask z k' ∈ t.place.toList
section
variable {t : SetTable} {hs : List Int}
theorem Tb.len (T : Tb t hs) : t.place.toList.length = hs.length := T.sz
theorem Tb.gap (T : Tb t hs) (hl : hs.length ≤ t.mask) (z : Int) : ∃ K, K < 10 * SetTable.turns t.mask ∧ way t.mask z K ∉ t.place.toList ∧ ∀ k, k < K → way t.mask z k ∈ t.place.toList := by
  obtain ⟨j, hj, hn⟩ := st_missing t.place.toList (t.mask + 1) (by have := T.len; omega)
  obtain ⟨k, hk, e⟩ := T.msk.met z (show j ≤ t.mask by omega)
  obtain ⟨K, hKk, hK, hmin⟩ := st_least (p := fun k => way t.mask z k ∉ t.place.toList) k (fun hm => hn (e ▸ hm))
  exact ⟨K, by omega, hK, fun k' hk' => Classical.byContradiction (hmin k' hk')⟩
theorem Tb.ahead (T : Tb t hs) {z : Int} {K i j : Nat} (hK : way t.mask z K ∉ t.place.toList) (hi : hs[i]? = some z) (hj : t.place.toList[i]? = some j) : ∃ k, k < K ∧ way t.mask z k = j := by
  obtain ⟨k, e, hb⟩ := T.met i z j hi hj
  have hm := List.mem_of_getElem? hj
  refine ⟨k, ?_, e⟩
  by_cases c : k < K
  · exact c
  · exfalso
    by_cases c2 : k = K
    · subst c2
      exact hK (e ▸ hm)
    · exact hK (hb K (by omega))
/-- what is put into the first gap is met, and so are the others -/
theorem Tb.lay (T : Tb t hs) {z : Int} {K : Nat} (hK : way t.mask z K ∉ t.place.toList) (hb : ∀ k, k < K → way t.mask z k ∈ t.place.toList) :
    let p := SetTable.below t.place (way t.mask z K)
    p ≤ hs.length ∧ Tb (t.put (way t.mask z K)).1 (hs.take p ++ z :: hs.drop p) ∧ (t.put (way t.mask z K)).1.place.size = hs.length + 1 := by
  intro p
  obtain ⟨c1, _, _⟩ := below_cut T.up (way t.mask z K)
  have hp1 : p ≤ t.place.toList.length := c1
  have hp2 : p ≤ hs.length := by have := T.len; omega
  have hout : t.place[p]? ≠ some (way t.mask z K) := fun e => hK (List.mem_of_getElem? (by rw [Array.getElem?_toList]; exact e))
  have epl : (t.put (way t.mask z K)).1.place.toList = t.place.toList.take p ++ way t.mask z K :: t.place.toList.drop p := put_place t _
  have esz : (t.put (way t.mask z K)).1.place.size = hs.length + 1 := by
    have h1 := congrArg List.length epl
    rw [len_ins _ hp1, T.len] at h1
    exact h1
  have grow : ∀ {x : Nat}, x ∈ t.place.toList → x ∈ (t.put (way t.mask z K)).1.place.toList := fun {x} hx => by
    rw [epl, mem_ins]
    exact .inr hx
  refine ⟨hp2, ⟨ris_insert T.up hout, put_dm T.nd _, ?_, T.msk, fun x hx => ?_, fun i y j hi hj => ?_⟩, esz⟩
  · rw [esz, len_ins _ hp2]
  · rw [epl, mem_ins] at hx
    rcases hx with hx | hx
    · rw [hx]
      exact wayLe
    · exact T.le x hx
  · rw [epl, tins_get _ hp1] at hj
    rw [tins_get _ hp2] at hi
    show ∃ k, way t.mask y k = j ∧ ∀ k', k' < k → way t.mask y k' ∈ (t.put (way t.mask z K)).1.place.toList
    by_cases h1 : i < p
    · rw [if_pos h1] at hi hj
      obtain ⟨k, e, l⟩ := T.met i y j hi hj
      exact ⟨k, e, fun k' hk' => grow (l k' hk')⟩
    by_cases h2 : i = p
    · rw [if_neg h1, if_pos h2] at hi hj
      cases hi
      cases hj
      exact ⟨K, rfl, fun k' hk' => grow (hb k' hk')⟩
    · rw [if_neg h1, if_neg h2] at hi hj
      obtain ⟨k, e, l⟩ := T.met (i - 1) y j hi hj
      exact ⟨k, e, fun k' hk' => grow (l k' hk')⟩
end
/-! ### all laid anew -/
theorem freeAt {m : Nat} (hm : Mk m) (ow : Array (Option Nat)) (z : Int) {j : Nat} (hj : j ≤ m) (hf : oAt ow j = none) :
    ∃ K, SetTable.layClean.free m ow (SetTable.turns m) (SetTable.bits z % (m + 1)) (SetTable.bits z) = some (way m z K) ∧ oAt ow (way m z K) = none ∧ ∀ k, k < K → oAt ow (way m z k) ≠ none := by
  obtain ⟨n, hn, e⟩ := hm.run z hj
  have hw : way m z (off m (SetTable.bits z % (m + 1)) (SetTable.bits z) n) = j := by
    have h1 := nth_off m n (SetTable.bits z % (m + 1)) (SetTable.bits z)
    rw [itL_run] at h1
    exact (congrArg SetTable.Probe.j h1).trans e
  obtain ⟨K, hK, hfree, hmin⟩ := st_least (p := fun k => oAt ow (way m z k) = none) _ (by
    show oAt ow (way m z _) = none
    rw [hw]
    exact hf)
  have ht : SetTable.turns m = m + 15 := rfl
  refine ⟨K, free_spec m ow _ n _ _ K (by omega) hK (fun k hk => ?_) ?_, hfree, hmin⟩
  · have := hmin k hk
    cases q : oAt ow (way m z k) with
    | none => exact absurd q this
    | some v => rfl
  · exact congrArg Option.isNone hfree
theorem sitStep {m : Nat} (hm : Mk m) {done : List Int} {ow : Array (Option Nat)} (W : Own m done ow) (hl : done.length ≤ m) (z : Int) :
    ∃ j, SetTable.layClean.free m ow (SetTable.turns m) (SetTable.bits z % (m + 1)) (SetTable.bits z) = some j ∧ Own m (done ++ [z]) (ow.setIfInBounds j (some done.length)) := by
  obtain ⟨ps, hps, hin⟩ := W.ps
  obtain ⟨j0, hj0, hn0⟩ := st_missing ps (m + 1) (by omega)
  have fr : oAt ow j0 = none := Classical.byContradiction fun q => hn0 (hin j0 (by omega) q)
  obtain ⟨K, e1, e2, e3⟩ := freeAt hm ow z (show j0 ≤ m by omega) fr
  refine ⟨way m z K, e1, ?_⟩
  have hle : way m z K ≤ m := wayLe
  have hin2 : way m z K < ow.size := by rw [W.sz]; omega
  have own := oAt_set_self (some done.length) hin2
  have oth : ∀ {i : Nat}, i ≠ way m z K → oAt (ow.setIfInBounds (way m z K) (some done.length)) i = oAt ow i := fun {i} c => oAt_set_ne _ c
  have stay : ∀ {i : Nat}, oAt ow i ≠ none → oAt (ow.setIfInBounds (way m z K) (some done.length)) i ≠ none := fun {i} hi => by
    by_cases c : i = way m z K
    · subst c
      exact absurd e2 hi
    · rw [oth c]
      exact hi
  constructor
  · rw [Array.size_setIfInBounds, W.sz]
  · intro j k hj e
    by_cases c : j = way m z K
    · subst c
      rw [own] at e
      cases e
      exact ⟨z, K, by simp, rfl, fun k' hk' => stay (e3 k' hk')⟩
    · rw [oth c] at e
      obtain ⟨y, L, a1, a2, a3⟩ := W.at_ j k hj e
      exact ⟨y, L, (List.getElem?_append_left (List.getElem?_eq_some_iff.mp a1).1).trans a1, a2, fun k' hk' => stay (a3 k' hk')⟩
  · intro k hk
    rw [List.length_append] at hk
    by_cases c : k < done.length
    · obtain ⟨j, hj, e⟩ := W.all k c
      exact ⟨j, hj, (oth fun q => by rw [q, e2] at e; cases e).trans e⟩
    · have : k = done.length := by
        have : k < done.length + 1 := hk
        omega
      subst this
      exact ⟨_, hle, own⟩
  · refine ⟨way m z K :: ps, by rw [List.length_cons, hps, List.length_append]; rfl, fun j hj q => ?_⟩
    by_cases c : j = way m z K
    · rw [c]
      exact List.mem_cons_self
    · rw [oth c] at q
      exact List.mem_cons_of_mem _ (hin j hj q)
theorem sitAll {m : Nat} (hm : Mk m) : ∀ (rest done : List Int) (ow : Array (Option Nat)), Own m done ow → done.length + rest.length ≤ m →
    ∃ ow', rest.foldl (stepF m) (some (ow, done.length)) = some (ow', (done ++ rest).length) ∧ Own m (done ++ rest) ow'
  | [], done, ow, W, _ => ⟨ow, by simp, by simpa using W⟩
  | z :: rest, done, ow, W, hl => by
    have hl' : done.length + (rest.length + 1) ≤ m := hl
    obtain ⟨j, e, W1⟩ := sitStep hm W (by omega) z
    have hn : (done ++ [z]).length = done.length + 1 := by simp
    obtain ⟨ow', e2, W2⟩ := sitAll hm rest (done ++ [z]) _ W1 (by omega)
    have ea : done ++ [z] ++ rest = done ++ z :: rest := by simp
    rw [ea] at e2 W2
    refine ⟨ow', ?_, W2⟩
    rw [List.foldl_cons, stepF_some e, ← hn]
    exact e2
theorem sits {m : Nat} (hm : Mk m) {hs : Array Int} (hn : hs.size ≤ m) : ∃ ow, SetTable.layClean m hs = some ow ∧ Own m hs.toList ow := by
  obtain ⟨ow, e, W⟩ := sitAll hm hs.toList [] _ (Own.init m) (by have : hs.toList.length = hs.size := rfl; simp; omega)
  have e' : hs.toList.foldl (stepF m) (some (Array.replicate (m + 1) none, 0)) = some (ow, ([] ++ hs.toList).length) := e
  exact ⟨ow, by rw [layClean_eq, e']; rfl, by simpa using W⟩
theorem anew (t : SetTable) {hs : Array Int} {wanted M : Nat} (hw : SetTable.sizeAbove wanted - 1 = M) (hM : Mk M) (hn : hs.size ≤ M) :
    ∃ t' order, t.relaid hs wanted = some (t', order) ∧ order.toList.Perm (List.range hs.size) ∧ Tb t' (order.toList.map fun i => hs.getD i 0) ∧ t'.mask = M ∧ t'.led = t.led ∧ t'.plain = t.plain := by
  obtain ⟨ow, e, W⟩ := sits hM hn
  have lt : ∀ {j k : Nat}, (j, k) ∈ liveOf M ow ↔ j ≤ M ∧ oAt ow j = some k := fun {j k} => mem_live W.sz
  obtain ⟨u1, u2⟩ := ris_live (fun j => ow.getD j none) (List.range (M + 1)) (by unfold Ris; exact List.pairwise_lt_range)
  have v1 : Ris ((liveOf M ow).map (·.1)) := u1
  have v2 : ∀ x ∈ (liveOf M ow).map (·.1), x < M + 1 := fun x hx => List.mem_range.mp (u2 x hx)
  have all : ∀ k, k < hs.size → k ∈ (liveOf M ow).map (·.2) := fun k hk => by
    obtain ⟨j, b1, b2⟩ := W.all k hk
    exact List.mem_map.mpr ⟨(j, k), lt.mpr ⟨b1, b2⟩, rfl⟩
  have num : (liveOf M ow).length = hs.size := by
    obtain ⟨ps, q1, q2⟩ := W.ps
    have nod : ((liveOf M ow).map (·.1)).Nodup := List.Pairwise.imp (fun h => Nat.ne_of_lt h) v1
    have a := nat_nodup_len ((liveOf M ow).map (·.1)) ps nod fun x hx => by
      obtain ⟨⟨y, k⟩, hq, rfl⟩ := List.mem_map.mp hx
      have hq' := lt.mp hq
      exact q2 y hq'.1 (by rw [hq'.2]; simp)
    have b := nat_nodup_len (List.range hs.size) ((liveOf M ow).map (·.2)) List.nodup_range fun k hk => all k (List.mem_range.mp hk)
    simp only [List.length_map, List.length_range] at a b
    have : hs.toList.length = hs.size := rfl
    omega
  refine ⟨tabOf t M ow, ((liveOf M ow).map (·.2)).toArray, by rw [relaid_eq, hw, e]; rfl, perm_range _ _ (by simpa using num) all, ⟨v1, rfl, by simp [tabOf], hM, fun x hx => Nat.le_of_lt_succ (v2 x hx), fun i z j hi hj => ?_⟩, rfl, rfl, rfl⟩
  have hi' : (((liveOf M ow).map (·.2)).map fun i => hs.getD i 0)[i]? = some z := hi
  have hj' : ((liveOf M ow).map (·.1))[i]? = some j := hj
  simp only [List.getElem?_map] at hi' hj'
  cases hq : (liveOf M ow)[i]? with
  | none =>
    rw [hq] at hj'
    cases hj'
  | some q =>
    obtain ⟨y, k⟩ := q
    rw [hq] at hi' hj'
    cases hj'
    have hi2 : hs.getD k 0 = z := Option.some.inj hi'
    obtain ⟨b1, b2⟩ := lt.mp (List.mem_of_getElem? hq)
    obtain ⟨z0, K, a1, a2, a3⟩ := W.at_ y k b1 b2
    have ez : hs.getD k 0 = z0 := by
      have a1' : hs[k]? = some z0 := by rw [← Array.getElem?_toList]; exact a1
      simp [Array.getD_eq_getD_getElem?, a1']
    have : z0 = z := ez.symm.trans hi2
    subst this
    refine ⟨K, a2, fun k' hk' => ?_⟩
    have hs' := a3 k' hk'
    cases q : oAt ow (way M z0 k') with
    | none => exact absurd q hs'
    | some k2 => exact List.mem_map.mpr ⟨(_, k2), lt.mpr ⟨wayLe, q⟩, rfl⟩
end Zs

namespace Zs
open PySem PySem.Spec PyProof.Rows L2
/-! ### the set in the heap -/
/-- members: where a tuple lies, and its ints -/
abbrev Mem := List (Addr × List Int)
structure Zt (P : Program) (w : World) (h : Heap) (a : Addr) (L : Mem) (es : Array (Int × Value)) (ep : Nat) (t : SetTable) : Prop where
  ob : ∃ o, h.get? a = some o ∧ o.ExactSet ∧ o.data = .set es ep t
  rs : es.toList = rowsOf P w L
  tb : Tb t (L.map fun q => thash P w q.2)
  nd : (L.map (·.2)).Nodup
  tp : ∀ q ∈ L, IsT P w h q.2 q.1
  pl : t.plain = true
  ld : w.params.followText "set-order" = true ∨ t.led = true
  rm : L.length * 5 < t.mask * 3
section
variable {P : Program} {w : World} {A : Around} {E : Value → Shared → Prop} {s : Shared} {a x : Addr} {L : Mem} {es : Array (Int × Value)} {ep : Nat} {t : SetTable} {k : List Int}
theorem rows_num {L : Mem} {es : Array (Int × Value)} (h : es.toList = rowsOf P w L) : es.size = L.length := by
  have e : es.toList.length = (rowsOf P w L).length := by rw [h]
  simpa [rowsOf] using e
theorem Zt.num (Z : Zt P w s.heap a L es ep t) : es.size = L.length := rows_num Z.rs
theorem Zt.tnum (Z : Zt P w s.heap a L es ep t) : t.place.size = L.length := by simpa using Z.tb.sz
theorem fits_if {t : SetTable} {n : Nat} (h1 : t.place.size = n) (h2 : t.dummies = #[]) (h3 : n ≤ t.mask) : t.fits n = true := by
  unfold SetTable.fits SetTable.fill
  simp [h1, h2, h3]
theorem Zt.fit (Z : Zt P w s.heap a L es ep t) : t.fits es.size = true := by
  have h := Z.rm
  rw [Z.num]
  exact fits_if Z.tnum Z.tb.nd (by omega)
theorem Zt.few (Z : Zt P w s.heap a L es ep t) : L.length < 1229 := by
  have h1 := Z.rm
  have h2 := Z.tb.msk.le
  omega
theorem Zt.row (Z : Zt P w s.heap a L es ep t) {i : Nat} {q : Addr × List Int} (h : L[i]? = some q) : es[i]? = some (thash P w q.2, .ref q.1) := by
  have e : es.toList[i]? = (rowsOf P w L)[i]? := by rw [Z.rs]
  rw [Array.getElem?_toList] at e
  rw [e]
  simp [rowsOf, h]
/-- the search for k among the members: from the c-th step of its way on -/
theorem seek (Z : Zt P w s.heap a L es ep t) (hx : IsT P w s.heap k x) (hu : A.units < cLine) {K : Nat} (hK : way t.mask (thash P w k) K ∉ t.place.toList) (hKm : K < 10 * SetTable.turns t.mask)
    (hKb : ∀ c, c < K → way t.mask (thash P w k) c ∈ t.place.toList) {Q : SetFound → Shared → Prop} (yes : k ∈ L.map (·.2) → Q (.there none) s) (no : k ∉ L.map (·.2) → Q (.free (way t.mask (thash P w k) K) false) s) :
    ∀ (f c : Nat) (from_ : Option SetTable.Probe), from_.getD (t.probeStart (thash P w k)) = nth t.mask (t.probeStart (thash P w k)) c → c ≤ K → K < f + c →
      (∀ (i : Nat) q, L[i]? = some q → q.2 = k → ∃ c', c ≤ c' ∧ c' < K ∧ t.place.toList[i]? = some (way t.mask (thash P w k) c')) →
      wpAny (model P w) A (setSearchFrom a (.ref x) (thash P w k) true f from_) Q E s := by
  intro f
  induction f with
  | zero => intro c from_ _ h1 h2; omega
  | succ f ih =>
    intro c from_ hfrom hc hf hleft
    obtain ⟨o, hget, hex, hdat⟩ := Z.ob
    obtain ⟨st, hst⟩ : ∃ st, st = t.probeStart (thash P w k) := ⟨_, rfl⟩
    have ew : ∀ q, way t.mask (thash P w k) q = (nth t.mask st q).j := fun q => by rw [hst]; rfl
    have hfrom2 : from_.getD (t.probeStart (thash P w k)) = nth t.mask st c := by rw [hst]; exact hfrom
    have eshift : ∀ q, nth t.mask (nth t.mask st c) q = nth t.mask st (c + q) := fun q => (nth_add _ c st q).symm
    have ej : ∀ q, (nth t.mask (nth t.mask st c) q).j = way t.mask (thash P w k) (c + q) := fun q => by rw [eshift, ew]
    have nodm : ∀ n (pr : SetTable.Probe), pr.dummy = none → (nth t.mask pr n).dummy = none := fun n => by
      induction n with
      | zero => exact fun _ h => h
      | succ n ihn =>
        intro pr h
        refine ihn (adv t.mask pr) ?_
        unfold adv
        split <;> exact h
    have hash : ∀ {i : Nat} {q : Addr × List Int}, L[i]? = some q → (es[i]?.map (·.1)).getD 0 = thash P w q.2 := fun {i q} h => by rw [Z.row h]; rfl
    have got := go_spec t Z.tb.up Z.tb.nd (fun i => (es[i]?.map (·.1)).getD 0) (thash P w k) (10 * SetTable.turns t.mask) (K - c) (nth t.mask st c) (nodm c st (by rw [hst]; rfl)) (by omega)
      (fun q hq => by rw [ej]; exact hKb _ (by omega)) (by rw [ej, show c + (K - c) = K by omega]; exact hK)
    rw [setSearchFrom_succ]
    refine wpAny_bind (wpAny_setState_of hget hdat Z.fit ?_)
    dsimp only
    refine wp_if_neg (by unfold SetTable.gaveWay; rw [Z.tb.msk.odd]; decide) ?_
    rcases got with ⟨q, i, hqK, hplace, hh, hnone, hprobe⟩ | ⟨hnone, hprobe⟩
    · have hprobe' : t.probe (fun i => (es[i]?.map (·.1)).getD 0) (thash P w k) (nth t.mask st c) = some (.candidate (way t.mask (thash P w k) (c + q)) i (nth t.mask st (c + (q + 1)))) := by
        rw [← ej, ← eshift]
        exact hprobe
      rw [ej] at hplace
      rw [hfrom2, hprobe']
      dsimp only
      obtain ⟨y, hy⟩ : ∃ y, L[i]? = some y := by
        have h1 : i < t.place.toList.length := (List.getElem?_eq_some_iff.mp hplace).1
        have h2 : t.place.toList.length = L.length := Z.tnum
        exact ⟨L[i], List.getElem?_eq_getElem (by omega)⟩
      have hyL : y ∈ L := List.mem_of_getElem? hy
      have then_ : wpAny (model P w) A (searchRest a (.ref x) (thash P w k) true f es t (way t.mask (thash P w k) (c + q)) i (nth t.mask st (c + (q + 1)))) Q E s := by
        unfold searchRest
        rw [Z.row hy]
        dsimp only
        refine wpAny_bind (wpAny_holding (wpAny_eqBool_tuple hu (Z.tp y hyL) hx ?_))
        refine wpAny_bind (wpAny_setState_of hget hdat Z.fit ?_)
        dsimp only
        by_cases same : y.2 = k
        · refine wp_if_pos (by simp [same]) (wpAny_pure (yes ?_))
          exact List.mem_map.mpr ⟨y, hyL, same⟩
        · refine wp_if_neg (by simp [same]) ?_
          rw [sameMem]
          have live : t.slot (way t.mask (thash P w k) (c + q)) = .live i := slot_live Z.tb.up hplace
          dsimp only
          simp only [if_true, live, Z.row hy]
          refine wpAny_bind (wpAny_isSame_ref_self (wpAny_bind (wpAny_pure ?_)))
          simp only [if_true]
          refine wp_if_neg (by simp [same]) ?_
          refine ih (c + (q + 1)) (some _) (by rw [hst]; rfl) (by omega) (by omega) fun i2 y2 h2 hk2 => ?_
          obtain ⟨c', l1, l2, l3⟩ := hleft i2 y2 h2 hk2
          refine ⟨c', ?_, l2, l3⟩
          by_cases lt : c' < c + q
          · refine absurd ((hash h2).trans (congrArg (thash P w) hk2)) (hnone (c' - c) i2 (by omega) ?_)
            rw [ej, show c + (c' - c) = c' by omega]
            exact l3
          by_cases eq : c' = c + q
          · subst eq
            have live2 := slot_live Z.tb.up l3
            rw [live] at live2
            cases live2
            rw [hy] at h2
            cases h2
            exact absurd hk2 same
          · omega
      by_cases led : t.led = true
      · refine wp_if_neg (by simp [led]) ?_
        exact then_
      · refine wp_if_pos (by simp [led]) ?_
        refine wpAny_bind (seen_tup hx (fun v hv => ?_) (wp_if_neg (by decide) then_))
        obtain ⟨e, he, rfl⟩ := List.mem_map.mp hv
        have he' : e ∈ es.toList := by
          have : e ∈ es ∧ e.1 = thash P w k := by simpa using he
          simpa using this.1
        rw [Z.rs] at he'
        obtain ⟨y2, hy2, rfl⟩ := List.mem_map.mp he'
        exact ⟨y2.2, y2.1, rfl, Z.tp y2 hy2⟩
    · have hprobe' : t.probe (fun i => (es[i]?.map (·.1)).getD 0) (thash P w k) (nth t.mask st c) = some (.empty (way t.mask (thash P w k) K) none) := by
        have e := ej (K - c)
        rw [show c + (K - c) = K by omega] at e
        rw [← e]
        exact hprobe
      rw [hfrom2, hprobe']
      dsimp only
      refine wpAny_pure (no fun hm => ?_)
      obtain ⟨y, hy, hk⟩ := List.mem_map.mp hm
      obtain ⟨i, hi⟩ := List.getElem?_of_mem hy
      obtain ⟨c', l1, l2, l3⟩ := hleft i y hi hk
      refine hnone (c' - c) i (by omega) ?_ ((hash hi).trans (congrArg (thash P w) hk))
      rw [ej, show c + (c' - c) = c' by omega]
      exact l3
theorem seekAdd (Z : Zt P w s.heap a L es ep t) (hx : IsT P w s.heap k x) (hu : A.units < cLine) {Q : SetFound → Shared → Prop} (yes : k ∈ L.map (·.2) → Q (.there none) s)
    (no : ∀ K, k ∉ L.map (·.2) → way t.mask (thash P w k) K ∉ t.place.toList → (∀ c, c < K → way t.mask (thash P w k) c ∈ t.place.toList) → Q (.free (way t.mask (thash P w k) K) false) s) : wpAny (model P w) A (setSearch a (.ref x) (thash P w k) true) Q E s := by
  have hr := Z.rm
  obtain ⟨K, h1, h2, h3⟩ := Z.tb.gap (by rw [List.length_map]; omega) (thash P w k)
  have hm := Z.tb.msk.le
  have ht : SetTable.turns t.mask = t.mask + 15 := rfl
  refine seek Z hx hu h2 h1 h3 yes (fun h => no K h h2 h3) 100000 0 none rfl (Nat.zero_le _) (by omega) fun i q hq hk => ?_
  obtain ⟨j, hj⟩ : ∃ j, t.place.toList[i]? = some j := by
    have l1 := (List.getElem?_eq_some_iff.mp hq).1
    have l2 : t.place.toList.length = L.length := Z.tnum
    exact ⟨_, List.getElem?_eq_getElem (by omega)⟩
  obtain ⟨c, hc, e⟩ := Z.tb.ahead h2 (i := i) (by rw [List.getElem?_map, hq, ← hk]; rfl) hj
  exact ⟨c, Nat.zero_le _, hc, by rw [hj, e]⟩
end
end Zs

namespace Zs
open PySem PySem.Spec PyProof.Rows L2
section
variable {P : Program} {w : World} {A : Around} {E : Value → Shared → Prop} {s : Shared} {a x : Addr} {L : Mem} {es : Array (Int × Value)} {ep : Nat} {t : SetTable} {k : List Int}
theorem order_num {es : Array (Int × Value)} {order : Array Nat} {L2 : Mem} (h : (order.filterMap (es[·]?)).toList = rowsOf P w L2) : (order.filterMap (es[·]?)).size = L2.length := rows_num h
/-- a larger table -/
theorem larger {o : Obj} (hget : s.heap.get? a = some o) (hex : o.ExactSet) (hdat : o.data = .set es ep t) (hrs : es.toList = rowsOf P w L) (hpn : t.place.size = es.size) (hdm : t.dummies = #[]) (hle : es.size ≤ t.mask)
    (nod : (L.map (·.2)).Nodup) (htp : ∀ q ∈ L, IsT P w s.heap q.2 q.1) (hpl : t.plain = true) (hld : w.params.followText "set-order" = true ∨ t.led = true) {wanted M : Nat} (hw : SetTable.sizeAbove wanted = M + 1) (hM : Mk M) (hroom : L.length * 5 < M * 3)
    {Q : Unit → Shared → Prop} (fin : ∀ h' L' es' ep' t', Heap.SameBut a s.heap h' → Zt P w h' a L' es' ep' t' → L'.Perm L → Q () { s with heap := h' }) : wpAny (model P w) A (setRelay a wanted) Q E s := by
  have en := rows_num hrs
  have hMle := hM.le
  obtain ⟨t2, order, e, pm, T, e1, e2, e3⟩ := anew t (hs := es.map (·.1)) (wanted := wanted) (M := M) (by omega) hM (by rw [Array.size_map, en]; omega)
  rw [Array.size_map, en] at pm
  obtain ⟨L3, r1, r2, r3⟩ := order_rows L es order hrs pm
  have n3 : L3.length = L.length := r2.length_eq
  have on := order_num r1
  rw [← r3] at T
  rw [setRelay_eq]
  refine wpAny_bind (wpAny_setState_of hget hdat (fits_if hpn hdm hle) ?_)
  dsimp only
  have big : (2048 : Nat) ≤ sizeLine := by decide
  refine wp_if_neg (by omega) ?_
  rw [e]
  dsimp only
  refine wpAny_bind (wp_if_neg (by rw [on, n3, en]; simp) (wpAny_pure ?_))
  dsimp only
  refine wpAny_storeSet_of hget hdat ?_ (by rw [on, n3]; omega)
  have sb : Heap.SameBut a s.heap (s.heap.update a (Obj.putSet (order.filterMap (es[·]?)) t2)) := Heap.SameBut.update s.heap a _
  exact fin _ L3 _ (ep + 1) t2 sb ⟨⟨_, store_at hget hdat, ⟨hex.1, hex.2.1, hex.2.2⟩, rfl⟩, r1, T, (r2.map (·.2)).nodup_iff.mpr nod, fun q hq => isT_same (htp q (r2.mem_iff.mp hq)) hget hdat sb, e3.trans hpl, hld.imp id fun z => e2.trans z, by rw [n3, e1]; exact hroom⟩ r2
theorem sizes : SetTable.sizeAbove (SetTable.grown 5) = 32 ∧ SetTable.sizeAbove (SetTable.grown 19) = 128 ∧ SetTable.sizeAbove (SetTable.grown 77) = 512 ∧ SetTable.sizeAbove (SetTable.grown 307) = 2048 := by decide +kernel
/-- x, a tuple of the ints k, is added -/
theorem added (Z : Zt P w s.heap a L es ep t) (hx : IsT P w s.heap k x) (hu : A.units < cLine) (hmany : L.length < 1200) {Q : Bool → Shared → Prop}
    (fin : ∀ b h' L' es' ep' t', Heap.SameBut a s.heap h' → Zt P w h' a L' es' ep' t' → (k ∈ L.map (·.2) → L' = L) → (k ∉ L.map (·.2) → L'.Perm ((x, k) :: L)) → Q b { s with heap := h' }) :
    wpAny (model P w) A (setAddHashed a (.ref x) (thash P w k)) Q E s := by
  obtain ⟨o, hget, hex, hdat⟩ := Z.ob
  have en := Z.num
  have hrm := Z.rm
  unfold setAddHashed
  refine wpAny_holding ?_
  rw [show (100000 : Nat) = 99999 + 1 from rfl, setAddHashedIn_succ]
  refine wpAny_bind (wpAny_setState_of hget hdat Z.fit ?_)
  dsimp only
  refine wp_if_neg (by simp [byScan, Value.scannable]) ?_
  refine wpAny_bind (seekAdd Z hx hu (fun hm => ?_) fun K hm hK hKb => ?_)
  · dsimp only
    exact wpAny_pure (fin false s.heap L es ep t (Heap.SameBut.refl a s.heap) Z (fun _ => rfl) fun n => absurd hm n)
  dsimp only
  refine wpAny_bind (wpAny_setState_of hget hdat Z.fit ?_)
  dsimp only
  obtain ⟨b1, b2, b3⟩ := Z.tb.lay hK hKb
  rw [List.length_map] at b1 b3
  have em : (t.put (way t.mask (thash P w k) K)).1.mask = t.mask := rfl
  have el : (t.put (way t.mask (thash P w k) K)).1.led = t.led := rfl
  have epl : (t.put (way t.mask (thash P w k) K)).1.plain = true := Z.pl
  have e2 : (t.put (way t.mask (thash P w k) K)).2 = SetTable.below t.place (way t.mask (thash P w k) K) := rfl
  generalize t.put (way t.mask (thash P w k) K) = pt at b2 b3 em el epl e2 ⊢
  obtain ⟨t1, at_⟩ := pt
  dsimp only at b2 b3 em el epl e2 ⊢
  rw [← e2] at b1 b2
  refine wp_if_pos epl (wpAny_bind (hashBy_tup hx ?_))
  simp only [if_true]
  have hrs : (SetTable.insertAt es at_ (thash P w k, Value.ref x)).toList = rowsOf P w (L.take at_ ++ (x, k) :: L.drop at_) := by
    rw [SetTable.toList_insertAt, rows_put, Z.rs]
  have pm := put_perm L at_ (x, k)
  have ehash : (L.take at_ ++ (x, k) :: L.drop at_).map (fun q => thash P w q.2) = (L.map fun q => thash P w q.2).take at_ ++ thash P w k :: (L.map fun q => thash P w q.2).drop at_ := by
    simp
  rw [← ehash] at b2
  generalize SetTable.insertAt es at_ (thash P w k, Value.ref x) = es1 at hrs ⊢
  generalize L.take at_ ++ (x, k) :: L.drop at_ = L1 at pm b2 hrs
  have n1 : L1.length = L.length + 1 := pm.length_eq
  have en1 := rows_num hrs
  have nod : (L1.map (·.2)).Nodup := (pm.map (·.2)).nodup_iff.mpr (List.nodup_cons.mpr ⟨hm, Z.nd⟩)
  have big : (2048 : Nat) ≤ sizeLine := by decide
  refine wpAny_bind (wpAny_storeSet_of hget hdat ?_ (by omega))
  have sb : Heap.SameBut a s.heap (s.heap.update a (Obj.putSet es1 t1)) := Heap.SameBut.update s.heap a _
  have hget1 := store_at (es' := es1) (t' := t1) hget hdat
  generalize s.heap.update a (Obj.putSet es1 t1) = h1 at sb hget1 ⊢
  have htp : ∀ q ∈ L1, IsT P w h1 q.2 q.1 := fun q hq => by
    rcases List.mem_cons.mp (pm.mem_iff.mp hq) with e | e
    · rw [e]
      exact isT_same hx hget hdat sb
    · exact isT_same (Z.tp q e) hget hdat sb
  have hld : w.params.followText "set-order" = true ∨ t1.led = true := by rw [el]; exact Z.ld
  have hdm := b2.nd
  have full : t1.tooFull = decide ((L.length + 1) * 5 ≥ t.mask * 3) := by
    unfold SetTable.tooFull SetTable.fill
    rw [hdm, b3, em]
    rfl
  by_cases c : (L.length + 1) * 5 ≥ t.mask * 3
  · rw [decide_eq_true c] at full
    refine wp_if_pos (by simp [full]) ?_
    have four : (t.mask = 7 ∧ L.length = 4) ∨ (t.mask = 31 ∧ L.length = 18) ∨ (t.mask = 127 ∧ L.length = 76) ∨ (t.mask = 511 ∧ L.length = 306) := by
      rcases Z.tb.msk.cases with e | e | e | e | e <;> rw [e] at c hrm <;> omega
    have next : ∃ M, SetTable.sizeAbove (SetTable.grown (es.size + 1)) = M + 1 ∧ Mk M ∧ L1.length * 5 < M * 3 := by
      rw [en, n1]
      rcases four with ⟨_, e⟩ | ⟨_, e⟩ | ⟨_, e⟩ | ⟨_, e⟩ <;> rw [e]
      · exact ⟨31, sizes.1, mk31, by decide⟩
      · exact ⟨127, sizes.2.1, mk127, by decide⟩
      · exact ⟨511, sizes.2.2.1, mk511, by decide⟩
      · exact ⟨2047, sizes.2.2.2, mk2047, by decide⟩
    obtain ⟨M, w1, w2, w3⟩ := next
    refine wpAny_bind (larger (s := { s with heap := h1 }) hget1 ⟨hex.1, hex.2.1, hex.2.2⟩ rfl hrs (by omega) hdm (by rw [em]; omega) nod htp epl hld w1 w2 w3 fun h2 L3 es3 ep3 t3 sb3 Z3 pm3 => ?_)
    exact wpAny_pure (fin true h2 L3 es3 ep3 t3 (sb.trans sb3) Z3 (fun z => absurd z hm) fun _ => pm3.trans pm)
  · rw [decide_eq_false c] at full
    refine wp_if_neg (by simp [full]) ?_
    exact wpAny_pure (fin true h1 L1 es1 (ep + 1) t1 sb ⟨⟨_, hget1, ⟨hex.1, hex.2.1, hex.2.2⟩, rfl⟩, hrs, b2, nod, htp, epl, hld, by rw [n1, em]; omega⟩ (fun z => absurd z hm) fun _ => pm)
/-- the method add, given a tuple -/
theorem call_add (Z : Zt P w s.heap a L es ep t) (hx : IsT P w s.heap k x) (hu : A.in1.units < cLine) (hmany : L.length < 1200) {Q : Value → Shared → Prop}
    (fin : ∀ h' L' es' ep' t' n, Heap.SameBut a s.heap h' → Zt P w h' a L' es' ep' t' → (k ∈ L.map (·.2) → L' = L) → (k ∉ L.map (·.2) → L'.Perm ((x, k) :: L)) → Q .none { s with heap := h', toks := n }) :
    wpAny (model P w) A (call (.builtin "set.add") [.ref a, .ref x]) Q E s := by
  obtain ⟨o, hget, hex, hdat⟩ := Z.ob
  refine wpAny_call_entry F.slot_set_add ⟨o, hget, hex.1⟩ F.entry_set_add ?_ (F.args_set_add_2 _ _)
  unfold Builtin.«set.add» Builtin.Frozenset.oneOther
  simp only [List.isEmpty_nil, bind_assoc]
  unfold Builtin.Frozenset.addrOf setAdd
  refine wpAny_bind (wpAny_pure ?_)
  try dsimp only
  refine wpAny_bind (wpAny_pure ?_)
  try dsimp only
  refine wpAny_bind (wpAny_holding ?_)
  refine wpAny_bind (wpAny_pyHash_tuple hu hx ?_)
  refine added (s := { s with toks := s.toks + (k.length + 1) }) Z hx hu hmany fun b h' L' es' ep' t' sb Z' c1 c2 => ?_
  show wpAny _ _ (ret Value.none) _ _ _
  exact wpAny_pure ⟨_, rfl, fin h' L' es' ep' t' _ sb Z' c1 c2⟩
end
end Zs

namespace Zs
open PySem PySem.Spec PyProof.Rows L2
/-! ### sorted of a set whose members are known as data -/
theorem perm_map {α β : Type} {f : α → β} {l m : List β} (h : l.Perm m) : ∀ {L : List α}, m = L.map f → ∃ L' : List α, l = L'.map f ∧ L'.Perm L := by
  induction h with
  | nil =>
    intro L e
    cases L with
    | nil => exact ⟨[], rfl, .refl _⟩
    | cons y L => cases e
  | cons z _ ih =>
    intro L e
    cases L with
    | nil => cases e
    | cons y L =>
      rw [List.map_cons] at e
      injection e with e1 e2
      obtain ⟨L', rfl, p⟩ := ih e2
      exact ⟨y :: L', by rw [e1]; rfl, p.cons y⟩
  | swap y z l =>
    intro L e
    match L, e with
    | u :: v :: L, e =>
      rw [List.map_cons, List.map_cons] at e
      injection e with e1 e2
      injection e2 with e2 e3
      exact ⟨v :: u :: L, by rw [e1, e2, e3]; rfl, .swap _ _ _⟩
  | trans _ _ ih1 ih2 =>
    intro L e
    obtain ⟨L1, e1, p1⟩ := ih2 e
    obtain ⟨L2, e2, p2⟩ := ih1 e1
    exact ⟨L2, e2, p2.trans p1⟩
section
variable {P : Program} {w : World} {A : Around} {E : Value → Shared → Prop} {s : Shared}
/-- a set that can be walked: its members vs -/
def Wkb (w : World) (h : Heap) (a : Addr) (vs : List Value) : Prop := ∃ o es ep t, h.get? a = some o ∧ o.cls = .type "set" ∧ o.data = .set es ep t ∧ t.fits es.size = true ∧ es.size < scanBound ∧ Ris t.place.toList ∧
  (w.params.followText "set-order" = true ∨ t.led = true) ∧ es.toList.map (·.2) = vs
theorem Zt.wkb {a : Addr} {L : Mem} {es : Array (Int × Value)} {ep : Nat} {t : SetTable} (Z : Zt P w s.heap a L es ep t) : Wkb w s.heap a (L.map fun q => .ref q.1) := by
  obtain ⟨o, h1, h2, h3⟩ := Z.ob
  have hf := Z.few
  refine ⟨o, es, ep, t, h1, h2.1, h3, Z.fit, by rw [Z.num]; unfold scanBound; omega, Z.tb.up, Z.ld, ?_⟩
  rw [Z.rs]
  simp [rowsOf]
theorem sortedW {β : Type} {a : Addr} {L : List β} {f : β → Value} {enc : β → PyData} {Q : Value → Shared → Prop} (W : Wkb w s.heap a (L.map f)) (hh : A.handled = none) (hal : ∀ x y, PySem.W.alike (enc x) (enc y) = true)
    (hk : ∀ M : List β, M.Perm L → PySem.W.Sortable (M.map enc)) (hr : ∀ x ∈ L, ∀ h' : Heap, (∀ b o, s.heap.get? b = some o → h'.get? b = some o) → PySem.Reads h' (f x) (enc x) []) (hu : ∀ x ∈ L, A.units + 4 + (enc x).depth < cLine)
    (fin : ∀ s' p (out : Array Value) (c : Nat) (M : List β), (∀ b o, s.heap.get? b = some o → s'.heap.get? b = some o) → s'.gens = s.gens → s'.os = s.os → s.heap.objs.size ≤ p → s'.heap.get? p = some (seqObj "list" out c) →
      M.Perm L → out.toList = (M.mergeSort (PySem.W.dataLe false enc)).map f → Q (.ref p) s') : wpAny (model P w) A (call (.builtin "sorted") [.ref a]) Q E s := by
  obtain ⟨o, es, ep, t, hget, hcls, hdat, hfit, hsz, hris, hled, hvs⟩ := W
  refine Calls.call_function_entry kind_sorted plain_sorted entry_sorted (args_sorted1 _) ?_
  unfold Builtin.«sorted»
  refine wpAny_bind (m := checkCount "sorted" 1 1 _) (wpAny_pure ?_)
  refine wpAny_bind (collect_set (A := A.in1) hh ⟨o, hget, hcls, hdat⟩ hfit hsz hris hled fun s1 out0 keep hgrow hgen hos pm => ?_)
  rw [hvs] at pm
  obtain ⟨M, rfl, pM⟩ := perm_map pm rfl
  have hnum : M.length ≤ sizeLine := by
    have e := congrArg List.length hvs
    rw [List.length_map, List.length_map, Array.length_toList] at e
    rw [pM.length_eq, ← e]
    exact fits_of_scanBound hsz
  refine wpAny_bind (wpAny_newList ?_ (by rw [List.length_map]; exact hnum))
  have hnew : (s1.heap.push (seqObj "list" (M.map f).toArray 0)).get? s1.heap.objs.size = some (seqObj "list" (M.map f).toArray 0) := Heap.get?_push_size _ rfl
  have each : ∀ M' : List β, (∀ x ∈ M', x ∈ L) → PySem.W.EachIs (fun v x => v = f x) (M'.map f) M' ∧ PySem.W.EachIs (fun v x => ∃ as, PySem.Reads (s1.heap.push (seqObj "list" (M.map f).toArray 0)) v (enc x) as ∧ s1.heap.objs.size ∉ as) (M'.map f) M' := by
    intro M'
    induction M' with
    | nil => intro _; exact ⟨.nil, .nil⟩
    | cons x M' ih =>
      intro hx
      obtain ⟨i1, i2⟩ := ih fun y hy => hx y (List.mem_cons_of_mem _ hy)
      exact ⟨.cons rfl i1, .cons ⟨[], hr x (hx x List.mem_cons_self) _ (fun b u e => Heap.get?_push_of_some _ (keep b u e)), by simp⟩ i2⟩
  obtain ⟨ea, eb⟩ := each M fun x hx => pM.mem_iff.mp hx
  refine wpAny_bind (wpAny_holding (PySem.W.list_sort_data (s := { s1 with heap := s1.heap.push (seqObj "list" (M.map f).toArray 0) }) (enc := enc) (R := fun v x => v = f x) hnew ea eb (PySem.W.AllAlike.of hal) (hk M pM) hnum (fun x hx => ?_) fun out ho hout => ?_))
  · have := hu x (pM.mem_iff.mp hx)
    simp only [units_in1]
    omega
  have eout : out = (M.mergeSort (PySem.W.dataLe false enc)).map f := by
    generalize M.mergeSort (PySem.W.dataLe false enc) = N at hout
    clear ho
    induction hout with
    | nil => rfl
    | cons h1 _ ih => rw [List.map_cons, h1, ih]
  obtain ⟨c, hc⟩ := PyProof.Rows.sortedHeap_at (vs := M.map f) (out := out.toArray) hnew
  refine wpAny_pure ⟨_, rfl, fin _ s1.heap.objs.size out.toArray c M (fun b u e => ?_) hgen hos hgrow hc pM (by simpa using eout)⟩
  have e1 := keep b u e
  have hlt : b < s1.heap.objs.size := Heap.lt_size e1
  show (PyProof.Rows.sortedHeap (s1.heap.push (seqObj "list" (M.map f).toArray 0)) s1.heap.objs.size (M.map f) out.toArray).get? b = some u
  rw [PyProof.Rows.sortedHeap_old (Nat.ne_of_lt hlt) (by rw [size_push']; exact Nat.lt_succ_of_lt hlt)]
  exact Heap.get?_push_of_some _ e1
end
/-! ### the rules -/
def ZO (P : Program) (w : World) (a : Addr) (L : Mem) : HO := .ext fun h => ∃ es ep t, (∃ o, h.get? a = some o ∧ o.ExactSet ∧ o.data = .set es ep t) ∧ es.toList = rowsOf P w L ∧ Tb t (L.map fun q => thash P w q.2) ∧ (L.map (·.2)).Nodup ∧ t.plain = true ∧
  (w.params.followText "set-order" = true ∨ t.led = true) ∧ L.length * 5 < t.mask * 3
section
variable {X : Cx} {pins : List (Addr × Obj)} {σ : L2.St} {H : Hp} {s : Shared} {a : Addr} {L : Mem} {P : Program} {w : World}
theorem zo_new {h : Heap} {es : Array (Int × Value)} {ep : Nat} {t : SetTable} (Z : Zt P w h a L es ep t) : ObjOk P w H h a (ZO P w a L) := by
  obtain ⟨o, h1, h2⟩ := Z.ob
  refine ⟨⟨es, ep, t, ⟨o, h1, h2⟩, Z.rs, Z.tb, Z.nd, Z.pl, Z.ld, Z.rm⟩, ⟨o, h1⟩, fun g1 g2 q keep => ?_⟩
  obtain ⟨es', ep', t', ⟨o', k1, k2⟩, r⟩ := q
  exact ⟨es', ep', t', ⟨o', keep o' k1, k2⟩, r⟩
theorem zo_get (I : Inv X pins σ H s) (ha : H a = some (ZO X.prog X.w a L)) (ht : ∀ q ∈ L, SqT X.K H q.1 (q.2.map V.int)) : ∃ es ep t, Zt X.prog X.w s.heap a L es ep t := by
  have R := (I.hok a _ ha).1
  obtain ⟨es, ep, t, h1, h2, h3, h4, h5, h6, h7⟩ := (show ∃ es ep t, (∃ o, s.heap.get? a = some o ∧ o.ExactSet ∧ o.data = .set es ep t) ∧ es.toList = rowsOf X.prog X.w L ∧ Tb t (L.map fun q => thash X.prog X.w q.2) ∧ (L.map (·.2)).Nodup ∧ t.plain = true ∧ (X.w.params.followText "set-order" = true ∨ t.led = true) ∧ L.length * 5 < t.mask * 3 from R)
  exact ⟨es, ep, t, h1, h2, h3, h4, fun q hq => I.isT (ht q hq), h5, h6, h7⟩
/-- set() -/
def rZ0 (P : Program) (w : World) : List V → Hp → VK → Prop := fun vs H Q => vs = [] ∧ ∀ p, H p = none → Q (.ref p) (upd H p (ZO P w p []))
theorem cr_Z0 : CallR X (.type "set") (rZ0 X.prog X.w) := by
  intro pins s σ H vs us Q I r h
  obtain ⟨e, q⟩ := h
  subst e
  cases r
  refine setR_new fun _ => ?_
  have hn : H s.heap.objs.size = none := I.hok.fresh (Nat.le_refl _)
  have hld : X.w.params.followText "set-order" = true ∨ (SetTable.fresh 0 0 (!X.w.params.followText "set-order")).led = true := by
    show _ ∨ (!X.w.params.followText "set-order") = true
    cases X.w.params.followText "set-order" <;> simp
  have Z : Zt X.prog X.w (s.heap.push { cls := .type "set", dict := none, data := .set #[] 0 (.fresh 0 0 (!X.w.params.followText "set-order")) }) s.heap.objs.size [] #[] 0 (.fresh 0 0 (!X.w.params.followText "set-order")) :=
    ⟨⟨_, Heap.get?_push_size _ rfl, ⟨rfl, rfl, rfl⟩, rfl⟩, rfl, ⟨List.Pairwise.nil, rfl, rfl, mk7, fun x hx => (by cases hx), fun i z j hi => (by simp at hi)⟩, List.nodup_nil, fun q hq => (by cases hq), rfl, hld, by show 0 * 5 < 7 * 3; decide⟩
  exact ⟨.ref s.heap.objs.size, _, I.laid (t' := s.toks) (fun b u e => Heap.get?_push_of_some _ e) (Nat.le_refl _) (zo_new Z), rfl, q _ hn⟩
/-- found.add(t), t a tuple of ints -/
def rZAdd (K : PySem.W.Frag) (P : Program) (w : World) : V → List V → Hp → VK → Prop := fun x vs H Q => ∃ (a p : Addr) (k : List Int) (L : Mem), x = .ref a ∧ vs = [.ref p] ∧ H a = some (ZO P w a L) ∧ SqT K H p (k.map V.int) ∧ (∀ q ∈ L, SqT K H q.1 (q.2.map V.int)) ∧ L.length < 1200 ∧
  ∀ L', (k ∈ L.map (·.2) → L' = L) → (k ∉ L.map (·.2) → L'.Perm ((p, k) :: L)) → Q .non (upd H a (ZO P w a L'))
theorem mt_zadd (hu : X.A.units + 64 < cLine) : MtR X "set.add" (rZAdd X.K X.prog X.w) := by
  intro pins s σ H x vs v us Q I rx rvs h
  obtain ⟨a, p, k, L, rfl, rfl, ha, hp, ht, hmany, q⟩ := h
  cases rx
  obtain ⟨u, rfl, ru⟩ := rvs.one
  cases ru
  obtain ⟨es, ep, t, Z⟩ := zo_get I ha ht
  refine call_add Z (I.isT hp) (by simp only [units_in1]; omega) hmany fun h' L' es' ep' t' n sb Z' c1 c2 => ?_
  obtain ⟨o', ho', _⟩ := Z'.ob
  exact ⟨.non, upd H a (ZO X.prog X.w a L'), I.write (e := a) (t' := n) (by rw [ha]; trivial) (.inl rfl) (fun b u hb hu' => (sb.2 b hb).trans hu') ⟨o', ho'⟩ (zo_new Z'), rfl, q L' c1 c2⟩
def tZAdd (K : PySem.W.Frag) (P : Program) (w : World) (to : TE) (t : TA) : TE := fun σ H Q => to σ H fun x H1 => (∃ a L, x = V.ref a ∧ H1 a = some (ZO P w a L) ∧ ∀ q ∈ L, SqT K H1 q.1 (q.2.map V.int)) ∧ t σ H1 fun vs H2 => rZAdd K P w x vs H2 Q
theorem pe_zadd {o e : Expr} {es : List Expr} {to : TE} {t : TA} {apos cpos : Pos} (hu : X.A.units + 64 < cLine) (ho : PE X o to) (ha : PA X (e :: es) t) (h1 : attributeBase o "add" X.env (eval o X.env) = eval o X.env := by rfl)
    (h2 : ((backTo cpos (starEach (e :: es) X.env)).all (fun x => !x.1) && (backToKw cpos (keywordEach [] X.env)).all (fun x => x.1.isSome) && decide ((e :: es).length + ([] : List Keyword).length + (if ([] : List Keyword).isEmpty then 0 else 1) < 30)) = true := by rfl)
    (h3 : (apos.endLine == cpos.line) = true := by rfl) (h4 : starEach (e :: es) X.env = (false, eval e X.env) :: starEach es X.env := by rfl) (h5 : (backTo cpos (starEach es X.env)).any (·.1) = false := by rfl) :
    PE X (.Call (.Attribute o "add" apos) (e :: es) [] cpos) (tZAdd X.K X.prog X.w to t) := by
  refine ⟨fun pins s σ H Q I h => wpAny_Call_method_late h1 h2 h3 rfl (thn (ho.run pins s σ H _ I h) fun v st ⟨x, H1, I1, rx, tyx, rest⟩ => ?_)⟩
  obtain ⟨a, L, rfl, hz, ht⟩ := tyx
  cases rx
  obtain ⟨es0, ep, tt, Z⟩ := zo_get I1 hz ht
  obtain ⟨ob, hob, hex, _⟩ := Z.ob
  refine ⟨"set", "set.add", F.plainAttrs_set, F.slot_set_add, F.type_set_add, ⟨ob, hob, hex.1⟩, (fun b hb => ?_), ?_⟩
  · cases hb
    exact ⟨ob, hob, hex.2.1⟩
  have args := ha.run cpos pins st σ H1 _ I1 rest
  rw [h4] at args ⊢
  refine Calls.callWith_builtin (by show (false || (backTo cpos (starEach es X.env)).any (·.1)) = false; rw [h5]; rfl) (Calls.evalArgs_plain (thn args fun us s2 ⟨vs, H2, I2, r2, q2⟩ => ?_))
  exact mt_zadd hu pins s2 σ H2 (.ref a) vs (.ref a) us Q I2 rfl r2 q2
/-- sorted(found), the members tuples of ints, none of them empty -/
def intsD (k : List Int) : PyData := .tuple (k.map .int)
theorem ints_alike (k l : List Int) : PySem.W.alike (intsD k) (intsD l) = true := by
  show PySem.W.alikeAll _ _ = true
  exact PySem.W.alike_ints k l
theorem ints_depth (k : List Int) : (intsD k).depth = 1 := by
  simp [intsD, PyData.depth, PySem.W.depth_ints]
theorem reads_ints {h : Heap} : ∀ {k : List Int} {vs : List Value}, ItemsAre (intKind P w) k vs → PySem.ReadsAll h vs (k.map .int) []
  | [], _, .nil => .nil
  | n :: k, _, .cons r t => by
    obtain ⟨tk, e⟩ := Value.isInt_shape r
    subst e
    exact .cons (as := []) (bs := []) (.int n tk) (reads_ints t)
theorem isT_reads {h h' : Heap} {k : List Int} {b : Addr} (x : IsT P w h k b) (keep : ∀ c o, h.get? c = some o → h'.get? c = some o) : PySem.Reads h' (.ref b) (intsD k) [] := by
  obtain ⟨o, items, n, h1, h2, h3, h4⟩ := x
  exact .tuple (keep _ _ h1) h2 h3 (reads_ints h4)
def rZSort (K : PySem.W.Frag) (P : Program) (w : World) : List V → Hp → VK → Prop := fun vs H Q => ∃ (a : Addr) (L : Mem), vs = [.ref a] ∧ H a = some (ZO P w a L) ∧ (∀ q ∈ L, SqT K H q.1 (q.2.map V.int)) ∧ (∀ q ∈ L, q.2 ≠ []) ∧
  ∀ (M : Mem) (p : Addr), M.Perm L → (M.map (·.2)).Nodup → H p = none → Q (.ref p) (upd H p (.lst ((M.mergeSort (PySem.W.dataLe false fun q => intsD q.2)).map fun q => V.ref q.1)))
theorem refsM : ∀ M : Mem, Vals (M.map fun q => V.ref q.1) (M.map fun q => Value.ref q.1)
  | [] => .nil
  | _ :: M => .cons rfl (refsM M)
theorem cr_ZSort (hc : X.calm = true) (hu : X.A.units + 64 < cLine) : CallR X (.builtin "sorted") (rZSort X.K X.prog X.w) := by
  intro pins s σ H vs us Q I r h
  obtain ⟨a, L, rfl, ha, ht, hne, q⟩ := h
  obtain ⟨es, ep, t, Z⟩ := zo_get I ha ht
  obtain ⟨u, rfl, ru⟩ := vals1 r
  obtain rfl : u = Value.ref a := ru
  refine sortedW (enc := fun q => intsD q.2) Z.wkb (I.ok.hd hc) (fun x y => ints_alike _ _) (fun M pm => .inl fun d hd => ?_) (fun x hx h' keep => isT_reads (Z.tp x hx) keep) (fun x _ => by rw [ints_depth]; omega) fun s' p out c M keep hgen hos hp hget pm hout => ?_
  · obtain ⟨x, hx, rfl⟩ := List.mem_map.mp hd
    cases e : x.2 with
    | nil => exact absurd e (hne x (pm.mem_iff.mp hx))
    | cons n k => exact ⟨.int n, k.map .int, rfl⟩
  have hn : H p = none := I.hok.fresh hp
  have len : ((M.mergeSort (PySem.W.dataLe false fun q => intsD q.2)).map fun q => V.ref q.1).length ≤ sizeLine := by
    rw [List.length_map, List.length_mergeSort, pm.length_eq]
    have := Z.few
    exact Nat.le_trans (by omega : _ ≤ 2000) (by decide)
  have vals : Vals ((M.mergeSort (PySem.W.dataLe false fun q => intsD q.2)).map fun q => V.ref q.1) out.toList := by
    rw [hout]
    exact refsM _
  have J : Inv X pins σ (upd H p (.lst ((M.mergeSort (PySem.W.dataLe false fun q => intsD q.2)).map fun q => V.ref q.1))) { s with heap := s'.heap, gens := s'.gens, drawn := s'.drawn, toks := s'.toks } :=
    I.call (ch := []) (Un.laid keep hp hn) (I.hok.laid keep hp ⟨len, out.toList, c, vals, hget⟩) (by rw [hgen]; exact I.bare) fun _ z => nomatch z
  have same : s' = { s with heap := s'.heap, gens := s'.gens, drawn := s'.drawn, toks := s'.toks } := by
    cases s'
    cases hos
    rfl
  rw [same]
  exact ⟨.ref p, _, J, rfl, q M p pm ((pm.map (·.2)).nodup_iff.mpr Z.nd) hn⟩
end
end Zs

namespace L2
open PySem PySem.Spec PyProof.Rows
section
variable {X : Cx} {pins : List (Addr × Obj)} {σ : St} {H : Hp} {s : Shared} {a b : Addr} {r : Value} {d : V} {k : List Key} {A : Around} {E : Value → Shared → Prop}
/-- setdefault, the key a tuple -/
theorem d_setdT {kvs : List (List Key × V)} {Q : Value → Shared → Prop} (hu : A.units + 1 < cLine) (I : Inv X pins σ H s) (e : H a = some (.dT kvs)) (eb : H b = some (.tup (k.map kV))) (rd : RelV d r) (hl : kvs.length < sizeLine)
    (h1 : ∀ v, valV kvs k = some v → ∀ (w' : Value) (s' : Shared), Inv X pins σ H s' → RelV v w' → Q w' s') (h2 : valV kvs k = none → ∀ (w' : Value) (s' : Shared), Inv X pins σ (upd H a (.dT (putK kvs k d))) s' → RelV d w' → Q w' s') :
    wpAny (model X.prog X.w) A (call (.builtin "dict.setdefault") [.ref a, .ref b, r]) Q E s := by
  obtain ⟨z, hd, xs, rel, dd⟩ := dt_of I.hok e
  have hz : xs.length ≤ sizeLine := by rw [← Paired.length rel]; exact z
  refine call_setdefault_heap (hsz := hz) (tupleKind_room_in1 hu) (key_of I.hok eb) hd dd (fun p hp => ?_) fun hn h' dd' hs => ?_
  · have q := rel.val k
    rw [hp] at q
    cases q0 : valV kvs k with
    | none =>
      rw [q0] at q
      exact (show False from q).elim
    | some v0 =>
      rw [q0] at q
      exact h1 v0 q0 _ _ (I.tok _) q
  · have q := rel.val k
    rw [hn] at q
    cases q0 : valV kvs k with
    | some v0 =>
      rw [q0] at q
      exact (show False from q).elim
    | none =>
      have hl2 : (putK kvs k d).length ≤ sizeLine := by
        have := length_putK kvs k d
        omega
      obtain ⟨o, es, ep, hq, g2, g3, g4, _, g5⟩ := dd'
      refine h2 q0 _ _ (d_write (t' := s.toks + (tupleKind (mixKind X.prog X.w)).draws k) I (by rw [e]; exact True.intro) hs ⟨o, hq⟩ ⟨hl2, hd, _, (rel.put k eb rd).keeps fun c ys ec => ?_, o, es, ep, hq, g2, g3, g4, g5⟩) rd
      rw [upd_ne (ne_of ec e (fun z => nomatch z))]
      exact ec
end
/-- d.setdefault(t, z), t a tuple -/
def tSetT (td ty tx : TE) : TE := fun σ H Q => td σ H fun x H1 => ∃ a, x = .ref a ∧ IsD H1 a ∧ ty σ H1 fun y H2 => tx σ H2 fun z H3 => ∃ (kvs : List (List Key × V)) (k : List Key) (b : Addr), H3 a = some (.dT kvs) ∧ y = .ref b ∧ H3 b = some (.tup (k.map kV)) ∧ kvs.length < sizeLine ∧
  (∀ v, valV kvs k = some v → Q v H3) ∧ (valV kvs k = none → Q z (upd H3 a (.dT (putK kvs k z))))
section
variable {X : Cx} {o e f : Expr} {td ty tx : TE} {apos cpos : Pos} {σ : St} {H : Hp} {Q : VK}
theorem pe_setT (hu : X.A.units + 64 < cLine) (ho : PE X o td) (he : PE X e ty) (hf : PE X f tx) (m : M2 X o "setdefault" apos e f cpos) : PE X (.Call (.Attribute o "setdefault" apos) [e, f] [] cpos) (tSetT td ty tx) := by
  refine ⟨fun pins s σ H Q I h => ?_⟩
  refine wpAny_Call_method m.base m.few m.line PySem.F.plainAttrs_dict PySem.F.slot_dict_setdefault PySem.F.type_dict_setdefault (thn (ho.run pins s σ H _ I h) fun u s1 ⟨x, H1, I1, rx, a, ex, d, q1⟩ => ?_)
  subst ex
  obtain rfl : u = Value.ref a := rx
  obtain ⟨t1, t2, _⟩ := isD_at I1 d
  refine ⟨t1, t2, ?_⟩
  rw [m.trees]
  refine Calls.callWith_builtin rfl (Calls.evalArgs_plain (Calls.spliced_cons (thn (he.run pins s1 σ H1 _ I1 q1) fun iv s2 ⟨y, H2, I2, ry, q2⟩ =>
    Calls.spliced_cons (thn (hf.run pins s2 σ H2 _ I2 q2) fun fv s3 ⟨z, H3, I3, rz, kvs, k, b, ea, ey, eb, hl, q3, q4⟩ => Calls.spliced_nil ?_))))
  subst ey
  obtain rfl : iv = Value.ref b := ry
  exact d_setdT (by first | omega | (simp only [units_in1]; omega)) I3 ea eb rz hl (fun v hv w' s4 I4 rw' => ⟨v, _, I4, rw', q3 v hv⟩) fun hn w' s4 I4 rw' => ⟨z, _, I4, rw', q4 hn⟩
theorem x_setT (q : td σ H fun x H1 => ∃ a, x = .ref a ∧ IsD H1 a ∧ ty σ H1 fun y H2 => tx σ H2 fun z H3 => ∃ (kvs : List (List Key × V)) (k : List Key) (b : Addr), H3 a = some (.dT kvs) ∧ y = .ref b ∧ H3 b = some (.tup (k.map kV)) ∧ kvs.length < sizeLine ∧
  (∀ v, valV kvs k = some v → Q v H3) ∧ (valV kvs k = none → Q z (upd H3 a (.dT (putK kvs k z))))) : tSetT td ty tx σ H Q := q
theorem x_dget2 (q : td σ H fun x H1 => ∃ a, x = .ref a ∧ IsD H1 a ∧ ty σ H1 fun y H2 => tx σ H2 fun z H3 => ∃ o, DGet H3 a y o ∧ Q (o.getD z) H3) : tDGet2 td ty tx σ H Q := q
theorem x_dnewT (q : ∀ p, H p = none → Q (.ref p) (upd H p (.dT []))) : tDNewT σ H Q := q
end
end L2
namespace Sr
open PySem PySem.Spec PyProof.Rows L2
/-! ### lists under keys that are tuples -/
abbrev NP := Nat × Nat
def npV (q : NP) : List V := [.int (q.1 : Nat), .int (q.2 : Nat)]
def wkey (k : Nat) (z : List Nat) : List Key := [.inl (k : Int), .inr (S z)]
theorem S_inj' {a b : List Nat} (h : S a = S b) : a = b := by
  have : (S a).cps.toList = (S b).cps.toList := by rw [h]
  simpa [S] using this
theorem wkey_inj {k k' : Nat} {z z' : List Nat} (h : wkey k z = wkey k' z') : k = k' ∧ z = z' := by
  unfold wkey at h
  simp only [List.cons.injEq, Sum.inl.injEq, Sum.inr.injEq, and_true] at h
  exact ⟨by omega, S_inj' h.2⟩
structure PLs (H0 H : Hp) (D : Addr) (kvs : List (List Key × V)) (f : Nat → List Nat → List NP) : Prop where
  n : H0 D = none
  d : H D = some (.dT kvs)
  no : ∀ k z, valV kvs (wkey k z) = none → f k z = []
  yes : ∀ k z v, valV kvs (wkey k z) = some v → ∃ b as, v = .ref b ∧ H0 b = none ∧ H b = some (.lst (as.map V.ref)) ∧ Tup npV H as (f k z)
  inj : ∀ k z k' z' b, valV kvs (wkey k z) = some (.ref b) → valV kvs (wkey k' z') = some (.ref b) → k = k' ∧ z = z'
section
variable {H0 H H' : Hp} {D : Addr} {kvs : List (List Key × V)} {f : Nat → List Nat → List NP}
theorem PLs.same (p : PLs H0 H D kvs f) (e : Same H H') : PLs H0 H' D kvs f :=
  ⟨p.n, e _ _ p.d, p.no, fun k z v h => (by
    obtain ⟨b, as, h1, h2, h3, h4⟩ := p.yes k z v h
    exact ⟨b, as, h1, h2, e _ _ h3, h4.same e⟩), p.inj⟩
theorem PLs.start (hn : H0 D = none) (hd : H D = some (.dT [])) : PLs H0 H D [] (fun _ _ => []) :=
  ⟨hn, hd, fun _ _ _ => rfl, fun k z v h => (nomatch h), fun k z k' z' b h => (nomatch h)⟩
/-- a list more -/
theorem PLs.put {k : Nat} {z : List Nat} {E : Addr} (p : PLs H0 H D kvs f) (hn : valV kvs (wkey k z) = none) (hE0 : H0 E = none) (hE : H E = some (.lst [])) (hf : ∀ k z v, valV kvs (wkey k z) = some v → v ≠ .ref E) : PLs H0 (upd H D (.dT (putK kvs (wkey k z) (.ref E)))) D (putK kvs (wkey k z) (.ref E)) f := by
  have hED : E ≠ D := fun e => by
    have := p.d
    rw [← e, hE] at this
    cases this
  refine ⟨p.n, upd_same, fun k1 z1 h => ?_, fun k1 z1 v h => ?_, fun k1 z1 k2 z2 b h h' => ?_⟩
  · rw [valV_put] at h
    split at h
    · cases h
    · exact p.no _ _ h
  · rw [valV_put] at h
    split at h
    · rename_i e
      obtain ⟨rfl, rfl⟩ := wkey_inj e
      obtain rfl := Option.some.inj h
      refine ⟨E, [], rfl, hE0, (upd_ne hED).trans hE, ?_⟩
      rw [p.no _ _ hn]
      exact Tup.nil
    · obtain ⟨b, as, h1, h2, h3, h4⟩ := p.yes _ _ _ h
      have hbD : b ≠ D := fun e => by
        have := p.d
        rw [← e, h3] at this
        cases this
      refine ⟨b, as, h1, h2, (upd_ne hbD).trans h3, ⟨h4.1, fun j t q g1 g2 => ?_⟩⟩
      have g3 := h4.2 j t q g1 g2
      rw [upd_ne (fun e => by
        have := p.d
        rw [← e, g3] at this
        cases this)]
      exact g3
  · rw [valV_put] at h h'
    split at h
    · rename_i e
      split at h'
      · rename_i e'
        obtain ⟨rfl, rfl⟩ := wkey_inj e
        obtain ⟨rfl, rfl⟩ := wkey_inj e'
        exact ⟨rfl, rfl⟩
      · exact absurd (Option.some.inj h).symm (hf _ _ _ h')
    · split at h'
      · exact absurd (Option.some.inj h').symm (hf _ _ _ h)
      · exact p.inj _ _ _ _ _ h h'
/-- a pair more in one list -/
theorem PLs.app {k : Nat} {z : List Nat} {b t : Addr} {as : List Addr} {q : NP} {f' : Nat → List Nat → List NP} (p : PLs H0 H D kvs f) (hv : valV kvs (wkey k z) = some (.ref b)) (hb : H b = some (.lst (as.map V.ref))) (hT : Tup npV H as (f k z)) (ht : H t = some (.tup (npV q)))
    (e1 : f' k z = f k z ++ [q]) (e2 : ∀ k1 z1, ¬ (k1 = k ∧ z1 = z) → f' k1 z1 = f k1 z1) : PLs H0 (upd H b (.lst ((as ++ [t]).map V.ref))) D kvs f' := by
  have hDb : D ≠ b := fun e => by
    have := p.d
    rw [e, hb] at this
    cases this
  refine ⟨p.n, (upd_ne hDb).trans p.d, fun k1 z1 h => ?_, fun k1 z1 v h => ?_, p.inj⟩
  · rw [e2 k1 z1 (fun e => by rw [e.1, e.2, hv] at h; cases h)]
    exact p.no _ _ h
  · by_cases e : k1 = k ∧ z1 = z
    · obtain ⟨rfl, rfl⟩ := e
      rw [hv] at h
      obtain rfl := Option.some.inj h
      obtain ⟨b', as', h1, h2, h3, h4⟩ := p.yes _ _ _ hv
      obtain rfl : b = b' := by cases h1; rfl
      refine ⟨b, as ++ [t], rfl, h2, upd_same, ?_⟩
      rw [e1]
      refine Tup.snoc (Tup.updL hT hb) ?_
      rw [upd_ne (ne_of ht hb (by intro x; cases x))]
      exact ht
    · obtain ⟨b', as', h1, h2, h3, h4⟩ := p.yes _ _ _ h
      have hbb : b' ≠ b := fun x => by
        rw [h1, x] at h
        exact e (p.inj _ _ _ _ _ h hv)
      refine ⟨b', as', h1, h2, (upd_ne hbb).trans h3, ?_⟩
      rw [e2 _ _ e]
      exact Tup.updL h4 hb
end
/-! ### what lies under a seed's signs -/
def selW (W : List Win) (k : Nat) (z : List Nat) : List NP := (W.filter fun w => decide (w.k = k) && decide (w.z = z)).map fun w => (w.n, w.p)
theorem selW_nil (k : Nat) (z : List Nat) : selW [] k z = [] := rfl
theorem selW_yes (W : List Win) (w : Win) : selW (W ++ [w]) w.k w.z = selW W w.k w.z ++ [(w.n, w.p)] := by
  unfold selW
  rw [List.filter_append, List.map_append]
  simp
theorem selW_no (W : List Win) (w : Win) {k : Nat} {z : List Nat} (h : ¬ (k = w.k ∧ z = w.z)) : selW (W ++ [w]) k z = selW W k z := by
  unfold selW
  rw [List.filter_append, List.map_append]
  have : ([w].filter fun w => decide (w.k = k) && decide (w.z = z)) = [] := by
    rw [List.filter_cons_of_neg, List.filter_nil]
    intro e
    rw [Bool.and_eq_true, decide_eq_true_eq, decide_eq_true_eq] at e
    exact h ⟨e.1.symm, e.2.symm⟩
  rw [this]
  simp
theorem selW_mem {W : List Win} {k : Nat} {z : List Nat} {q : NP} : q ∈ selW W k z ↔ ∃ w ∈ W, w.k = k ∧ w.z = z ∧ q = (w.n, w.p) := by
  unfold selW
  rw [List.mem_map]
  constructor
  · rintro ⟨w, hw, rfl⟩
    obtain ⟨h1, h2⟩ := List.mem_filter.mp hw
    rw [Bool.and_eq_true, decide_eq_true_eq, decide_eq_true_eq] at h2
    exact ⟨w, h1, h2.1, h2.2, rfl⟩
  · rintro ⟨w, h1, h2, h3, rfl⟩
    exact ⟨w, List.mem_filter.mpr ⟨h1, by rw [decide_eq_true h2, decide_eq_true h3]; rfl⟩, rfl⟩
theorem winsUp_iff {sds rows : List (List Nat)} {w : Win} : w ∈ winsUp sds rows ↔ ∃ sd r, sds[w.k]? = some sd ∧ rows[w.n]? = some r ∧ w.p + sd.length ≤ r.length ∧ w.z = pickW sd r w.p := by
  have e : w ∈ winsUp sds rows ↔ w ∈ wins sds rows := (List.mergeSort_perm _ _).mem_iff
  rw [e]
  unfold wins winsS winsR winsP
  rw [List.mem_flatMap]
  constructor
  · rintro ⟨k, hk, h2⟩
    obtain ⟨n, hn, h3⟩ := List.mem_flatMap.mp h2
    obtain ⟨p, hp, rfl⟩ := List.mem_map.mp h3
    have hk' := List.mem_range.mp hk
    have hn' := List.mem_range.mp hn
    have hp' := List.mem_range.mp hp
    refine ⟨sds[k], rows[n], List.getElem?_eq_getElem hk', List.getElem?_eq_getElem hn', ?_, ?_⟩
    · rw [List.getElem?_eq_getElem hk', List.getElem?_eq_getElem hn'] at hp'
      unfold plcs at hp'
      simp only [Option.getD_some] at hp'
      show p + _ ≤ _
      omega
    · show pickW (sds[k]?.getD []) (rows[n]?.getD []) p = _
      rw [List.getElem?_eq_getElem hk', List.getElem?_eq_getElem hn']
      rfl
  · rintro ⟨sd, r, h1, h2, h3, h4⟩
    refine ⟨w.k, List.mem_range.mpr (List.getElem?_eq_some_iff.mp h1).1, List.mem_flatMap.mpr ⟨w.n, List.mem_range.mpr (List.getElem?_eq_some_iff.mp h2).1, List.mem_map.mpr ⟨w.p, List.mem_range.mpr ?_, ?_⟩⟩⟩
    · rw [h1, h2]
      unfold plcs
      simp only [Option.getD_some]
      omega
    · rw [h1, h2]
      obtain ⟨k, z, n, p⟩ := w
      show Win.mk k _ n p = _
      simp only [Option.getD_some]
      congr 1
      exact h4.symm
/-- a lane on which a seed fits -/
def SdL (sds rows : List (List Nat)) (o : List Nat) (n : Nat) (d : Int) : Prop := ∃ (k p b : Nat) (sd r : List Nat), sds[k]? = some sd ∧ rows[n]? = some r ∧ p + sd.length ≤ r.length ∧ b + sd.length ≤ o.length ∧ pickW sd r p = pickW sd o b ∧ d = (p : Int) - (b : Int)
theorem SdL.rng {sds rows : List (List Nat)} {o : List Nat} {n : Nat} {d : Int} (h : SdL sds rows o n d) (hr : ∀ z ∈ rows, z.length ≤ 60) (ho : o.length ≤ 60) : n < rows.length ∧ -60 ≤ d ∧ d ≤ 60 := by
  obtain ⟨k, p, b, sd, r, h1, h2, h3, h4, h5, rfl⟩ := h
  have := hr r (List.mem_of_getElem? h2)
  exact ⟨(List.getElem?_eq_some_iff.mp h2).1, by omega, by omega⟩
end Sr
namespace Sr
open PySem PySem.Spec PyProof.Rows L2 Zs
/-! ### the set of lanes -/
def lnK (q : Nat × Int) : List Int := [(q.1 : Nat), q.2]
def lnV (q : Nat × Int) : List V := [.int (q.1 : Nat), .int q.2]
theorem lnK_inj {q r : Nat × Int} (h : lnK q = lnK r) : q = r := by
  obtain ⟨a, b⟩ := q
  obtain ⟨c, d⟩ := r
  unfold lnK at h
  simp only [List.cons.injEq, and_true] at h
  rw [h.2, show a = c by omega]
structure Zl (H : Hp) (L : Mem) (Y : List (Nat × Int)) : Prop where
  nd : (L.map (·.2)).Nodup
  mem : ∀ x, x ∈ L.map (·.2) ↔ ∃ y ∈ Y, x = lnK y
  tp : ∀ q ∈ L, H q.1 = some (.tup (q.2.map V.int))
theorem Zl.nil {H : Hp} : Zl H [] [] := ⟨List.nodup_nil, fun x => by simp, fun q h => by cases h⟩
theorem Zl.add {H H' : Hp} {L L' : Mem} {Y : List (Nat × Int)} {p : Addr} {y : Nat × Int} (h : Zl H L Y) (keep : ∀ b xs, H b = some (.tup xs) → H' b = some (.tup xs)) (hp : H' p = some (.tup ((lnK y).map V.int))) (c1 : lnK y ∈ L.map (·.2) → L' = L) (c2 : lnK y ∉ L.map (·.2) → L'.Perm ((p, lnK y) :: L)) : Zl H' L' (Y ++ [y]) := by
  have mm : ∀ x, (∃ z ∈ Y ++ [y], x = lnK z) ↔ (∃ z ∈ Y, x = lnK z) ∨ x = lnK y := fun x => by
    constructor
    · rintro ⟨z, hz, e⟩
      rcases List.mem_append.mp hz with g | g
      · exact .inl ⟨z, g, e⟩
      · rw [List.mem_singleton.mp g] at e
        exact .inr e
    · rintro (⟨z, hz, e⟩ | e)
      · exact ⟨z, List.mem_append.mpr (.inl hz), e⟩
      · exact ⟨y, by simp, e⟩
  by_cases hk : lnK y ∈ L.map (·.2)
  · rw [c1 hk]
    refine ⟨h.nd, fun x => ?_, fun q hq => keep _ _ (h.tp q hq)⟩
    rw [mm, h.mem]
    constructor
    · exact .inl
    · rintro (g | g)
      · exact g
      · rw [g]; exact (h.mem _).mp hk
  · have pm := c2 hk
    have pk : (L'.map (·.2)).Perm (lnK y :: L.map (·.2)) := pm.map (·.2)
    refine ⟨pk.nodup_iff.mpr (List.nodup_cons.mpr ⟨hk, h.nd⟩), fun x => ?_, fun q hq => ?_⟩
    · rw [mm, pk.mem_iff, List.mem_cons, h.mem]
      exact or_comm
    · rcases List.mem_cons.mp (pm.mem_iff.mp hq) with e | e
      · rw [e]; exact hp
      · exact keep _ _ (h.tp q e)
theorem Zl.keep {H H' : Hp} {L : Mem} {Y : List (Nat × Int)} (h : Zl H L Y) (keep : ∀ b xs, H b = some (.tup xs) → H' b = some (.tup xs)) : Zl H' L Y := ⟨h.nd, h.mem, fun q hq => keep _ _ (h.tp q hq)⟩
theorem Zl.num {H : Hp} {L : Mem} {Y : List (Nat × Int)} (h : Zl H L Y) (r : ∀ y ∈ Y, y.1 < 8 ∧ -60 ≤ y.2 ∧ y.2 ≤ 60) : L.length ≤ 968 := by
  let cd : List Int → Nat := fun x => (x[0]?.getD 0).toNat * 121 + ((x[1]?.getD 0) + 60).toNat
  have nod : ((L.map (·.2)).map cd).Nodup := by
    refine List.pairwise_map.mpr (List.Pairwise.imp_of_mem (fun {x x'} hx hx' ne e => ne ?_) h.nd)
    obtain ⟨⟨a, b⟩, hy, rfl⟩ := (h.mem x).mp hx
    obtain ⟨⟨a', b'⟩, hy', rfl⟩ := (h.mem x').mp hx'
    have r1 := r _ hy
    have r2 := r _ hy'
    have e' : (a : Int).toNat * 121 + (b + 60).toNat = (a' : Int).toNat * 121 + (b' + 60).toNat := e
    dsimp only at r1 r2
    rw [show a = a' by omega, show b = b' by omega]
  have le := nat_nodup_len ((L.map (·.2)).map cd) (List.range 968) nod fun v hv => by
    obtain ⟨x, hx, rfl⟩ := List.mem_map.mp hv
    obtain ⟨⟨a, b⟩, hy, rfl⟩ := (h.mem x).mp hx
    have r1 := r _ hy
    dsimp only at r1
    have e' : cd (lnK (a, b)) = (a : Int).toNat * 121 + (b + 60).toNat := rfl
    rw [e', List.mem_range]
    omega
  rw [List.length_map, List.length_map, List.length_range] at le
  exact le
def LnLt (x y : Nat × Int) : Prop := x.1 < y.1 ∨ (x.1 = y.1 ∧ x.2 < y.2)
theorem map_of_all {α β : Type} {f : α → β} : ∀ {l : List β}, (∀ x ∈ l, ∃ y, x = f y) → ∃ l' : List α, l = l'.map f
  | [], _ => ⟨[], rfl⟩
  | x :: l, h => by
    obtain ⟨y, rfl⟩ := h x List.mem_cons_self
    obtain ⟨l', e⟩ := map_of_all (l := l) fun z hz => h z (List.mem_cons_of_mem _ hz)
    exact ⟨y :: l', by rw [e]; rfl⟩
/-- what sorted gives of them -/
theorem Zl.up {H : Hp} {L M : Mem} {Y : List (Nat × Int)} (h : Zl H L Y) (pm : M.Perm L) : ∃ LN : List (Nat × Int), Tup lnV H ((M.mergeSort (PySem.W.dataLe false fun q => intsD q.2)).map (·.1)) LN ∧ LN.Pairwise LnLt ∧ ∀ y, y ∈ LN ↔ y ∈ Y := by
  have el : (PySem.W.dataLe false fun q : Addr × List Int => intsD q.2) = fun p q => !decide (q.2 < p.2) := dataLe_ints (fun q : Addr × List Int => q.2)
  have pw := List.pairwise_mergeSort (dataLe_trans fun q : Addr × List Int => intsD q.2) (dataLe_total fun q : Addr × List Int => intsD q.2) M
  have pN : (M.mergeSort (PySem.W.dataLe false fun q : Addr × List Int => intsD q.2)).Perm L := (List.mergeSort_perm _ _).trans pm
  generalize M.mergeSort (PySem.W.dataLe false fun q : Addr × List Int => intsD q.2) = N at pw pN
  rw [el] at pw
  have pk : (N.map (·.2)).Perm (L.map (·.2)) := pN.map (·.2)
  have nd : (N.map (·.2)).Nodup := pk.nodup_iff.mpr h.nd
  have mem : ∀ x, x ∈ N.map (·.2) ↔ ∃ y ∈ Y, x = lnK y := fun x => by rw [pk.mem_iff, h.mem]
  obtain ⟨LN, eL⟩ := map_of_all (f := lnK) (l := N.map (·.2)) fun x hx => by
    obtain ⟨y, _, e⟩ := (mem x).mp hx
    exact ⟨y, e⟩
  have pw2 : (N.map (·.2)).Pairwise (fun x y => ¬ y < x) := by
    rw [List.pairwise_map]
    refine pw.imp fun {p q} e => ?_
    intro e'
    have e : (!decide (q.2 < p.2)) = true := e
    rw [decide_eq_true e'] at e
    cases e
  refine ⟨LN, ⟨?_, fun j a y h1 h2 => ?_⟩, ?_, fun y => ?_⟩
  · have := congrArg List.length eL
    rw [List.length_map, List.length_map] at this
    rw [List.length_map]
    exact this
  · rw [List.getElem?_map] at h1
    cases e : N[j]? with
    | none => rw [e] at h1; cases h1
    | some q =>
      rw [e] at h1
      obtain rfl : q.1 = a := Option.some.inj h1
      have e2 : (N.map (·.2))[j]? = some q.2 := by rw [List.getElem?_map, e]; rfl
      rw [eL, List.getElem?_map, h2] at e2
      have e3 : lnK y = q.2 := Option.some.inj e2
      have := h.tp q (pN.mem_iff.mp (List.mem_of_getElem? e))
      rw [← e3] at this
      exact this
  · rw [eL] at nd pw2
    have nd2 : LN.Pairwise (fun x y => lnK x ≠ lnK y) := List.pairwise_map.mp nd
    refine (List.Pairwise.and nd2 (List.pairwise_map.mp pw2)).imp fun {x y} e => ?_
    obtain ⟨e1, e2⟩ := e
    obtain ⟨a, b⟩ := x
    obtain ⟨c, d⟩ := y
    unfold lnK at e1 e2
    rw [List.cons_lt_cons_iff, List.cons_lt_cons_iff] at e2
    show a < c ∨ (a = c ∧ b < d)
    by_cases h1 : a < c
    · exact .inl h1
    · right
      have h2 : a = c := by
        by_cases h3 : c < a
        · exact absurd (.inl (by show ((c : Nat) : Int) < ((a : Nat) : Int); omega)) e2
        · omega
      subst h2
      refine ⟨rfl, ?_⟩
      by_cases h3 : d < b
      · exact absurd (.inr ⟨rfl, .inl h3⟩) e2
      · have h4 : b ≠ d := fun e => e1 (by rw [e])
        omega
  · constructor
    · intro hy
      have : lnK y ∈ N.map (·.2) := by rw [eL]; exact List.mem_map.mpr ⟨y, hy, rfl⟩
      obtain ⟨y', hy', e⟩ := (mem _).mp this
      rw [lnK_inj e]
      exact hy'
    · intro hy
      have : lnK y ∈ N.map (·.2) := (mem _).mpr ⟨y, hy, rfl⟩
      rw [eL] at this
      obtain ⟨y', hy', e⟩ := List.mem_map.mp this
      rw [← lnK_inj e]
      exact hy'
end Sr
namespace Sr
open PySem PySem.Spec PyProof.Rows L2 Zs
/-- .. and the pair laid -/
theorem PLs.more {H0 H : Hp} {D b t : Addr} {as : List Addr} {kvs : List (List Key × V)} {W : List Win} {w : Win} (p : PLs H0 H D kvs (selW W)) (sm : Same H0 H) (hv : valV kvs (wkey w.k w.z) = some (.ref b)) (hb : H b = some (.lst (as.map V.ref))) (hT : Tup npV H as (selW W w.k w.z)) (ht : H t = none) :
    Same H0 (upd (upd H t (.tup (npV (w.n, w.p)))) b (.lst ((as ++ [t]).map V.ref))) ∧ PLs H0 (upd (upd H t (.tup (npV (w.n, w.p)))) b (.lst ((as ++ [t]).map V.ref))) D kvs (selW (W ++ [w])) := by
  have s1 : Same H (upd H t (.tup (npV (w.n, w.p)))) := same_upd ht
  obtain ⟨b', as', e, h0, _, _⟩ := p.yes _ _ _ hv
  obtain rfl : b = b' := by cases e; rfl
  refine ⟨(sm.trans s1).putN h0, (p.same s1).app hv (s1 _ _ hb) (hT.same s1) upd_same (selW_yes W w) fun k1 z1 h => selW_no W w h⟩
theorem nmem_pl {H0 H : Hp} {D E : Addr} {kvs : List (List Key × V)} {f : Nat → List Nat → List NP} (p : PLs H0 H D kvs f) (hE : H E = none) : ∀ k z v, valV kvs (wkey k z) = some v → v ≠ .ref E := fun k z v h e => by
  obtain ⟨b, as, h1, _, h3, _⟩ := p.yes k z v h
  rw [h1] at e
  cases e
  rw [hE] at h3
  cases h3
end Sr
namespace L2
open PySem PySem.Spec PyProof.Rows Zs
theorem x_zadd {K : PySem.W.Frag} {P : Program} {w : World} {to : TE} {t : TA} {σ : L2.St} {H : Hp} {Q : VK} (q : to σ H fun x H1 => (∃ a L, x = V.ref a ∧ H1 a = some (ZO P w a L) ∧ ∀ q ∈ L, SqT K H1 q.1 (q.2.map V.int)) ∧ t σ H1 fun vs H2 => rZAdd K P w x vs H2 Q) : tZAdd K P w to t σ H Q := q
end L2
namespace Sr
open PySem PySem.Spec PyProof.Rows L2 Zs
theorem same_none {H H' : Hp} {b : Addr} (sm : Same H H') (h : H' b = none) : H b = none := by
  cases e : H b with
  | none => rfl
  | some o => rw [sm b o e] at h; cases h
theorem erase {H0 H1 H2 : Hp} {D : Addr} {o : HO} (hD : H0 D = none) (e1 : H1 = upd H0 D o) (sm : Same H1 H2) : ∃ Hb : Hp, Hb D = none ∧ Same H0 Hb ∧ Same Hb H2 ∧ ∀ b o, b ≠ D → H2 b = some o → Hb b = some o := by
  refine ⟨fun b => if b = D then none else H2 b, if_pos rfl, fun b o' e => ?_, fun b o' e => ?_, fun b o' nb e => ?_⟩
  · have nb : b ≠ D := fun z => by rw [z, hD] at e; cases e
    show (if b = D then none else H2 b) = _
    rw [if_neg nb]
    refine sm _ _ ?_
    rw [e1, upd_ne nb]
    exact e
  · have e : (if b = D then none else H2 b) = some o' := e
    split at e
    · cases e
    · exact e
  · show (if b = D then none else H2 b) = _
    rw [if_neg nb]
    exact e
def lnA (W : List Win) (ws : List W3) : List (Nat × Int) := ws.flatMap fun q => (selW W q.1 q.2.1).map fun r => (r.1, (r.2 : Int) - (q.2.2 : Nat))
theorem wo_iff {sds : List (List Nat)} {o : List Nat} {q : W3} : q ∈ wo o sds sds.length ↔ ∃ sd, sds[q.1]? = some sd ∧ q.2.2 + sd.length ≤ o.length ∧ q.2.1 = pickW sd o q.2.2 := by
  unfold wo woK
  rw [List.mem_flatMap]
  constructor
  · rintro ⟨k, hk, h2⟩
    obtain ⟨p, hp, rfl⟩ := List.mem_map.mp h2
    have hk' := List.mem_range.mp hk
    have hp' := List.mem_range.mp hp
    refine ⟨sds[k], List.getElem?_eq_getElem hk', ?_, ?_⟩
    · rw [List.getElem?_eq_getElem hk'] at hp'
      unfold plcs at hp'
      simp only [Option.getD_some] at hp'
      show p + _ ≤ _
      omega
    · show pickW (sds[k]?.getD []) o p = _
      rw [List.getElem?_eq_getElem hk']
      rfl
  · rintro ⟨sd, h1, h3, h4⟩
    refine ⟨q.1, List.mem_range.mpr (List.getElem?_eq_some_iff.mp h1).1, List.mem_map.mpr ⟨q.2.2, List.mem_range.mpr ?_, ?_⟩⟩
    · rw [h1]
      unfold plcs
      simp only [Option.getD_some]
      omega
    · rw [h1]
      obtain ⟨k, z, p⟩ := q
      show ((k, _, p) : W3) = _
      simp only [Option.getD_some]
      rw [← h4]
theorem lnA_iff {sds rows : List (List Nat)} {o : List Nat} (n : Nat) (d : Int) : (n, d) ∈ lnA (winsUp sds rows) (wo o sds sds.length) ↔ SdL sds rows o n d := by
  unfold lnA SdL
  rw [List.mem_flatMap]
  constructor
  · rintro ⟨q, hq, h⟩
    obtain ⟨r, hr, e⟩ := List.mem_map.mp h
    obtain ⟨w, hw, h1, h2, rfl⟩ := selW_mem.mp hr
    obtain ⟨sd, row, g1, g2, g3, g4⟩ := winsUp_iff.mp hw
    obtain ⟨sd', f1, f2, f3⟩ := wo_iff.mp hq
    rw [← h1, g1] at f1
    obtain rfl := Option.some.inj f1
    have e1 : w.n = n := congrArg Prod.fst e
    have e2 : (w.p : Int) - (q.2.2 : Nat) = d := congrArg Prod.snd e
    exact ⟨w.k, w.p, q.2.2, sd, row, g1, by rw [← e1]; exact g2, g3, f2, by rw [← g4, h2, f3], e2.symm⟩
  · rintro ⟨k, p, b, sd, r, h1, h2, h3, h4, h5, rfl⟩
    exact ⟨(k, pickW sd o b, b), wo_iff.mpr ⟨sd, h1, h4, rfl⟩, List.mem_map.mpr ⟨(n, p), selW_mem.mpr ⟨⟨k, pickW sd o b, n, p⟩, winsUp_iff.mpr ⟨sd, r, h1, h2, h3, h5.symm⟩, rfl, rfl, rfl⟩, rfl⟩⟩
end Sr

namespace Sr
open PySem PySem.Spec PyProof.Rows L2 Zs
/-! ### where a stretch is worth more than the bar a seed fits -/
theorem fm_congr {α β : Type} {f g : α → Option β} : ∀ {l : List α}, (∀ x ∈ l, f x = g x) → l.filterMap f = l.filterMap g
  | [], _ => rfl
  | x :: l, h => by
    rw [List.filterMap_cons, List.filterMap_cons, h x List.mem_cons_self, fm_congr fun y hy => h y (List.mem_cons_of_mem _ hy)]
theorem pick_same {sd r o : List Nat} {p b : Nat} (h : ∀ i, i < sd.length → sd[i]? = some 35 → r[p + i]? = o[b + i]?) : pickW sd r p = pickW sd o b := by
  unfold pickW pickN
  refine fm_congr fun i hi => ?_
  have hi' := List.mem_range.mp hi
  by_cases e : sd[i]? = some 35
  · rw [if_pos e, if_pos e, h i hi' e]
  · rw [if_neg e, if_neg e]
theorem seeded_lane {sds rows : List (List Nat)} {g l told w : Int} {z o r : List Nat} {d : Int} {n : Nat} (h1 : Ones sds) (bar : IsBar sds g l w z) (hw : w < told) (hn : rows[n]? = some r) {q : Tri} (hq : q ∈ rchL g l told o r d) : SdL sds rows o n d := by
  obtain ⟨b, e, rfl, hbe, hel, ht⟩ := rchL_in hq
  have hc := wor_cut g l (likL o r d) (Nat.le_of_lt hbe)
  generalize hx : ((likL o r d).drop b).take (e - b) = x at hc
  have xl : x.length = e - b := by
    rw [← hx, List.length_take, List.length_drop]
    omega
  have xg : ∀ i, i < e - b → x[i]? = (likL o r d)[b + i]? := fun i hi => by
    rw [← hx, List.getElem?_take, if_pos hi, List.getElem?_drop]
  have hlk : Lk x := fun c hm => likL_Lk o r d c (by
    rw [← hx] at hm
    exact List.mem_of_mem_drop (List.mem_of_mem_take hm))
  have hnf : ¬ Free sds x := fun hf => by
    have := bar.max x hlk hf
    omega
  rw [free_iff h1] at hnf
  simp only [Classical.not_forall, not_exists] at hnf
  obtain ⟨sd, hsd, p, hp, hno⟩ := hnf
  obtain ⟨k, hk⟩ := List.mem_iff_getElem?.mp hsd
  have s1 := h1 sd hsd
  have hlen := likL_len o r d
  have e1 : sd.length ≤ e - b := by omega
  have hB : bgn d + (b + p) + sd.length ≤ o.length ∧ 0 ≤ ((bgn d + (b + p) : Nat) : Int) + d ∧ ((bgn d + (b + p) : Nat) : Int) + d + sd.length ≤ r.length := by
    unfold lkn bgn at hlen
    unfold bgn
    omega
  refine ⟨k, (((bgn d + (b + p) : Nat) : Int) + d).toNat, bgn d + (b + p), sd, r, hk, hn, by omega, by omega, pick_same fun i hi e35 => ?_, by omega⟩
  have hn47 := hno i
  have hil : b + (p + i) < (likL o r d).length := by omega
  have hc2 : x[p + i]? = some (lk1 o r d (bgn d + (b + (p + i)))) := by
    rw [xg (p + i) (by omega), likL_eq, List.getElem?_map, List.getElem?_range (by rw [← likL_len]; exact hil)]
    rfl
  have h47 : lk1 o r d (bgn d + (b + (p + i))) ≠ 47 := fun e => hn47 ⟨hi, e35, by rw [hc2, e]⟩
  unfold lk1 at h47
  split at h47
  · rename_i eq
    have a1 : (((bgn d + (b + p) : Nat) : Int) + d).toNat + i = (((bgn d + (b + (p + i)) : Nat) : Int) + d).toNat := by omega
    have a2 : bgn d + (b + p) + i = bgn d + (b + (p + i)) := by omega
    rw [a1, a2, eq]
  · exact absurd rfl h47
/-! ### what a search tells -/
abbrev Fnd := Nat × Tri × Int
def FLt (x y : Fnd) : Prop := x.1 < y.1 ∨ (x.1 = y.1 ∧ TLt x.2.1 y.2.1)
theorem FLt.asym : ∀ x y : Fnd, FLt x y → ¬ FLt y x := fun x y h h' => by
  unfold FLt TLt at h h'
  omega
theorem FLt.up {x y : Fnd} (h : FLt x y) : (!decide (fndI y < fndI x)) = true := by
  rw [Bool.not_eq_true', decide_eq_false_iff_not]
  intro e
  unfold fndI at e
  rw [List.cons_lt_cons_iff, List.cons_lt_cons_iff, List.cons_lt_cons_iff] at e
  unfold FLt TLt at h
  omega
theorem dueR_up {g l told : Int} {o r : List Nat} {n : Nat} {M : List Tri} (h : M.Pairwise TLt) : (dueR g l told o n r M).Pairwise FLt := by
  unfold dueR
  rw [List.pairwise_map]
  exact h.imp fun {x y} e => .inr ⟨rfl, e⟩
theorem dueR_fst {g l told : Int} {o r : List Nat} {n : Nat} {M : List Tri} {x : Fnd} (h : x ∈ dueR g l told o n r M) : x.1 = n := by
  unfold dueR at h
  obtain ⟨p, _, rfl⟩ := List.mem_map.mp h
  rfl
theorem dueM_up (g l told : Int) (o : List Nat) (rows : List (List Nat)) (m : Nat) : (dueM g l told o rows m).Pairwise FLt := by
  unfold dueM
  rw [List.pairwise_flatMap]
  refine ⟨fun n _ => dueR_up (by unfold rchA; exact (rchN_lt g l told o _ _ _).1), List.pairwise_lt_range.imp fun {a b} hab x hx y hy => .inl ?_⟩
  rw [dueR_fst hx, dueR_fst hy]
  exact hab
theorem dueUp_eq (g l told : Int) (o : List Nat) (rows : List (List Nat)) : dueUp g l told o rows = dueM g l told o rows rows.length := by
  unfold dueUp
  exact List.mergeSort_of_pairwise ((dueM_up g l told o rows rows.length).imp fun {x y} h => h.up)
noncomputable def flL (g l told : Int) (o : List Nat) (rows : List (List Nat)) (LN : List (Nat × Int)) : List Fnd := LN.flatMap fun q => (lrL g l told o (rows[q.1]?.getD []) q.2).map fun t => (q.1, (q.2, t.1, t.2.1), t.2.2)
theorem lr_due (g l told : Int) (o r : List Nat) (n : Nat) (d : Int) : ((lrL g l told o r d).map fun t => ((n, (d, t.1, t.2.1), t.2.2) : Fnd)) = dueR g l told o n r (rchL g l told o r d) := by
  unfold lrL lrP dueR rchL
  rw [List.map_map, List.map_map]
  refine List.map_congr_left fun p _ => ?_
  show (n, (d, _, _), _) = (n, (d, _, _), fndW g l o r (d, ((bgn d + p.1 : Nat) : Int), ((bgn d + p.2 : Nat) : Int)))
  rw [fndW_eq]
theorem flL_due {sds rows : List (List Nat)} {g l told w : Int} {z o : List Nat} {LN : List (Nat × Int)} (h1 : Ones sds) (bar : IsBar sds g l w z) (hw : w < told) (hup : LN.Pairwise LnLt) (hin : ∀ n d, (n, d) ∈ LN ↔ SdL sds rows o n d) : flL g l told o rows LN = dueUp g l told o rows := by
  rw [dueUp_eq]
  have e : flL g l told o rows LN = LN.flatMap fun q => dueR g l told o q.1 (rows[q.1]?.getD []) (rchL g l told o (rows[q.1]?.getD []) q.2) := by
    unfold flL
    congr 1
    funext q
    exact lr_due _ _ _ _ _ _ _
  rw [e]
  refine same_up FLt.asym ?_ (dueM_up g l told o rows rows.length) fun x => ?_
  · rw [List.pairwise_flatMap]
    refine ⟨fun q _ => dueR_up (rchL_lt g l told o _ _), hup.imp fun {a b} hab x hx y hy => ?_⟩
    unfold dueR at hx hy
    obtain ⟨p, hp, rfl⟩ := List.mem_map.mp hx
    obtain ⟨p', hp', rfl⟩ := List.mem_map.mp hy
    have d1 := rchL_mem hp
    have d2 := rchL_mem hp'
    rcases hab with h | ⟨h, h'⟩
    · exact .inl h
    · exact .inr ⟨h, .inl (by show p.1 < p'.1; rw [d1, d2]; exact h')⟩
  · unfold dueM dueR
    rw [List.mem_flatMap, List.mem_flatMap]
    constructor
    · rintro ⟨q, hq, hx⟩
      obtain ⟨p, hp, rfl⟩ := List.mem_map.mp hx
      obtain ⟨k, pp, b, sd, r, _, g2, _, _, _, _⟩ := (hin q.1 q.2).mp hq
      refine ⟨q.1, List.mem_range.mpr (List.getElem?_eq_some_iff.mp g2).1, List.mem_map.mpr ⟨p, ?_, rfl⟩⟩
      generalize rows[q.1]?.getD [] = row at hp ⊢
      unfold rchA
      obtain ⟨b', e', _, h2, h3, _⟩ := rchL_in hp
      have hl := likL_len o row q.2
      refine rchN_mem.mpr ⟨(q.2 - (1 - (o.length : Int))).toNat, ?_, ?_⟩
      · unfold lkn bgn at hl
        unfold nsh
        omega
      · have e5 : 1 - (o.length : Int) + (((q.2 - (1 - (o.length : Int))).toNat : Nat) : Int) = q.2 := by
          unfold lkn bgn at hl
          omega
        rw [e5]
        exact hp
    · rintro ⟨n, hn, hx⟩
      obtain ⟨p, hp, rfl⟩ := List.mem_map.mp hx
      have hn' := List.mem_range.mp hn
      have en : rows[n]? = some rows[n] := List.getElem?_eq_getElem hn'
      unfold rchA at hp
      obtain ⟨k, _, hp2⟩ := rchN_mem.mp hp
      refine ⟨(n, 1 - (o.length : Int) + (k : Int)), (hin _ _).mpr ?_, List.mem_map.mpr ⟨p, hp2, rfl⟩⟩
      rw [en] at hp2
      exact seeded_lane h1 bar hw en hp2
theorem flL_len {g l told : Int} {o : List Nat} {rows : List (List Nat)} (ho : o.length ≤ 60) : ∀ LN : List (Nat × Int), (flL g l told o rows LN).length ≤ 60 * LN.length
  | [] => Nat.le_refl _
  | q :: LN => by
    have h := flL_len (g := g) (l := l) (told := told) (rows := rows) ho LN
    unfold flL at h ⊢
    rw [List.flatMap_cons, List.length_append, List.length_map, List.length_cons]
    have := lrL_len g l told o (rows[q.1]?.getD []) q.2
    omega
theorem LN_len {sds rows : List (List Nat)} {o : List Nat} {LN : List (Nat × Int)} (hup : LN.Pairwise LnLt) (hin : ∀ n d, (n, d) ∈ LN ↔ SdL sds rows o n d) (hr : ∀ z ∈ rows, z.length ≤ 60) (ho : o.length ≤ 60) (hn : rows.length ≤ 8) : LN.length ≤ 968 := by
  let cd : Nat × Int → Nat := fun x => x.1 * 121 + (x.2 + 60).toNat
  have rg : ∀ x ∈ LN, x.1 < 8 ∧ -60 ≤ x.2 ∧ x.2 ≤ 60 := fun x hx => by
    have := ((hin x.1 x.2).mp hx).rng hr ho
    exact ⟨by omega, this.2⟩
  have nod : (LN.map cd).Nodup := by
    refine List.pairwise_map.mpr (List.Pairwise.imp_of_mem (fun {x y} hx hy h => ?_) hup)
    have r1 := rg x hx
    have r2 := rg y hy
    show x.1 * 121 + (x.2 + 60).toNat ≠ y.1 * 121 + (y.2 + 60).toNat
    unfold LnLt at h
    omega
  have le := nat_nodup_len (LN.map cd) (List.range 968) nod fun v hv => by
    obtain ⟨x, hx, rfl⟩ := List.mem_map.mp hv
    have r1 := rg x hx
    show x.1 * 121 + (x.2 + 60).toNat ∈ _
    rw [List.mem_range]
    omega
  rw [List.length_map, List.length_range] at le
  exact le
end Sr

namespace L2
open PySem PySem.Spec PyProof.Rows
/-! ### an own exception under ValueError whose __init__ says super().__init__(text), then self.bar = bar -/
/-- more objects, none of which is told -/
theorem Inv.moreObjs {X : Cx} {pins : List (Addr × Obj)} {σ : St} {H : Hp} {h h' : Heap} {g : Array GenState} {d : Drawn} {t t' : Nat} {os : OsState} (I : Inv X pins σ H ⟨h, g, d, t, os⟩) (k : ∀ b o, h.get? b = some o → h'.get? b = some o) : Inv X pins σ H ⟨h', g, d, t', os⟩ :=
  I.un (t' := t') (Un.kept k) (I.hok.kept k)
section
variable {prog : Program} {w : World} {A : Around} {E : Value → Shared → Prop} {h : Heap} {g : Array GenState} {d : Drawn} {t : Nat} {os : OsState}
/-- the bound ValueError.__init__ called: only the exception's own fields change -/
theorem call_veWrap {nm q : Str} {C N u e t0 : Addr} {bs bm sub : List Value} {sn : List Str} {hdct ab : Bool} {col : Option Bool} {dd : Option Addr} {k0 k1 k2 k3 k5 : Option Value} {rest : List Value} {Q : Value → Shared → Prop}
    (hC : h.get? C = some (excClassObj nm q C N bs bm hdct sn sub ab col dd k0 k1 k2 k3 k5 "ValueError.__new__")) (he : h.get? e = some (PySem.W.excObj C t0 none .none)) (hu : h.get? u = some (PySem.W.kxs_mw "ValueError.__init__" e)) (hrest : rest.length ≤ sizeLine)
    (fin : ∀ h', (∀ b o, b ≠ e → h.get? b = some o → h'.get? b = some o) → h'.get? e = some (PySem.W.excObj C h.objs.size none .none) → Q .none ⟨h', g, d, t, os⟩) :
    wpAny (model prog w) A (call (.ref u) rest) Q E ⟨h, g, d, t, os⟩ := by
  have FV := F.excBase_ValueError
  refine wpAny_call (codeAny_of_tree ?_)
  show wpAny (model prog w) A.in1 (callAny (.ref u) ⟨rest, []⟩) _ _ _
  simp only [callAny]
  refine wpAny_bind (wpAny_load hu ?_)
  simp only [PySem.W.kxs_mw, show (Value.type "method-wrapper" == Value.type "method" || Value.type "method-wrapper" == Value.type "builtin_function_or_method" || Value.type "method-wrapper" == Value.type "method-wrapper") = true from by decide, if_true]
  refine PySem.W.KFB.if_so (by decide) ?_
  refine wpAny_bind (PySem.W.check_bound_init FV.toExcCallFacts hC he rfl ?_)
  refine wpAny_bind (wpAny_pure (wpAny_pure ⟨plainId_quiet FV.init.plain _, codeAny_builtin FV.initEntry ?_⟩))
  rw [Around.under_plainId FV.init.plain _]
  exact PySem.W.exc_init_tree (cls := .ref C) (t0 := t0) (dv := none) (c2 := .none) (c3 := .none) (b4 := .bool false) he hrest fun h' k1 k2 _ => fin h' k1 k2
end
/-- what TooLow's own words are -/
structure TlF (K : PySem.W.Frag) (mg : Str → Option Value) (C fI cc cda : Addr) (sc : Scope) (file : Str) : Prop where
  sup : mg "super" = none
  thp : PySem.W.nsIn K cStatics "thirdparty.any" = some none
  cell : ∃ cl cld csl, K.lookup cc = some ⟨cl, cld, .cell (some (.ref C)), csl⟩
  code : ∃ ccl cdd vs ccs tf, K.lookup cda = some ⟨ccl, cdd, .fields vs, ccs⟩ ∧ vs[2]? = some (.str file tf)
  along : PySem.W.ks_superIn K C C "__init__" = some (some (.builtin "ValueError.__init__"))
  subV : PySem.W.subIn K (.ref C) (.type "ValueError") = some true
  bar : PySem.W.findIn K (.ref C) "bar" = some none
  mro : PySem.W.mroIn K C (.ref C) = some true
structure TlS (P : Program) (sc : Scope) (file : Str) : Prop where
  kind : sc.kind = .function
  co : sc.isCoroutine = false
  gen : sc.isGenerator = false
  nocell : ∀ x ∈ sc.names, x.2 ≠ .cell
  self : sc.names.lookup ("self" : Str) = some .local
  bar : sc.names.lookup ("bar" : Str) = some .local
  sup : sc.names.lookup ("super" : Str) = some .globalImplicit
  cls : sc.names.lookup ("__class__" : Str) = some .free
  file : (P.main.file == file) = true
  top : (P.main.scope.names.lookup ("super" : Str)).isSome = false
def spTL (C : Addr) : Sp := fun vs H Q _ => ∃ a lp : Addr, vs = [.ref a, .ref lp] ∧ H a = some (exo a C none) ∧ ∀ dx, H dx = none → dx ≠ a → Q .non (upd (upd H dx (exd dx [("bar", .ref lp)])) a (exo a C (some dx)))
/-- two plain names -/
def scTL (sc : Scope) : Scope := { sc with names := [("self", .local), ("bar", .local)] }
theorem scTL_ok {sc : Scope} (h : sc.kind = .function) (h2 : sc.isCoroutine = false) (h3 : sc.isGenerator = false) : FnScope ["self", "bar"] ["self", "bar"] (scTL sc) := ⟨h, h2, h3, by decide, rfl, by
  intro x hx
  left
  simp only [List.mem_cons, List.not_mem_nil, or_false] at hx
  rcases hx with rfl | rfl <;> rfl, by
  intro y hy
  simp only [scTL, List.mem_cons, List.not_mem_nil, or_false] at hy
  rcases hy with rfl | rfl <;> decide⟩
section
variable {P : Program} {w : World} {K : PySem.W.Frag} {mg : Str → Option Value} {base : Heap} {C fI cc cda : Addr} {sc : Scope} {file m0 : Str} {params : Arguments} {body : List Stmt} {kV doc pm ct oc : Value} {an od : Option Addr} {osl : Array (Option Value)} {j : Nat} {p0 p1 p2 p3 p4 p5 p6 p7 p8 p9 : Pos}
theorem okTL (T : OexC K C) (W : TlF K mg C fI cc cda sc file) (Z : TlS P sc file)
    (lk : K.lookup fI = some ⟨oc, od, .func (PySem.W.fnX "__init__" "TooLow.__init__" params body sc [("__class__", cc)] .none kV doc pm an (.ref cda) ct), osl⟩) (hcd : PySem.W.codeIn K (.ref cda) "TooLow.__init__" = true) (hpar : ∃ ar, (params.posonlyargs ++ params.args).head? = some ar ∧ ar.arg = "self")
    (hbd : body = [.Expr (.Call (.Attribute (.Call (.Name "super" p0) [] [] p1) "__init__" p2) [.Constant (.str m0) j p3] [] p4) p5, .Assign [.Attribute (.Name "self" p6) "bar" p7] (.Name "bar" p8) p9]) {pl : Sem Bool}
    (he : ∀ L : Addr, eval (.Call (.Attribute (.Call (.Name "super" p0) [] [] p1) "__init__" p2) [.Constant (.str m0) j p3] [] p4) (callEnv (PySem.W.fnX "__init__" "TooLow.__init__" params body sc [("__class__", cc)] .none kV doc pm an (.ref cda) ct) L fI) = (do
      let ov ← attributeBase (.Call (.Name "super" p0) [] [] p1) "__init__" (callEnv (PySem.W.fnX "__init__" "TooLow.__init__" params body sc [("__class__", cc)] .none kV doc pm an (.ref cda) ct) L fI) (eval (.Call (.Name "super" p0) [] [] p1) (callEnv (PySem.W.fnX "__init__" "TooLow.__init__" params body sc [("__class__", cc)] .none kV doc pm an (.ref cda) ct) L fI))
      standAt p2.atName
      let (f, first) ← holding [ov] (getMethod ov "__init__" pl)
      callWith p4 f first (backTo p4 (starEach [.Constant (.str m0) j p3] (callEnv (PySem.W.fnX "__init__" "TooLow.__init__" params body sc [("__class__", cc)] .none kV doc pm an (.ref cda) ct) L fI))) [])) :
    FnOk P w K mg base CX0 1 fI (PySem.W.fnX "__init__" "TooLow.__init__" params body sc [("__class__", cc)] .none kV doc pm an (.ref cda) ct) ["self", "bar"] (spTL C) := by
  subst hbd
  obtain ⟨kd, nm, ig, ic, mo⟩ := sc
  obtain rfl : kd = .function := Z.kind
  obtain rfl : ic = false := Z.co
  obtain rfl : ig = false := Z.gen
  refine ⟨fun vs H Q E h => ?_, fun A outer s H args us vs Q E hr e0 hb r hsp => ?_⟩
  · obtain ⟨a, lp, rfl, _⟩ := h
    rfl
  obtain ⟨a, lp, rfl, ha, hq⟩ := hsp
  obtain ⟨u1, u2, rfl, r1, r2⟩ := vals2 r
  obtain rfl : u1 = Value.ref a := r1
  obtain rfl : u2 = Value.ref lp := r2
  have KX : K.In s.heap := e0.mod.kin.keeps fun b o e => (e0.bs b o e).1
  have lim : s.heap.NoLimit := e0.mod.nolimit.keeps fun b o e => (e0.bs b o e).1
  refine PySem.ks_codeAny_call_defAt (binds := [("self", .ref a), ("bar", .ref lp)]) hr.depth (KX _ _ lk) rfl lim (PySem.W.codeRec_of KX hcd) rfl hb Z.nocell (fun x hx => ?_) (fun h₀ hns hk => ?_) rfl rfl rfl
  · simp only [List.mem_cons, List.not_mem_nil, or_false] at hx
    rcases hx with rfl | rfl
    · exact Z.self
    · exact Z.bar
  have hna : a ≠ s.heap.objs.size := fun z => by
    obtain ⟨t1, ho⟩ := exo_at e0.hok ha
    exact absurd (Heap.lt_size ho) (by rw [z]; exact Nat.lt_irrefl _)
  -- the frame, as a frame of two plain names
  have xC : InCallC s s.heap.objs.size (bindL (envOfC "TooLow.__init__" (scTL ⟨.function, nm, false, false, mo⟩) s.heap.objs.size fI (.ref cda)).kindOf ((["self", "bar"] : List Str).zip [Value.ref a, Value.ref lp]) fun _ => none) (cellsFrom (s.heap.objs.size + 1) (scTL ⟨.function, nm, false, false, mo⟩).names []) (bindC (envOfC "TooLow.__init__" (scTL ⟨.function, nm, false, false, mo⟩) s.heap.objs.size fI (.ref cda)).kindOf ((["self", "bar"] : List Str).zip [Value.ref a, Value.ref lp]) fun _ => none) { s with heap := h₀, toks := s.toks + ([("self", Value.ref a), ("bar", Value.ref lp)] : List (Str × Value)).length } := by
    refine ⟨⟨⟨h₀, _, rfl⟩, ?_, hk, Nat.le_refl _⟩, fun n c hc => ?_, ?_, fun n c hc => ?_⟩
    · have e : (bindL (envOfC "TooLow.__init__" (scTL ⟨.function, nm, false, false, mo⟩) s.heap.objs.size fI (.ref cda)).kindOf ((["self", "bar"] : List Str).zip [Value.ref a, Value.ref lp]) fun _ => none) = fun x => ([("self", Value.ref a), ("bar", Value.ref lp)] : List (Str × Value)).reverse.lookup x := by
        funext x
        show (if x = ("bar" : Str) then some (Value.ref lp) else if x = ("self" : Str) then some (Value.ref a) else none) = ([(("bar" : Str), Value.ref lp), (("self" : Str), Value.ref a)] : List (Str × Value)).lookup x
        simp only [List.lookup]
        by_cases h1 : x = ("bar" : Str)
        · rw [if_pos h1, h1]
          rfl
        · rw [if_neg h1, show (x == ("bar" : Str)) = false from by simpa using h1]
          by_cases h2 : x = ("self" : Str)
          · rw [if_pos h2, h2]
            rfl
          · rw [if_neg h2, show (x == ("self" : Str)) = false from by simpa using h2]
      rw [e]
      exact hns
    · exact absurd hc (by show ([] : List (Str × Addr)).lookup n ≠ some c; simp)
    · exact List.Pairwise.nil
    · exact absurd hc (by show (n, c) ∉ ([] : List (Str × Addr)); simp)
  have I0 := inv_start (CX := CX0) (N := ["self", "bar"]) (vs := [.ref a, .ref lp]) (E := E) (scTL_ok rfl rfl rfl) hr.hd e0 rfl (.cons rfl (.cons rfl .nil)) xC
  clear xC
  have fin : ∀ {s' : Shared} {σ' : St} {H' : Hp}, Inv (cxOf CX0 P w K mg base ["self", "bar"] "TooLow.__init__" (scTL ⟨.function, nm, false, false, mo⟩) fI (.ref cda) A outer s H E) [] σ' H' s' → Q .non H' → CE outer P w H s Q .none s' := fun J q => ⟨.non, _, J.os, J.bare, J.base, J.hok, rfl, q⟩
  obtain ⟨ar, har, harn⟩ := hpar
  obtain ⟨ccl, cdd, cvs, ccs, tf, hcc, hcv⟩ := W.code
  obtain ⟨cl, cld, csl, hcell⟩ := W.cell
  refine PySem.ks_wpAt_execs_cons (PySem.ks_wpAt_Expr_any (PySem.ks_wpAt_MethodCall ?_ (he _)))
  refine PySem.ks_wpAt_super_base (s := { s with heap := h₀, toks := s.toks + 2 }) (ar := ar) Z.sup Z.cls rfl rfl (hk _ _ (KX _ _ lk)) rfl har rfl (hk _ _ (KX _ _ hcc)) rfl hcv Z.file Z.top ?_
  obtain ⟨mb, hmb1, hmb2⟩ := e0.mod.blt
  have bk : ∀ b o, base.get? b = some o → h₀.get? b = some o := fun b o e => hk b o (e0.bs b o e).1
  refine PySem.W.ks_loadName_global rfl Z.sup (Calls.loadGlobal_builtin (e0.mod.glob.keeps bk) W.sup (hmb1.keeps bk) ((hmb2 _ (by decide)).trans (by rfl)) ⟨rfl, ?_⟩)
  obtain ⟨cnm, cq, cN, cbs, cbm, csn, csub, cab, ccol, cdd', k0, k1, k2, k3, k5, hCo, hbm⟩ := T.cls
  have hC0 : s.heap.get? C = _ := KX _ _ hCo
  have hcl : PySem.W.clsIn K C = some { name := cnm, bases := cbs, mro := .ref C :: cbm, ns := cN, qualname := cq, hasDict := true, slotNames := csn, subclasses := csub, abstract := cab, collection := ccol, hasDel := false } := by unfold PySem.W.clsIn; rw [hCo] <;> rfl
  obtain ⟨t1, hao⟩ := exo_at e0.hok ha
  have KX0 : K.In h₀ := KX.keeps hk
  refine wpAny_loadName_free rfl Z.cls rfl ⟨_, hk _ _ (KX _ _ hcell), rfl⟩ ?_
  rw [harn]
  refine wpAny_loadName_local rfl Z.self hns rfl ?_
  refine PySem.ks_wpAny_isType_cls (hk _ _ hC0) rfl ⟨rfl, ?_⟩
  refine PySem.ks_wpAny_call_super (hk _ _ hC0) rfl (hk _ _ hao) rfl (fun c e => by cases e) (PySem.W.looks_mroIn KX0 W.mro) (fun h1 hso k1' => ?_)
  -- the bound method
  have KX1 : K.In h1 := KX0.keeps k1'
  have ha1 := k1' _ _ (hk _ _ hao)
  have IA : PySem.W.InstAt h1 a ({ cls := .ref C, dict := none, data := .fields #[.ref t1, .none, .none, .none, .bool false, .none] } : Obj) C none := ⟨ha1, rfl, rfl, trivial⟩
  have hal := W.along
  unfold PySem.W.ks_superIn at hal
  rw [hcl] at hal
  refine PySem.W.kxs_getMethod PySem.W.kxs_ValueError hso (PySem.W.looks_opaque KX1 W.thp) (l₀ := .ref C :: cbm) ((PySem.W.looks_clsIn KX1 hcl).andThen .now) rfl KX1 hal (IA.type.andThen (PySem.W.looks_subIn KX1 W.subV)) (PySem.W.ks_ne KX1 IA hcl) rfl ?_
  have k2' : ∀ b o, h1.get? b = some o → (h1.push (PySem.W.kxs_mw "ValueError.__init__" a)).get? b = some o := fun b o e => Heap.get?_push_of_some _ e
  have hu2 : (h1.push (PySem.W.kxs_mw "ValueError.__init__" a)).get? h1.objs.size = some (PySem.W.kxs_mw "ValueError.__init__" a) := Heap.get?_push_at rfl rfl
  generalize h1.push (PySem.W.kxs_mw "ValueError.__init__" a) = h2 at k2' hu2 ⊢
  have ha2 := k2' _ _ ha1
  have hC2 := k2' _ _ (k1' _ _ (hk _ _ hC0))
  refine PySem.W.kxs_callWith (i := "ValueError.__init__") (x := a) rfl ?_
  refine Calls.evalArgs_plain (Calls.spliced_cons (Calls.Constant_str (x := m0) (k := j) (pos := p3) (Calls.spliced_nil ⟨hu2, ?_⟩)))
  refine call_veWrap hC2 ha2 hu2 (by show 1 ≤ sizeLine; decide) (fun h3 k3' e3 => ?_)
  -- the field
  have kA : ∀ b o, b ≠ a → h₀.get? b = some o → h3.get? b = some o := fun b o n e => k3' b o n (k2' _ _ (k1' _ _ e))
  have hns3 : h3.Ns s.heap.objs.size (fun x => ([("self", Value.ref a), ("bar", Value.ref lp)] : List (Str × Value)).reverse.lookup x) := by
    obtain ⟨oL, es', ep', hL, hrest⟩ := hns
    exact ⟨oL, es', ep', kA _ _ (Ne.symm hna) hL, hrest⟩
  have I2 := I0.moreObjs (t' := s.toks + 2) (fun b o e => k2' b o (k1' b o e))
  have J := I2.write (t' := s.toks + 2) (x := a) (e := a) (o := exo a C none) (by rw [ha]; exact True.intro) (.inl rfl) k3' ⟨_, e3⟩ (exo_ok e3)
  have eu : upd H a (exo a C none) = H := by
    funext b
    by_cases hb' : b = a
    · rw [hb', upd_same, ha]
    · rw [upd_ne hb']
  rw [eu] at J
  refine PySem.ks_wpAt_execs_cons (PySem.ks_wpAt_Assign_Attr (wpAt_of_wpAny (wpAny_Name (wpAny_loadName_local rfl Z.bar hns3 rfl (wpAny_Name (wpAny_loadName_local rfl Z.self hns3 rfl ?_))))))
  refine ost_new (X := cxOf CX0 P w K mg base ["self", "bar"] "TooLow.__init__" (scTL ⟨.function, nm, false, false, mo⟩) fI (.ref cda) A outer s H E) (y := .ref lp) T (J.tok _) ha W.bar rfl (fun dx s' n ne J' => ?_)
  exact wpAt_of_wpAny (wpAny_execs_nil (fin J' (hq dx n ne)))
end
end L2
namespace L2
open PySem PySem.Spec PyProof.Rows
/-- the class's object, as a test -/
def oexB (K : PySem.W.Frag) (C : Addr) : Bool := match K.lookup C with
  | some ⟨.type "type", _, .cls c, sl⟩ => (match c.mro, sl.toList with
    | .ref C1 :: m, [_, _, _, _, some (.builtin b), _] => (C1 == C && b == "ValueError.__new__") && (!c.hasDel && (c.hasDict && PySem.HandSPX.refsVE m))
    | _, _ => false)
  | _ => false
theorem oexB_cls {K : PySem.W.Frag} {C : Addr} (t : oexB K C = true) : ∃ nm q N bs bm sn sub ab col dd k0 k1 k2 k3 k5, K.lookup C = some (excClassObj nm q C N bs bm true sn sub ab col dd k0 k1 k2 k3 k5 "ValueError.__new__") ∧ PySem.HandSPX.refsVE bm = true := by
  unfold oexB at t
  split at t
  · rename_i od c sl ho
    split at t
    · rename_i C1 m e0 e1 e2 e3 b e5 hm hs
      simp only [Bool.and_eq_true, beq_iff_eq, Bool.not_eq_true'] at t
      obtain ⟨⟨rfl, rfl⟩, hdel, hdict, hr⟩ := t
      obtain ⟨nm, bs, mro, ns, qn, hd, sn, sub, ab, col, del⟩ := c
      dsimp only at hm hdel hdict
      subst hm hdel hdict
      obtain ⟨l⟩ := sl
      simp only at hs
      subst hs
      exact ⟨_, _, _, _, _, _, _, _, _, _, _, _, _, _, _, ho, hr⟩
    · cases t
  · cases t
/-- an own class with its own __init__, as a def sees it -/
structure XoF (P : Program) (w : World) (K : PySem.W.Frag) (mg : Str → Option Value) (base : Heap) (x : Str) (C fI : Addr) (fd : FuncData) : Prop where
  gP : mg x = some (.ref C)
  oex : OexC K C
  iC : PySem.W.findIn K (.ref C) "__init__" = some (some (.ref fI))
  tI : PySem.W.typeIn K (.ref fI) = some (.type "function")
  ok : FnOk P w K mg base CX0 1 fI fd ["self", "bar"] (spTL C)
  b : Binds K fd ["self", "bar"] []
  xf : XfC K C
  hno : PySem.W.findIn K (.ref C) "bar" = some none
theorem x_mkO {C : Addr} {sp : Sp} {dvs : List V} {ta : TA} {σ : St} {H : Hp} {Q : XK} (q : ta σ H fun vs H1 => vs.length ≤ 1000 ∧ ∀ a, H1 a = none → sp (.ref a :: (vs ++ dvs)) (upd H1 a (exo a C none))
  (fun v H2 => v = .non ∧ ∃ (d : Addr) (fs : List (Str × V)), H2 a = some (exo a C (some d)) ∧ H2 d = some (exd d fs) ∧ H1 d = none ∧ Q (.ref C) (some d) (upd (del H2 a) d (.xd fs))) (fun _ _ _ => False)) : tMkO C sp dvs ta σ H Q := q
/-- the exception made: what it leaves -/
theorem tl_made {C lp : Addr} {σ : St} {H : Hp} {Q : XK} (h : ∀ d H', (∀ b o, H b = some o → H' b = some o) → H' d = some (.xd [("bar", .ref lp)]) → Q (.ref C) (some d) H') : [V.ref lp].length ≤ 1000 ∧ ∀ a, H a = none → spTL C (.ref a :: ([V.ref lp] ++ [])) (upd H a (exo a C none))
  (fun v H2 => v = .non ∧ ∃ (d : Addr) (fs : List (Str × V)), H2 a = some (exo a C (some d)) ∧ H2 d = some (exd d fs) ∧ H d = none ∧ Q (.ref C) (some d) (upd (del H2 a) d (.xd fs))) (fun _ _ _ => False) := by
  refine ⟨by show 1 ≤ 1000; omega, fun a ha => ⟨a, lp, rfl, upd_same, fun dx hdx hne => ⟨rfl, dx, [("bar", .ref lp)], upd_same, ?_, ?_, ?_⟩⟩⟩
  · rw [upd_ne hne, upd_same]
  · rw [upd_ne hne] at hdx
    exact hdx
  · have hdx0 : H dx = none := by rw [upd_ne hne] at hdx; exact hdx
    refine h dx _ (fun b o e => ?_) upd_same
    rw [upd_ne (ne_of_none e hdx0), del_ne (ne_of_none e ha), upd_ne (ne_of_none e ha), upd_ne (ne_of_none e hdx0), upd_ne (ne_of_none e ha)]
    exact e
end L2

namespace L2
open PySem PySem.Spec PyProof.Rows
theorem x_ifSP {test : TT} {th el : TS} {D : Ends} {σ : St} {H : Hp} (P : Bool → Prop) (h1 : ∀ Q : Bool → Hp → Prop, (∀ b, P b → Q b H) → test σ H Q) (ht : P true → th D σ H) (he : P false → el D σ H) : tIfS test th el D σ H :=
  h1 _ fun b hb => by
    cases b with
    | true => exact ht hb
    | false => exact he hb
end L2
namespace Sr
open PySem PySem.Spec PyProof.Rows L2 Zs
theorem One1.smT {c a b p P : Addr} {q : Str} {H H' : Hp} {f : List Addr} {s : ShS} {Tr : List (Addr × HO)} (h : One1 c H a b p f s Tr) (e : SmT P q H H') (nt : ∀ t ∈ Tr, ∀ ps, t.2 ≠ .tbl ps) : One1 c H' a b p f s Tr :=
  ⟨h.sh.smT e, Src_smT h.src e, h.na, h.nb, fun t ht => ⟨e.k _ _ (h.tr t ht).1 (nt t ht), (h.tr t ht).2⟩⟩
theorem ShAt.kp {c a b p : Addr} {H H' : Hp} {f : List Addr} {s : ShS} (h : ShAt c H p f s) (k : Kp a b H H') (hs : Src H a b) (na : a ∉ f) (nb : b ∉ f) : ShAt c H' p f s :=
  h.same (fun q hq o e => k q o (fun z => na (z ▸ hq)) (fun z => nb (z ▸ hq)) e) fun q xs e => k.tups hs e
theorem ShAt.all {c p : Addr} {H H' : Hp} {f : List Addr} {s : ShS} (h : ShAt c H p f s) (e : Same H H') : ShAt c H' p f s := h.same (fun b _ o x => e b o x) fun b xs x => e b _ x
end Sr

namespace L2
open PySem PySem.Spec PyProof.Rows
/-! ### a method called in a try: what it raises goes to the clauses -/
def tMethW (C : Addr) (m : Str) (sp : Sp) (E : St → XK) (ta : TE) (t : TA) : TE := fun σ H Q => ta σ H fun x H1 => ∃ a dx fs, x = .ref a ∧ H1 a = some (.ins C dx fs) ∧ fs.lookup m = none ∧ t σ H1 fun vs H2 => sp (.ref a :: vs) H2 Q (E σ)
theorem pe_methW {X : Cx} {CX : CXT} {k : Nat} {C f : Addr} {fd : FuncData} {ps : List Str} {sp : Sp} {E : St → XK} {m : Str} {o e : Expr} {es : List Expr} {ta : TE} {t : TA} {apos pos : Pos} {pl : Sem Bool} (ho : PE X o ta) (c : Cls X.K C) (hm : Meth X.K C m f) (F : FnOk X.prog X.w X.K X.mg X.base CX k f fd ps sp) (hr : Room k X.A) (hb : Binds X.K fd ps []) (hx : ∀ σ, PassesAt CX X σ (E σ)) (has : PA X (e :: es) t)
    (h1 : starEach (e :: es) X.env = (false, eval e X.env) :: starEach es X.env := by rfl) (h2 : (backTo pos (starEach es X.env)).any (·.1) = false := by rfl)
    (hev : eval (.Call (.Attribute o m apos) (e :: es) [] pos) X.env = (do
      let v0 ← eval o X.env
      standAt apos.atName
      let (g, fst0) ← holding [v0] (getMethod v0 m pl)
      callWith pos g fst0 (backTo pos (starEach (e :: es) X.env)) (backToKw pos (keywordEach [] X.env))) := by rfl) :
    PE X (.Call (.Attribute o m apos) (e :: es) [] pos) (tMethW C m sp E ta t) := by
  refine ⟨fun pins s σ H Q I w0 => ?_⟩
  refine PySem.W.methodCall_KW (pl := pl) (thn (ho.run pins s σ H _ I w0) fun u1 s1 ⟨x1, G1, J1, rx1, a1, dx1, fs1, ex1, ea1, l1, q1⟩ => ?_) hev
  subst ex1
  obtain rfl : u1 = Value.ref a1 := rx1
  refine getmeth_ok J1 ea1 c hm l1 ?_
  refine PySem.W.callWith_K (first := [.ref a1]) (h₀ := X.base) I.ok.mod.kin hm.kp (thn (has.run pos pins s1 σ G1 _ J1 q1) fun us s2 ⟨vs, G2, J2, r2, q2⟩ => ⟨J2.kIn, ?_⟩) h1 h2
  exact run_fnS (us := .ref a1 :: us) (vs := .ref a1 :: vs) F hr hb (hx σ) J2 (.cons rfl r2) q2
theorem x_methW {C : Addr} {m : Str} {sp : Sp} {E : St → XK} {ta : TE} {t : TA} {σ : St} {H : Hp} {Q : VK} (q : ta σ H fun x H1 => ∃ a dx fs, x = .ref a ∧ H1 a = some (.ins C dx fs) ∧ fs.lookup m = none ∧ t σ H1 fun vs H2 => sp (.ref a :: vs) H2 Q (E σ)) : tMethW C m sp E ta t σ H Q := q
end L2
namespace Sr
open PySem PySem.Spec PyProof.Rows L2
theorem x_addS'' {x y : Str} {R : Str → Str → Prop} (h : x.length + y.length ≤ 1000000) (q : R x y) : ∃ i j, V.str x = V.str i ∧ V.str y = V.str j ∧ i.length + j.length ≤ sizeLine ∧ R i j := ⟨x, y, rfl, rfl, hp_sz h, q⟩
end Sr

namespace L2
open PySem PySem.Spec PyProof.Rows
theorem x_cutT {t : TT} {σ : St} {H : Hp} {R : Bool → Hp → Prop} (P : Bool → Hp → Prop) (h1 : ∀ R' : Bool → Hp → Prop, (∀ c H', P c H' → R' c H') → t σ H R') (h2 : ∀ c H', P c H' → R c H') : t σ H R := h1 R h2
end L2
namespace Sr
open PySem PySem.Spec PyProof.Rows L2
/-! ### two shelves, the source of draws, and what is tracked beside -/
structure TwoS (c : Addr) (H : Hp) (a b x1 : Addr) (f1 : List Addr) (s1 : ShS) (x2 : Addr) (f2 : List Addr) (s2 : ShS) (Tr : List (Addr × HO)) : Prop where
  two : Two c H x1 f1 s1 x2 f2 s2 Tr
  src : Src H a b
  n1 : a ∉ f1 ∧ b ∉ f1
  n2 : a ∉ f2 ∧ b ∉ f2
  nt : ∀ t ∈ Tr, t.1 ≠ a ∧ t.1 ≠ b
section
variable {c a b x1 x2 : Addr} {H H' : Hp} {f1 f1' f2 : List Addr} {s1 s1' s2 : ShS} {Tr Tr' : List (Addr × HO)}
theorem TwoS.swap (h : TwoS c H a b x1 f1 s1 x2 f2 s2 Tr) : TwoS c H a b x2 f2 s2 x1 f1 s1 Tr := ⟨h.two.swap, h.src, h.n2, h.n1, h.nt⟩
theorem TwoS.same (h : TwoS c H a b x1 f1 s1 x2 f2 s2 Tr) (e : Same H H') : TwoS c H' a b x1 f1 s1 x2 f2 s2 Tr := ⟨h.two.same e, Src_same h.src e, h.n1, h.n2, h.nt⟩
theorem TwoS.kp (h : TwoS c H a b x1 f1 s1 x2 f2 s2 Tr) (k : Kp a b H H') (hs : Src H' a b) : TwoS c H' a b x1 f1 s1 x2 f2 s2 Tr :=
  ⟨⟨h.two.one.kp k h.src h.n1.1 h.n1.2, h.two.two.kp k h.src h.n2.1 h.n2.2, h.two.apart, fun t ht => ⟨k _ _ (h.nt t ht).1 (h.nt t ht).2 (h.two.tr t ht).1, (h.two.tr t ht).2⟩⟩, hs, h.n1, h.n2, h.nt⟩
theorem TwoS.op (h : TwoS c H a b x1 f1 s1 x2 f2 s2 Tr) (sh : ShAt c H' x1 f1' s1') (fr : Fr f1 H H') (gr : Grow f1 f1' H) : TwoS c H' a b x1 f1' s1' x2 f2 s2 Tr := by
  obtain ⟨nab, s0, i, cs, h1, h2, h3⟩ := h.src
  have out : ∀ q o, H q = some o → q ∉ f1 → q ∉ f1' := fun q o e n hm => by
    rcases gr q hm with z | z
    · exact n z
    · rw [z] at e
      cases e
  exact ⟨h.two.op sh fr gr, ⟨nab, s0, i, cs, fr.1 _ _ h1 h.n1.1, fr.1 _ _ h2 h.n1.2, h3⟩, ⟨out _ _ h1 h.n1.1, out _ _ h2 h.n1.2⟩, h.n2, h.nt⟩
theorem TwoS.get (h : TwoS c H a b x1 f1 s1 x2 f2 s2 Tr) {r : Addr} {o : HO} (e : (r, o) ∈ Tr) : H r = some o := (h.two.tr _ e).1
theorem TwoS.less (h : TwoS c H a b x1 f1 s1 x2 f2 s2 Tr) (e : ∀ t ∈ Tr', t ∈ Tr) : TwoS c H a b x1 f1 s1 x2 f2 s2 Tr' := ⟨⟨h.two.one, h.two.two, h.two.apart, fun t ht => h.two.tr t (e t ht)⟩, h.src, h.n1, h.n2, fun t ht => h.nt t (e t ht)⟩
theorem TwoS.new {r : Addr} {o : HO} (h : TwoS c H a b x1 f1 s1 x2 f2 s2 Tr) (hr : H r = none) : TwoS c (L2.upd H r o) a b x1 f1 s1 x2 f2 s2 ((r, o) :: Tr) := by
  obtain ⟨n1, n2, n3⟩ := h.two.no hr
  have h' := h.same (same_upd (o := o) hr)
  exact ⟨h'.two.add upd_same n1 n2, h'.src, h.n1, h.n2, fun t ht => by
    rcases List.mem_cons.mp ht with e | e
    · rw [e]
      exact ⟨h.src.ne_a hr, h.src.ne_b hr⟩
    · exact h.nt t e⟩
/-- a tracked thing is changed -/
theorem TwoS.chg {r : Addr} {o o' : HO} (h : TwoS c H a b x1 f1 s1 x2 f2 s2 ((r, o) :: Tr)) (ht : ∀ t ∈ Tr, t.1 ≠ r) (nt : ∀ xs, o ≠ .tup xs) : TwoS c (L2.upd H r o') a b x1 f1 s1 x2 f2 s2 ((r, o') :: Tr) := by
  obtain ⟨e0, n1, n2⟩ := h.two.tr _ List.mem_cons_self
  obtain ⟨n3, n4⟩ := h.nt _ List.mem_cons_self
  obtain ⟨nab, s0, i, cs, h1, h2, h3⟩ := h.src
  have hl := h.less (Tr' := Tr) fun t e => List.mem_cons_of_mem _ e
  have hu := hl.two.upd (r := r) (o := o') n1 n2 (fun t e z => ht t e z.symm) (fun xs z => by rw [e0] at z; exact nt xs (Option.some.inj z))
  refine ⟨hu.add upd_same n1 n2, ⟨nab, s0, i, cs, ?_, ?_, h3⟩, h.n1, h.n2, fun t e => ?_⟩
  · rw [upd_ne (Ne.symm n3)]; exact h1
  · rw [upd_ne (Ne.symm n4)]; exact h2
  · rcases List.mem_cons.mp e with z | z
    · rw [z]
      exact ⟨n3, n4⟩
    · exact h.nt t (List.mem_cons_of_mem _ z)
end
theorem ne_wins_eq {K : PySem.W.Frag} {H : Hp} {r r' : Addr} {as as' : List Addr} {L : List Win} (hc : ∀ w ∈ L, ∀ c ∈ w.z, c < 1114112) (h : SqL K H r (as.map V.ref)) (hT : Tup winV H as L) (h' : SqL K H r' (as'.map V.ref)) (hT' : Tup winV H as' L) {Q : VK} (q : Q (.bl false) H) : rNeD K (.ref r) (.ref r') H Q := by
  have sh : SeqAt.shaped (winsD L) = true := by
    unfold SeqAt.shaped
    rw [Bool.and_eq_true]
    refine ⟨lay_wins hc, decide_eq_true ?_⟩
    have := depth_wins L
    omega
  exact ⟨winsD L, winsD L, dp_wins h hT, dp_wins h' hT', sh, sh, by rw [SeqAt.eqv_refl (winsD L) (lay_wins hc)]; exact q⟩
end Sr
namespace L2
theorem ixN_neg1 {n : Nat} (h : 0 < n) : ixN n (-1) = some (n - 1) := by
  unfold ixN
  rw [if_neg (by omega), if_pos (by omega)]
  congr 1
  omega
end L2
namespace Sr
theorem chg0 (c x : Nat) (r : List Nat) : chg (x :: r) 0 c = c :: r := rfl
end Sr

namespace Sr
open PySem PySem.Spec PyProof.Rows L2 Zs
/-! ### the text -/
def topS (i : Nat) : Stmt := PySem.Challenge.pw_seedreach_k21_two_shelves_apart.main.body.getD i (.Pass ⟨0, 0, 0, 0⟩)
abbrev sTooLow___init__ : Stmt := inClass (topS 7) 0
abbrev sneed_letters : Stmt := topS 15
abbrev nneed_letters : List Str := ["letters", "sign"]
theorem scneed_letters : FnScope nneed_letters ["letters"] (defScope sneed_letters) := ⟨rfl, rfl, rfl, by decide +kernel, rfl, by decide +kernel, by decide +kernel⟩
abbrev sneed_row : Stmt := topS 16
abbrev nneed_row : List Str := ["row", "letters", "sign"]
theorem scneed_row : FnScope nneed_row ["row", "letters"] (defScope sneed_row) := ⟨rfl, rfl, rfl, by decide +kernel, rfl, by decide +kernel, by decide +kernel⟩
abbrev sneed_scale : Stmt := topS 17
abbrev nneed_scale : List Str := ["scale", "gain", "loss", "weight"]
theorem scneed_scale : FnScope nneed_scale ["scale"] (defScope sneed_scale) := ⟨rfl, rfl, rfl, by decide +kernel, rfl, by decide +kernel, by decide +kernel⟩
abbrev slane_begin : Stmt := topS 21
abbrev nlane_begin : List Str := ["shift"]
theorem sclane_begin : FnScope nlane_begin ["shift"] (defScope slane_begin) := ⟨rfl, rfl, rfl, by decide +kernel, rfl, by decide +kernel, by decide +kernel⟩
abbrev slikes_of : Stmt := topS 22
abbrev nlikes_of : List Str := ["one", "other", "shift", "begin", "end", "place"]
theorem sclikes_of : FnScope nlikes_of ["one", "other", "shift"] (defScope slikes_of) := ⟨rfl, rfl, rfl, by decide +kernel, rfl, by decide +kernel, by decide +kernel⟩
abbrev sworth_of : Stmt := topS 23
abbrev nworth_of : List Str := ["likes", "scale", "gain", "loss"]
theorem scworth_of : FnScope nworth_of ["likes", "scale"] (defScope sworth_of) := ⟨rfl, rfl, rfl, by decide +kernel, rfl, by decide +kernel, by decide +kernel⟩
abbrev s_last_below : Stmt := topS 26
abbrev n_last_below : List Str := ["parts", "low", "at"]
theorem sc_last_below : FnScope n_last_below ["parts", "low"] (defScope s_last_below) := ⟨rfl, rfl, rfl, by decide +kernel, rfl, by decide +kernel, by decide +kernel⟩
abbrev s_join : Stmt := topS 25
abbrev n_join : List Str := ["parts", "place", "low", "high", "begin", "at"]
theorem sc_join : FnScope n_join ["parts", "place", "low", "high"] (defScope s_join) := ⟨rfl, rfl, rfl, by decide +kernel, rfl, by decide +kernel, by decide +kernel⟩
abbrev sripe : Stmt := topS 24
abbrev nripe : List Str := ["likes", "scale", "gain", "loss", "parts", "level", "place", "pair", "part"]
theorem scripe : FnScope nripe ["likes", "scale"] (defScope sripe) := ⟨rfl, rfl, rfl, by decide +kernel, rfl, by decide +kernel, by decide +kernel⟩
abbrev slane_reaches : Stmt := topS 27
abbrev nlane_reaches : List Str := ["one", "other", "shift", "scale", "told", "likes", "first", "found", "begin", "end", "worth"]
theorem sclane_reaches : FnScope nlane_reaches ["one", "other", "shift", "scale", "told"] (defScope slane_reaches) := ⟨rfl, rfl, rfl, by decide +kernel, rfl, by decide +kernel, by decide +kernel⟩
abbrev s_need_seed : Stmt := topS 38
abbrev n_need_seed : List Str := ["seed", "sign"]
theorem sc_need_seed : FnScope n_need_seed ["seed"] (defScope s_need_seed) := ⟨rfl, rfl, rfl, by decide +kernel, rfl, by decide +kernel, by decide +kernel⟩
abbrev sneed_seeds : Stmt := topS 37
abbrev nneed_seeds : List Str := ["seeds", "seed"]
theorem scneed_seeds : FnScope nneed_seeds ["seeds"] (defScope sneed_seeds) := ⟨rfl, rfl, rfl, by decide +kernel, rfl, by decide +kernel, by decide +kernel⟩
abbrev sunlike_under : Stmt := topS 39
abbrev nunlike_under : List Str := ["seed", "likes", "place", "at", "sign"]
theorem scunlike_under : FnScope nunlike_under ["seed", "likes", "place"] (defScope sunlike_under) := ⟨rfl, rfl, rfl, by decide +kernel, rfl, by decide +kernel, by decide +kernel⟩
abbrev sfits : Stmt := topS 40
abbrev nfits : List Str := ["seed", "likes", "place"]
theorem scfits : FnScope nfits ["seed", "likes", "place"] (defScope sfits) := ⟨rfl, rfl, rfl, by decide +kernel, rfl, by decide +kernel, by decide +kernel⟩
abbrev s_tail : Stmt := topS 45
abbrev n_tail : List Str := ["likes", "keep"]
theorem sc_tail : FnScope n_tail ["likes", "keep"] (defScope s_tail) := ⟨rfl, rfl, rfl, by decide +kernel, rfl, by decide +kernel, by decide +kernel⟩
abbrev s_steps_from : Stmt := topS 44
abbrev n_steps_from : List Str := ["tail", "seeds", "keep", "steps", "pair", "likes", "seed"]
theorem sc_steps_from : FnScope n_steps_from ["tail", "seeds"] (defScope s_steps_from) := ⟨rfl, rfl, rfl, by decide +kernel, rfl, by decide +kernel, by decide +kernel⟩
abbrev s_steps : Stmt := topS 43
abbrev n_steps : List Str := ["seeds", "steps", "waiting", "tail"]
theorem sc_steps : FnScope n_steps ["seeds"] (defScope s_steps) := ⟨rfl, rfl, rfl, by decide +kernel, rfl, by decide +kernel, by decide +kernel⟩
abbrev s_ring : Stmt := topS 47
abbrev n_ring : List Str := ["steps", "tail", "likes", "seen", "place", "pair"]
theorem sc_ring : FnScope n_ring ["steps", "tail", "likes"] (defScope s_ring) := ⟨rfl, rfl, rfl, by decide +kernel, rfl, by decide +kernel, by decide +kernel⟩
abbrev s_best_behind : Stmt := topS 46
abbrev n_best_behind : List Str := ["steps", "best", "weights", "choices", "pair", "worth", "likes"]
theorem sc_best_behind : FnScope n_best_behind ["steps", "best", "weights"] (defScope s_best_behind) := ⟨rfl, rfl, rfl, by decide +kernel, rfl, by decide +kernel, by decide +kernel⟩
abbrev sbar : Stmt := topS 41
abbrev nbar : List Str := ["seeds", "scale", "steps", "weights", "best", "longer", "bettered", "worth", "likes", "ring", "pair", "tail"]
theorem scbar : FnScope nbar ["seeds", "scale"] (defScope sbar) := ⟨rfl, rfl, rfl, by decide +kernel, rfl, by decide +kernel, by decide +kernel⟩
abbrev sneed_above : Stmt := topS 42
abbrev nneed_above : List Str := ["told", "limit"]
theorem scneed_above : FnScope nneed_above ["told", "limit"] (defScope sneed_above) := ⟨rfl, rfl, rfl, by decide +kernel, rfl, by decide +kernel, by decide +kernel⟩
abbrev sShelf___init__ : Stmt := inClass (topS 49) 0
abbrev nShelf___init__ : List Str := ["self", "letters", "scale", "seeds"]
theorem scShelf___init__ : FnScope nShelf___init__ ["self", "letters", "scale", "seeds"] (defScope sShelf___init__) := ⟨rfl, rfl, rfl, by decide +kernel, rfl, by decide +kernel, by decide +kernel⟩
abbrev sShelf_lay : Stmt := inClass (topS 49) 1
abbrev nShelf_lay : List Str := ["self", "row"]
theorem scShelf_lay : FnScope nShelf_lay ["self", "row"] (defScope sShelf_lay) := ⟨rfl, rfl, rfl, by decide +kernel, rfl, by decide +kernel, by decide +kernel⟩
abbrev sShelf_rows : Stmt := inClass (topS 49) 2
abbrev nShelf_rows : List Str := ["self"]
theorem scShelf_rows : FnScope nShelf_rows ["self"] (defScope sShelf_rows) := ⟨rfl, rfl, rfl, by decide +kernel, rfl, by decide +kernel, by decide +kernel⟩
abbrev s_picked : Stmt := topS 53
abbrev n_picked : List Str := ["seed", "row", "place", "at", "sign"]
theorem sc_picked : FnScope n_picked ["seed", "row", "place"] (defScope s_picked) := ⟨rfl, rfl, rfl, by decide +kernel, rfl, by decide +kernel, by decide +kernel⟩
abbrev s_windows_of : Stmt := topS 52
abbrev n_windows_of : List Str := ["row", "seeds", "found", "number", "seed", "place"]
theorem sc_windows_of : FnScope n_windows_of ["row", "seeds"] (defScope s_windows_of) := ⟨rfl, rfl, rfl, by decide +kernel, rfl, by decide +kernel, by decide +kernel⟩
abbrev sShelf_windows : Stmt := inClass (topS 49) 3
abbrev nShelf_windows : List Str := ["self", "found", "number", "row", "seed", "picked", "place"]
theorem scShelf_windows : FnScope nShelf_windows ["self"] (defScope sShelf_windows) := ⟨rfl, rfl, rfl, by decide +kernel, rfl, by decide +kernel, by decide +kernel⟩
abbrev sShelf__seeded_lanes : Stmt := inClass (topS 49) 9
abbrev nShelf__seeded_lanes : List Str := ["self", "row", "places", "seed", "picked", "number", "place", "lanes", "begin"]
theorem scShelf__seeded_lanes : FnScope nShelf__seeded_lanes ["self", "row"] (defScope sShelf__seeded_lanes) := ⟨rfl, rfl, rfl, by decide +kernel, rfl, by decide +kernel, by decide +kernel⟩
abbrev sShelf_find : Stmt := inClass (topS 49) 4
abbrev nShelf_find : List Str := ["self", "row", "told", "found", "number", "shift", "begin", "end", "worth"]
theorem scShelf_find : FnScope nShelf_find ["self", "row", "told"] (defScope sShelf_find) := ⟨rfl, rfl, rfl, by decide +kernel, rfl, by decide +kernel, by decide +kernel⟩
abbrev s_need_place : Stmt := topS 50
abbrev n_need_place : List Str := ["place", "last"]
theorem sc_need_place : FnScope n_need_place ["place", "last"] (defScope s_need_place) := ⟨rfl, rfl, rfl, by decide +kernel, rfl, by decide +kernel, by decide +kernel⟩
abbrev s_need_sign : Stmt := topS 51
abbrev n_need_sign : List Str := ["sign", "letters"]
theorem sc_need_sign : FnScope n_need_sign ["sign", "letters"] (defScope s_need_sign) := ⟨rfl, rfl, rfl, by decide +kernel, rfl, by decide +kernel, by decide +kernel⟩
abbrev s_windows_over : Stmt := topS 54
abbrev n_windows_over : List Str := ["seeds", "length", "first", "last", "many", "seed", "place"]
theorem sc_windows_over : FnScope n_windows_over ["seeds", "length", "first", "last"] (defScope s_windows_over) := ⟨rfl, rfl, rfl, by decide +kernel, rfl, by decide +kernel, by decide +kernel⟩
abbrev sShelf__row_of : Stmt := inClass (topS 49) 8
abbrev nShelf__row_of : List Str := ["self", "number"]
theorem scShelf__row_of : FnScope nShelf__row_of ["self", "number"] (defScope sShelf__row_of) := ⟨rfl, rfl, rfl, by decide +kernel, rfl, by decide +kernel, by decide +kernel⟩
abbrev sShelf_change : Stmt := inClass (topS 49) 5
abbrev nShelf_change : List Str := ["self", "number", "place", "sign", "row", "over"]
theorem scShelf_change : FnScope nShelf_change ["self", "number", "place", "sign"] (defScope sShelf_change) := ⟨rfl, rfl, rfl, by decide +kernel, rfl, by decide +kernel, by decide +kernel⟩
abbrev s_law_next : Stmt := topS 56
abbrev n_law_next : List Str := ["_law_h", "_law_many", "_law_at", "_law_cell"]
theorem sc_law_next : FnScope n_law_next ["_law_h", "_law_many"] (defScope s_law_next) := ⟨rfl, rfl, rfl, by decide +kernel, rfl, by decide +kernel, by decide +kernel⟩
abbrev s_law_letters : Stmt := topS 57
abbrev n_law_letters : List Str := ["_law_h", "_law_turn", "_law_k"]
theorem sc_law_letters : FnScope n_law_letters ["_law_h"] (defScope s_law_letters) := ⟨rfl, rfl, rfl, by decide +kernel, rfl, by decide +kernel, by decide +kernel⟩
abbrev s_law_row : Stmt := topS 58
abbrev n_law_row : List Str := ["_law_h", "_law_letters_here", "_law_most", "_law_k"]
theorem sc_law_row : FnScope n_law_row ["_law_h", "_law_letters_here", "_law_most"] (defScope s_law_row) := ⟨rfl, rfl, rfl, by decide +kernel, rfl, by decide +kernel, by decide +kernel⟩
abbrev s_law_scale : Stmt := topS 60
abbrev n_law_scale : List Str := ["_law_h"]
theorem sc_law_scale : FnScope n_law_scale ["_law_h"] (defScope s_law_scale) := ⟨rfl, rfl, rfl, by decide +kernel, rfl, by decide +kernel, by decide +kernel⟩
abbrev s_law_seed : Stmt := topS 61
abbrev n_law_seed : List Str := ["_law_h", "_law_most", "_law_size", "_law_k"]
theorem sc_law_seed : FnScope n_law_seed ["_law_h", "_law_most"] (defScope s_law_seed) := ⟨rfl, rfl, rfl, by decide +kernel, rfl, by decide +kernel, by decide +kernel⟩
abbrev s_law_seeds : Stmt := topS 62
abbrev n_law_seeds : List Str := ["_law_h", "_law_most", "_law_k"]
theorem sc_law_seeds : FnScope n_law_seeds ["_law_h", "_law_most"] (defScope s_law_seeds) := ⟨rfl, rfl, rfl, by decide +kernel, rfl, by decide +kernel, by decide +kernel⟩
abbrev s_law_windows : Stmt := topS 65
abbrev n_law_windows : List Str := ["_law_seeds_here", "_law_rows_here", "_law_found", "_law_k", "_law_number", "_law_place", "_law_signs", "_law_at"]
theorem sc_law_windows : FnScope n_law_windows ["_law_seeds_here", "_law_rows_here"] (defScope s_law_windows) := ⟨rfl, rfl, rfl, by decide +kernel, rfl, by decide +kernel, by decide +kernel⟩
abbrev s_law_tried : Stmt := topS 66
abbrev n_law_tried : List Str := ["_law_shelf_here", "_law_row_here"]
theorem sc_law_tried : FnScope n_law_tried ["_law_shelf_here", "_law_row_here"] (defScope s_law_tried) := ⟨rfl, rfl, rfl, by decide +kernel, rfl, by decide +kernel, by decide +kernel⟩
abbrev slaw : Stmt := topS 67
abbrev nlaw : List Str := ["_law_script", "_law_h", "_law_shelves", "_law_told", "_law_side", "_law_letters_here", "_law_seeds_here", "_law_handed", "_law_turn", "_law_rows_here", "_law_k"]
theorem sclaw : FnScope nlaw ["_law_script"] (defScope slaw) := ⟨rfl, rfl, rfl, by decide +kernel, rfl, by decide +kernel, by decide +kernel⟩
structure Dn (P : Program) (w : World) (K : PySem.W.Frag) (mg : Str → Option Value) (base : Heap) (x : Str) (k : Nat) (ps : List Str) (sp : Sp) (f : Addr) (fd : FuncData) : Prop where
  ok : FnOk P w K mg base CX0 k f fd ps sp
  g : mg x = some (.ref f)
  kp : PySem.W.keepIn K (.ref f) = true
  b : Binds K fd ps []
structure Dm (P : Program) (w : World) (K : PySem.W.Frag) (mg : Str → Option Value) (base : Heap) (C : Addr) (x : Str) (k : Nat) (ps : List Str) (sp : Sp) (f : Addr) (fd : FuncData) : Prop where
  ok : FnOk P w K mg base CX0 k f fd ps sp
  mt : Meth K C x f
  b : Binds K fd ps []
structure DnX (P : Program) (w : World) (K : PySem.W.Frag) (mg : Str → Option Value) (base : Heap) (x : Str) (k : Nat) (ps : List Str) (sp : Sp) (f : Addr) (fd : FuncData) : Prop where
  ok : FnOk P w K mg base (L2.CX P w) k f fd ps sp
  g : mg x = some (.ref f)
  kp : PySem.W.keepIn K (.ref f) = true
  b : Binds K fd ps []
structure DmX (P : Program) (w : World) (K : PySem.W.Frag) (mg : Str → Option Value) (base : Heap) (C : Addr) (x : Str) (k : Nat) (ps : List Str) (sp : Sp) (f : Addr) (fd : FuncData) : Prop where
  ok : FnOk P w K mg base (L2.CX P w) k f fd ps sp
  mt : Meth K C x f
  b : Binds K fd ps []
structure XcF (K : PySem.W.Frag) (mg : Str → Option Value) (x : Str) (C : Addr) : Prop where
  gP : mg x = some (.ref C)
  xP : PySem.W.excIn K C [.type "ValueError", .type "Exception", .type "BaseException", .type "object"] "ValueError.__new__" = true
  kP : PySem.W.keepIn K (.ref C) = true
  bP : PySem.W.subIn K (.ref C) (.type "BaseException") = some true
  tP : PySem.W.typeIn K (.ref C) = some (.type "type")
structure XcN (K : PySem.W.Frag) (mg : Str → Option Value) (x : Str) (C : Addr) : Prop where
  gP : mg x = some (.ref C)
structure XM (K : PySem.W.Frag) (aBadRow aTooLow : Addr) : Prop where
  hd_BadRow : PySem.W.hasDictIn K aBadRow = true
  tp_BadRow : PySem.W.typeIn K (.ref aBadRow) = some (.type "type")
  bs_BadRow : PySem.W.subIn K (.ref aBadRow) (.type "BaseException") = some true
  hd_TooLow : PySem.W.hasDictIn K aTooLow = true
  tp_TooLow : PySem.W.typeIn K (.ref aTooLow) = some (.type "type")
  bs_TooLow : PySem.W.subIn K (.ref aTooLow) (.type "BaseException") = some true
  ec_BadRow : ExcC K aBadRow
  v_BadRow : PySem.W.subIn K (.ref aBadRow) (.type "ValueError") = some true
  s_BadRow_BadRow : PySem.W.subIn K (.ref aBadRow) (.ref aBadRow) = some true
  s_BadRow_TooLow : PySem.W.subIn K (.ref aBadRow) (.ref aTooLow) = some false
  ec_TooLow : ExcC K aTooLow
  v_TooLow : PySem.W.subIn K (.ref aTooLow) (.type "ValueError") = some true
  s_TooLow_BadRow : PySem.W.subIn K (.ref aTooLow) (.ref aBadRow) = some false
  s_TooLow_TooLow : PySem.W.subIn K (.ref aTooLow) (.ref aTooLow) = some true
structure KlShelf (K : PySem.W.Frag) (mg : Str → Option Value) (c fi : Addr) : Prop where
  cl : Cls K c
  mg : mg "Shelf" = some (.ref c)
  make : Mk K c fi
  n_letters : NoAttr K c "letters"
  n_scale : NoAttr K c "scale"
  n_seeds : NoAttr K c "seeds"
  n_limit : NoAttr K c "limit"
  n_laid : NoAttr K c "laid"
structure Bl (mg : Str → Option Value) : Prop where
  m_len : mg "len" = none
  m_max : mg "max" = none
  m_min : mg "min" = none
  m_range : mg "range" = none
  m_enumerate : mg "enumerate" = none
  m_any : mg "any" = none
  m_list : mg "list" = none
  m_sorted : mg "sorted" = none
  m_set : mg "set" = none
structure Cs (mg : Str → Option Value) (uFEWEST_LETTERS uMOST_LETTERS uALPHABET uLONGEST_ROW uLEAST_WEIGHT uMOST_WEIGHT uLIKE uUNLIKE uSHORTEST_SEED uLONGEST_SEED uPICK uGAP uFEWEST_SEEDS uMOST_SEEDS uBAR uENDLESS : Value) : Prop where
  c_FEWEST_LETTERS : RelV (.int 2) uFEWEST_LETTERS ∧ mg "FEWEST_LETTERS" = some uFEWEST_LETTERS
  c_MOST_LETTERS : RelV (.int 6) uMOST_LETTERS ∧ mg "MOST_LETTERS" = some uMOST_LETTERS
  c_ALPHABET : RelV (.str "abcdefghijklmnopqrstuvwxyz") uALPHABET ∧ mg "ALPHABET" = some uALPHABET
  c_LONGEST_ROW : RelV (.int 60) uLONGEST_ROW ∧ mg "LONGEST_ROW" = some uLONGEST_ROW
  c_LEAST_WEIGHT : RelV (.int 1) uLEAST_WEIGHT ∧ mg "LEAST_WEIGHT" = some uLEAST_WEIGHT
  c_MOST_WEIGHT : RelV (.int 9) uMOST_WEIGHT ∧ mg "MOST_WEIGHT" = some uMOST_WEIGHT
  c_LIKE : RelV (.str "=") uLIKE ∧ mg "LIKE" = some uLIKE
  c_UNLIKE : RelV (.str "/") uUNLIKE ∧ mg "UNLIKE" = some uUNLIKE
  c_SHORTEST_SEED : RelV (.int 1) uSHORTEST_SEED ∧ mg "SHORTEST_SEED" = some uSHORTEST_SEED
  c_LONGEST_SEED : RelV (.int 8) uLONGEST_SEED ∧ mg "LONGEST_SEED" = some uLONGEST_SEED
  c_PICK : RelV (.str "#") uPICK ∧ mg "PICK" = some uPICK
  c_GAP : RelV (.str "-") uGAP ∧ mg "GAP" = some uGAP
  c_FEWEST_SEEDS : RelV (.int 1) uFEWEST_SEEDS ∧ mg "FEWEST_SEEDS" = some uFEWEST_SEEDS
  c_MOST_SEEDS : RelV (.int 3) uMOST_SEEDS ∧ mg "MOST_SEEDS" = some uMOST_SEEDS
  c_BAR : RelV (.str "bar") uBAR ∧ mg "BAR" = some uBAR
  c_ENDLESS : RelV (.str "endless") uENDLESS ∧ mg "ENDLESS" = some uENDLESS
def spneed_letters (K : PySem.W.Frag) : Sp := fun vs H Q _ => ∃ (z : List Nat), vs = [.str (S z)] ∧ 2 ≤ z.length ∧ z.length ≤ 6 ∧ (∀ c ∈ z, 97 ≤ c ∧ c ≤ 122) ∧ z.Nodup ∧ Q .non H
def RowOk (z lets : List Nat) : Prop := z.length ≤ 60 ∧ ∀ c ∈ z, c ∈ lets
def spneed_row (K : PySem.W.Frag) (aBadRow : Addr) : Sp := fun vs H Q E => ∃ (z lets : List Nat), vs = [.str (S z), .str (S lets)] ∧ z.length ≤ 1000 ∧ (RowOk z lets → Q .non H) ∧ (¬ RowOk z lets → E (.ref aBadRow) none H)
def spneed_scale (K : PySem.W.Frag) : Sp := fun vs H Q _ => ∃ (p : Addr) (g l : Int), vs = [.ref p] ∧ SqT K H p [.int g, .int l] ∧ 1 ≤ g ∧ g ≤ 9 ∧ 1 ≤ l ∧ l ≤ 9 ∧ ∀ H', Same H H' → Q .non H'
def splane_begin (K : PySem.W.Frag) : Sp := fun vs H Q _ => ∃ (d : Int), vs = [.int d] ∧ Q (.int (bgn d : Nat)) H
def splikes_of (K : PySem.W.Frag) : Sp := fun vs H Q _ => ∃ (o t : List Nat) (d : Int), vs = [.str (S o), .str (S t), .int d] ∧ o.length ≤ 1000 ∧ t.length ≤ 1000 ∧ -100000 ≤ d ∧ d ≤ 100000 ∧ ∀ H', Same H H' → Q (.str (S (likL o t d))) H'
def spworth_of (K : PySem.W.Frag) : Sp := fun vs H Q _ => ∃ (z : List Nat) (p : Addr) (g l : Int), vs = [.str (S z), .ref p] ∧ SqT K H p [.int g, .int l] ∧ Lk z ∧ 0 ≤ g ∧ g ≤ 1000 ∧ 0 ≤ l ∧ l ≤ 1000 ∧ Q (.int (wor g l z)) H
def sp_last_below (K : PySem.W.Frag) : Sp := fun vs H Q _ => ∃ (pp : Addr) (low : Int) (s : Nat → Int) (as : List Addr) (L : List (Nat × Nat)), vs = [.ref pp, .int low] ∧ H pp = some (.lst (as.map V.ref)) ∧ Tup (part4 s) H as L ∧
  ∀ k : Nat, k ≤ L.length → (∀ j p, k ≤ j → L[j]? = some p → low ≤ s p.1) → (∀ j p, k = j + 1 → L[j]? = some p → s p.1 < low) → Q (.int ((k : Int) - 1)) H
def sp_join (K : PySem.W.Frag) : Sp := fun vs H Q _ => ∃ (pp : Addr) (i : Nat) (s : Nat → Int) (as : List Addr) (L : List (Nat × Nat)), vs = [.ref pp, .int (i : Nat), .int (s i), .int (s (i + 1))] ∧ H pp = some (.lst (as.map V.ref)) ∧ Tup (part4 s) H as L ∧ RL s i L ∧ s i < s (i + 1) ∧ i ≤ 1000 ∧
  ∀ (H' : Hp) (as' : List Addr) (L' : List (Nat × Nat)), RL s (i + 1) L' → H' pp = some (.lst (as'.map V.ref)) → Tup (part4 s) H' as' L' → K1 pp H H' → Q .non H'
def spripe (K : PySem.W.Frag) : Sp := fun vs H Q _ => ∃ (z : List Nat) (ps : Addr) (g l : Int), vs = [.str (S z), .ref ps] ∧ SqT K H ps [.int g, .int l] ∧ 1 ≤ g ∧ g ≤ 1000 ∧ 1 ≤ l ∧ l ≤ 1000 ∧ z.length ≤ 1000 ∧
  ∀ (D : Addr) (H' : Hp) (as : List Addr) (L : List (Nat × Nat)), RL (lev g l z) z.length L → Same H H' → H D = none → H' D = some (.lst (as.map V.ref)) → Tup pair2 H' as L → Q (.ref D) H'
def splane_reaches (K : PySem.W.Frag) : Sp := fun vs H Q _ => ∃ (o t : List Nat) (d : Int) (ps : Addr) (g l told : Int), vs = [.str (S o), .str (S t), .int d, .ref ps, .int told] ∧ SqT K H ps [.int g, .int l] ∧ 1 ≤ g ∧ g ≤ 1000 ∧ 1 ≤ l ∧ l ≤ 1000 ∧ o.length ≤ 100 ∧ t.length ≤ 100 ∧ -100000 ≤ d ∧ d ≤ 100000 ∧
  ∀ (D : Addr) (H' : Hp) (as : List Addr), Same H H' → H D = none → H' D = some (.lst (as.map V.ref)) → Tup triV H' as (lrL g l told o t d) → Q (.ref D) H'
def sp_need_seed (K : PySem.W.Frag) : Sp := fun vs H Q _ => ∃ (sd : List Nat), vs = [.str (S sd)] ∧ Sd 8 sd ∧ Q .non H
def spneed_seeds (K : PySem.W.Frag) : Sp := fun vs H Q _ => ∃ (sp : Addr) (sds : List (List Nat)), vs = [.ref sp] ∧ SqL K H sp (sds.map strV) ∧ (∀ sd ∈ sds, Sd 8 sd) ∧ 1 ≤ sds.length ∧ sds.length ≤ 3 ∧ Q .non H
def spunlike_under (K : PySem.W.Frag) : Sp := fun vs H Q _ => ∃ (sd z : List Nat) (p : Nat), vs = [.str (S sd), .str (S z), .int (p : Nat)] ∧ sd.length ≤ 1000 ∧ p + sd.length ≤ z.length ∧ z.length ≤ 100000 ∧
  ∀ (D : Addr) (H' : Hp), Same H H' → H D = none → H' D = some (.lst ((ulL sd z p).map fun k => V.int ((p + k : Nat) : Int))) → Q (.ref D) H'
def spfits (K : PySem.W.Frag) : Sp := fun vs H Q _ => ∃ (sd z : List Nat) (p : Int), vs = [.str (S sd), .str (S z), .int p] ∧ Sd 8 sd ∧ Lk z ∧ z.length ≤ 1000 ∧ ∀ H', Same H H' → Q (.bl (fitsB sd z p)) H'
def sp_tail (K : PySem.W.Frag) : Sp := fun vs H Q _ => ∃ (z : List Nat) (k : Nat), vs = [.str (S z), .int (k : Nat)] ∧ z.length ≤ 1000 ∧ k ≤ 1000 ∧ Q (.str (S (tlK k z))) H
def sp_steps_from (K : PySem.W.Frag) : Sp := fun vs H Q _ => ∃ (sp : Addr) (sds : List (List Nat)) (t : List Nat), vs = [.str (S t), .ref sp] ∧ SqL K H sp (sds.map strV) ∧ (∀ sd ∈ sds, Sd 8 sd) ∧ 1 ≤ sds.length ∧ sds.length ≤ 3 ∧ Lk t ∧ t.length ≤ 100 ∧
  ∀ (d : Addr) (H' : Hp), Same H H' → H d = none → H' d = some (.dK (stepKV (stps sds (kM sds) t))) → Q (.ref d) H'
def sp_steps (K : PySem.W.Frag) : Sp := fun vs H Q _ => ∃ (sp : Addr) (sds : List (List Nat)), vs = [.ref sp] ∧ SqL K H sp (sds.map strV) ∧ (∀ sd ∈ sds, Sd 8 sd) ∧ 1 ≤ sds.length ∧ sds.length ≤ 3 ∧
  ∀ (p : Addr) (ds : List Addr) (H' : Hp), Same H H' → H p = none → H' p = some (.dK (stKV (keys sds (kM sds)) ds)) → StAt H' p sds (kM sds) (keys sds (kM sds)) ds → Q (.ref p) H'
def sp_ring (K : PySem.W.Frag) : Sp := fun vs H Q _ => ∃ (sp : Addr) (sds : List (List Nat)) (k : Nat) (ks : List (List Nat)) (ds : List Addr) (t z : List Nat), vs = [.ref sp, .str (S t), .str (S z)] ∧ StAt H sp sds k ks ds ∧ KeysI sds k ks ∧ t ∈ ks ∧ Lk z ∧ (run sds k t z).isSome = true ∧ z.length ≤ 1000 ∧
  ∀ H', Same H H' → Q (.str (S (rgo k [t] t [] z))) H'
def sp_best_behind (K : PySem.W.Frag) (PT : Addr) : Sp := fun vs H Q _ => ∃ (d bp wp : Addr) (ps : List (Nat × List Nat)) (ks : List (List Nat)) (as : List Addr) (f : List Nat → Int × List Nat) (g l : Int), vs = [.ref d, .ref bp, .ref wp] ∧
  H d = some (.dK (stepKV ps)) ∧ ps.length ≤ 2 ∧ (∀ p ∈ ps, (p.1 = 61 ∨ p.1 = 47) ∧ p.2 ∈ ks) ∧ (∀ p ∈ ps, ∀ p' ∈ ps, p.1 = p'.1 → p.2 = p'.2) ∧ BsAt H bp ks f as ∧ (∀ t ∈ ks, (f t).2.length ≤ 1000) ∧ H wp = some (.dK (wKV g l)) ∧ bp ≠ d ∧ wp ≠ d ∧ LamX.TabS H PT qL ∧
  ∀ (p : Addr) (H' : Hp), SmT PT qL H H' → MxIt H' p ((ps.map (cand g l f)).foldl pick (0, [])) → Q (.ref p) H'
def spbar (K : PySem.W.Frag) (PT : Addr) : Sp := fun vs H Q _ => ∃ (sp ps : Addr) (sds : List (List Nat)) (g l : Int), vs = [.ref sp, .ref ps] ∧ SqL K H sp (sds.map strV) ∧ SqT K H ps [.int g, .int l] ∧ (∀ sd ∈ sds, Sd 8 sd) ∧ 1 ≤ sds.length ∧ sds.length ≤ 3 ∧ 1 ≤ g ∧ g ≤ 9 ∧ 1 ≤ l ∧ l ≤ 9 ∧ LamX.TabS H PT qL ∧ ∀ (p : Addr) (H' : Hp), SmT PT qL H H' → H p = none → H' p = some (.tup (barV (barM sds g l))) → BarOk sds g l (barM sds g l) → Q (.ref p) H'
/-- what is told is more than the bar -/
def Above (r : BarR) (told : Int) : Prop := ∃ m z, r = .bar m z ∧ m < told
def spneed_above (K : PySem.W.Frag) (aTooLow : Addr) : Sp := fun vs H Q E => ∃ (told : Int) (lp : Addr) (r : BarR), vs = [.int told, .ref lp] ∧ SqT K H lp (barV r) ∧ (Above r told → Q .non H) ∧ (¬ Above r told → ∀ dd H', Same H H' → H' dd = some (.xd [("bar", .ref lp)]) → E (.ref aTooLow) (some dd) H')
def spShelf___init__ (K : PySem.W.Frag) (PT : Addr) (cShelf : Addr) : Sp := fun vs H Q _ => ∃ (p dx sc sp : Addr) (lets : List Nat) (g l : Int) (sds : List (List Nat)), vs = [.ref p, .str (S lets), .ref sc, .ref sp] ∧ H p = some (.ins cShelf dx []) ∧ Lets lets ∧ H sc = some (.tup [.int g, .int l]) ∧ 1 ≤ g ∧ g ≤ 9 ∧ 1 ≤ l ∧ l ≤ 9 ∧ H sp = some (.lst (sds.map strV)) ∧ (∀ sd ∈ sds, Sd 8 sd) ∧ 1 ≤ sds.length ∧ sds.length ≤ 3 ∧ LamX.TabS H PT qL ∧
  ∀ (foot : List Addr) (H' : Hp), ShAt cShelf H' p foot ⟨lets, g, l, sds, []⟩ → (∀ b ∈ foot, b = p ∨ H b = none) → SmX p PT qL H H' → Q .non H'
def spShelf_lay (K : PySem.W.Frag) (aBadRow : Addr) (cShelf : Addr) : Sp := fun vs H Q E => ∃ (p : Addr) (foot : List Addr) (s : ShS) (z : List Nat), vs = [.ref p, .str (S z)] ∧ ShAt cShelf H p foot s ∧ Lets s.lets ∧ s.rows.length ≤ 20 ∧ z.length ≤ 1000 ∧ (¬ RowOk z s.lets → E (.ref aBadRow) none H) ∧
  (RowOk z s.lets → ∀ (foot' : List Addr) (H' : Hp), ShAt cShelf H' p foot' { s with rows := s.rows ++ [z] } → Fr foot H H' → Grow foot foot' H → Q (.int (s.rows.length : Nat)) H')
def spShelf_rows (K : PySem.W.Frag) (cShelf : Addr) : Sp := fun vs H Q _ => ∃ (p : Addr) (foot : List Addr) (s : ShS), vs = [.ref p] ∧ ShAt cShelf H p foot s ∧ s.rows.length ≤ 20 ∧
  ∀ (H' : Hp) (r : Addr), Same H H' → H r = none → H' r = some (.lst (s.rows.map strV)) → Q (.ref r) H'
def sp_picked (K : PySem.W.Frag) : Sp := fun vs H Q _ => ∃ (sd r : List Nat) (p : Nat), vs = [.str (S sd), .str (S r), .int (p : Nat)] ∧ sd.length ≤ 100 ∧ r.length ≤ 100 ∧ p + sd.length ≤ r.length ∧ ∀ H', Same H H' → Q (.str (S (pickW sd r p))) H'
def sp_windows_of (K : PySem.W.Frag) : Sp := fun vs H Q _ => ∃ (sp : Addr) (r : List Nat) (sds : List (List Nat)), vs = [.str (S r), .ref sp] ∧ SqL K H sp (sds.map strV) ∧ (∀ sd ∈ sds, Sd 8 sd) ∧ sds.length ≤ 3 ∧ r.length ≤ 60 ∧ ∀ (D : Addr) (as : List Addr) (H' : Hp), Same H H' → H D = none → H' D = some (.lst (as.map V.ref)) → Tup w3V H' as (wo r sds sds.length) → Q (.ref D) H'
def spShelf_windows (K : PySem.W.Frag) (cShelf : Addr) : Sp := fun vs H Q _ => ∃ (p : Addr) (foot : List Addr) (s : ShS), vs = [.ref p] ∧ ShAt cShelf H p foot s ∧ s.rows.length ≤ 20 ∧ (∀ z ∈ s.rows, z.length ≤ 60) ∧
  ∀ (H' : Hp) (r : Addr) (as : List Addr), Same H H' → H r = none → H' r = some (.lst (as.map V.ref)) → Tup winV H' as (winsUp s.sds s.rows) → Q (.ref r) H'
def spShelf__seeded_lanes (K : PySem.W.Frag) (cShelf : Addr) : Sp := fun vs H Q _ => ∃ (p : Addr) (foot : List Addr) (s : ShS) (o : List Nat), vs = [.ref p, .str (S o)] ∧ ShAt cShelf H p foot s ∧ s.rows.length ≤ 8 ∧ (∀ z ∈ s.rows, z.length ≤ 60) ∧ o.length ≤ 60 ∧
  ∀ (H' : Hp) (r : Addr) (as : List Addr) (LN : List (Nat × Int)), Same H H' → H r = none → H' r = some (.lst (as.map V.ref)) → Tup lnV H' as LN → LN.Pairwise LnLt → (∀ n d, (n, d) ∈ LN ↔ SdL s.sds s.rows o n d) → Q (.ref r) H'
def spShelf_find (K : PySem.W.Frag) (aBadRow aTooLow : Addr) (cShelf : Addr) : Sp := fun vs H Q E => ∃ (p : Addr) (foot : List Addr) (s : ShS) (o : List Nat) (told : Int), vs = [.ref p, .str (S o), .int told] ∧ ShAt cShelf H p foot s ∧ Lets s.lets ∧ s.rows.length ≤ 8 ∧ (∀ z ∈ s.rows, z.length ≤ 60) ∧ o.length ≤ 1000 ∧ (¬ RowOk o s.lets → E (.ref aBadRow) none H) ∧ BarOk s.sds s.g s.l (barM s.sds s.g s.l) ∧
  (RowOk o s.lets → Above (barM s.sds s.g s.l) told → ∀ (H' : Hp) (r : Addr) (as : List Addr), Same H H' → H r = none → H' r = some (.lst (as.map V.ref)) → Tup fndV H' as (dueUp s.g s.l told o s.rows) → Q (.ref r) H') ∧
  (RowOk o s.lets → ¬ Above (barM s.sds s.g s.l) told → ∀ (dd lp : Addr) (H' : Hp), Same H H' → H' dd = some (.xd [("bar", .ref lp)]) → H' lp = some (.tup (barV (barM s.sds s.g s.l))) → E (.ref aTooLow) (some dd) H')
def sp_need_place (K : PySem.W.Frag) : Sp := fun vs H Q _ => ∃ (p l : Int), vs = [.int p, .int l] ∧ 0 ≤ p ∧ p ≤ l ∧ Q .non H
def sp_need_sign (K : PySem.W.Frag) : Sp := fun vs H Q _ => ∃ (c : Nat) (lets : List Nat), vs = [.str (S [c]), .str (S lets)] ∧ c ∈ lets ∧ Q .non H
def sp_windows_over (K : PySem.W.Frag) : Sp := fun vs H Q _ => ∃ (sp : Addr) (sds : List (List Nat)) (len first last : Int), vs = [.ref sp, .int len, .int first, .int last] ∧ SqL K H sp (sds.map strV) ∧ (∀ sd ∈ sds, Sd 8 sd) ∧ sds.length ≤ 3 ∧ 0 ≤ len ∧ len ≤ 100 ∧ Q (.int (over sds len first last : Nat)) H
def spShelf__row_of (K : PySem.W.Frag) (cShelf : Addr) : Sp := fun vs H Q _ => ∃ (p : Addr) (foot : List Addr) (s : ShS) (n : Nat), vs = [.ref p, .int (n : Nat)] ∧ ShAt cShelf H p foot s ∧ n < s.rows.length ∧ Q (.str (S (s.rows[n]?.getD []))) H
def spShelf_change (K : PySem.W.Frag) (cShelf : Addr) : Sp := fun vs H Q _ => ∃ (p : Addr) (foot : List Addr) (s : ShS) (n pl c : Nat), vs = [.ref p, .int (n : Nat), .int (pl : Nat), .str (S [c])] ∧ ShAt cShelf H p foot s ∧ n < s.rows.length ∧ pl < (s.rows[n]?.getD []).length ∧ c ∈ s.lets ∧ (s.rows[n]?.getD []).length ≤ 60 ∧
  ∀ (foot' : List Addr) (H' : Hp) (r : Addr), ShAt cShelf H' p foot' { s with rows := s.rows.set n (chg (s.rows[n]?.getD []) pl c) } → Fr foot H H' → Grow foot foot' H → H r = none → r ∉ foot' → H' r = some (.tup [.int (over s.sds (s.rows[n]?.getD []).length pl pl : Nat), .int (over s.sds (s.rows[n]?.getD []).length pl pl : Nat)]) → Q (.ref r) H'
def sp_law_next (K : PySem.W.Frag) : Sp := fun vs H Q _ => ∃ (a b : Addr) (m : Int), vs = [.ref a, .int m] ∧ Src H a b ∧ 0 < m ∧ m < 1000000 ∧ ∀ (r : Int) (H' : Hp), 0 ≤ r → r < m → Src H' a b → Kp a b H H' → Q (.int r) H'
def sp_law_letters (K : PySem.W.Frag) : Sp := fun vs H Q _ => ∃ (a b : Addr), vs = [.ref a] ∧ Src H a b ∧ ∀ (t n : Nat) (H' : Hp), t < 26 → 2 ≤ n → n ≤ 6 → Src H' a b → Kp a b H H' → Q (.str (S (letL t n))) H'
def sp_law_row (K : PySem.W.Frag) : Sp := fun vs H Q _ => ∃ (a b : Addr) (l : List Nat) (m : Int), vs = [.ref a, .str (S l), .int m] ∧ Src H a b ∧ 0 < l.length ∧ l.length ≤ 1000 ∧ 0 ≤ m ∧ m ≤ 1000 ∧ ∀ (z : List Nat) (H' : Hp), (z.length : Int) ≤ m → (∀ c ∈ z, c ∈ l) → Src H' a b → Kp a b H H' → Q (.str (S z)) H'
def sp_law_scale (K : PySem.W.Frag) : Sp := fun vs H Q _ => ∃ (a b : Addr), vs = [.ref a] ∧ Src H a b ∧ ∀ (g l : Int) (p : Addr) (H' : Hp), 1 ≤ g → g ≤ 9 → 1 ≤ l → l ≤ 9 → H' p = some (.tup [.int g, .int l]) → p ≠ a → p ≠ b → Src H' a b → Kp a b H H' → Q (.ref p) H'
def sp_law_seed (K : PySem.W.Frag) : Sp := fun vs H Q _ => ∃ (a b : Addr) (m : Nat), vs = [.ref a, .int (m : Nat)] ∧ Src H a b ∧ 1 ≤ m ∧ m ≤ 100 ∧ ∀ (sd : List Nat) (H' : Hp), Sd m sd → Src H' a b → Kp a b H H' → Q (.str (S sd)) H'
def sp_law_seeds (K : PySem.W.Frag) : Sp := fun vs H Q _ => ∃ (a b : Addr) (m : Nat), vs = [.ref a, .int (m : Nat)] ∧ Src H a b ∧ 1 ≤ m ∧ m ≤ 100 ∧ ∀ (sp : Addr) (sds : List (List Nat)) (H' : Hp), (∀ sd ∈ sds, Sd m sd) → 1 ≤ sds.length → sds.length ≤ 3 → H' sp = some (.lst (sds.map strV)) → H sp = none → sp ≠ a → sp ≠ b → Src H' a b → Kp a b H H' → Q (.ref sp) H'
def sp_law_windows (K : PySem.W.Frag) : Sp := fun vs H Q _ => ∃ (sp rp : Addr) (sds rows : List (List Nat)), vs = [.ref sp, .ref rp] ∧ SqL K H sp (sds.map strV) ∧ SqL K H rp (rows.map strV) ∧ (∀ sd ∈ sds, Sd 8 sd) ∧ sds.length ≤ 4 ∧ rows.length ≤ 10 ∧ (∀ z ∈ rows, z.length ≤ 60) ∧ ∀ (D : Addr) (as : List Addr) (H' : Hp), Same H H' → H D = none → H' D = some (.lst (as.map V.ref)) → Tup winV H' as (winsUp sds rows) → Q (.ref D) H'
def sp_law_tried (K : PySem.W.Frag) (cShelf : Addr) : Sp := fun vs H Q _ => ∃ (p : Addr) (foot : List Addr) (s : ShS) (o : List Nat), vs = [.ref p, .str (S o)] ∧ ShAt cShelf H p foot s ∧ Lets s.lets ∧ s.rows.length ≤ 8 ∧ (∀ z ∈ s.rows, z.length ≤ 60) ∧ o.length ≤ 60 ∧ (∀ c ∈ o, c ∈ s.lets) ∧ BarOk s.sds s.g s.l (barM s.sds s.g s.l) ∧ ∀ H', Same H H' → Q (.bl true) H'
def splaw (K : PySem.W.Frag) (PT : Addr) : Sp := fun vs H Q _ => ∃ (a : Addr) (ns : List Int), vs = [.ref a] ∧ SqL K H a (ns.map V.int) ∧ ns.length ≤ 63 ∧ LamX.TabS H PT qL ∧ ∀ H', Q (.bl true) H'
end Sr
local macro_rules | `(tactic| walk_at "hp") => `(tactic| first | assumption | exact L2.upd_same | ((with_reducible refine Eq.trans (L2.upd_ne ?hne) ?hre); (case hne => first | assumption | exact Ne.symm (by assumption) | exact L2.ne_of_none (by assumption) (by assumption)); (case hre => walk_at "hp")))
local macro_rules | `(tactic| walk_at "sql") => `(tactic| first | assumption | exact L2.SqL.of (by walk_at "hp"))
local macro_rules | `(tactic| walk_at "sqt") => `(tactic| first | assumption | exact L2.SqT.of (by walk_at "hp"))
local macro_rules | `(tactic| walk_at "vc01") => `(tactic| first
  | (with_reducible refine L2.x_seq ?_)
  | (with_reducible refine L2.x_dget ?_)
  | (with_reducible refine L2.x_dnotin ?_)
  | (with_reducible refine L2.x_din ?_)
  | (with_reducible refine L2.x_dput ?_)
  | (with_reducible refine L2.x_dc ?_)
  | (with_reducible refine L2.x_ckw ?_)
  | (with_reducible refine L2.x_iTup ?_)
  | (with_reducible refine L2.x_iKeys ?_)
  | (with_reducible refine L2.x_listVals ?_)
  | (with_reducible refine L2.x_bm0 ?_)
  | (with_reducible refine L2.x_callS ?_)
  | (with_reducible refine L2.x_methW ?_)
  | (with_reducible refine L2.x_setT ?_)
  | (with_reducible refine L2.x_dget2 ?_)
  | (with_reducible refine L2.x_dnewT ?_)
  | (with_reducible refine L2.x_zadd ?_)
  | (with_reducible refine L2.x_make ?_)
  | (with_reducible refine L2.x_meth ?_)
  | (with_reducible refine L2.x_fld ?_)
  | (with_reducible refine L2.x_sfld ?_)
  | (with_reducible refine L2.x_iEnumL ?_)
  | (with_reducible refine L2.x_asg ?_)
  | (with_reducible refine L2.x_name ?_)
  | (with_reducible refine L2.x_op ?_)
  | ((with_reducible (refine L2.x_var (v := ?v) ?hv ?_)); case hv => rfl)
  | (with_reducible refine L2.x_c ?_)
  | (with_reducible refine L2.x_rI0 ?_)
  | ((with_reducible (refine L2.x_rI ?hrI ?_)); case hrI => first | exact ⟨by omega, by omega⟩ | exact .inr ⟨by omega, by omega⟩ | exact .inl ⟨by omega, by omega⟩ | (show (0 : Int) < _; omega) | exact ⟨by omega, by omega, by omega⟩ | exact ⟨by decide, by decide, by decide⟩)
  | (with_reducible refine L2.x_rU ?_)
  | (with_reducible refine L2.x_un ?_)
  | ((with_reducible (refine L2.x_rEq ?hs ?_)); case hs => rfl)
  | ((with_reducible (refine L2.x_rNe ?hs ?_)); case hs => rfl)
  | (with_reducible refine L2.x_test ?_)
  | (with_reducible refine L2.x_b ?_)
  | (with_reducible refine L2.x_bl ?_)
  | (with_reducible refine L2.x_and ?_)
  | (with_reducible refine L2.x_or ?_)
  | (with_reducible refine L2.x_not ?_)
  | (with_reducible refine L2.x_notV ?_)
  | (with_reducible refine L2.x_andV ?_)
  | (with_reducible refine L2.x_orV ?_)
  | (with_reducible refine L2.x_cons ?_)
  | (with_reducible refine L2.x_nil ?_)
  | (with_reducible refine L2.x_tup ?_)
  | (with_reducible refine L2.x_lst ?_)
  | (with_reducible refine L2.x_cb ?_)
  | (with_reducible refine L2.x_call ?_)
  | (with_reducible refine L2.x_chain ?_)
  | (with_reducible refine L2.x_next ?_)
  | (with_reducible refine L2.x_drop ?_)
  | (with_reducible refine L2.x_ret ?_)
  | (with_reducible refine L2.x_gCons ?_)
  | (with_reducible refine L2.x_gNil ?_)
  | (with_reducible refine L2.x_gSub ?_)
  | (with_reducible refine L2.x_bm ?_)
  | (with_reducible refine L2.x_m1 ?_)
  | (with_reducible refine L2.x_m1s ?_)
  | (with_reducible refine L2.x_sl ?_)
  | (with_reducible refine L2.x_noPart ?_)
  | (with_reducible refine L2.x_part ?_)
  | (with_reducible refine L2.x_parti ?_)
  | (with_reducible refine L2.x_rng1 ?_)
  | (with_reducible refine L2.x_rng2 ?_)
  | (with_reducible refine L2.x_lcR ?_)
  | (with_reducible refine L2.x_yes ?_)
  | (with_reducible refine L2.x_iList ?_)
  | (with_reducible refine L2.x_iStr ?_)
  | (with_reducible refine L2.x_iStri ?_)
  | (with_reducible refine L2.x_for ?_)
  | ((with_reducible (refine L2.x_rng2i ?h1 ?_)); (case h1 => exact ⟨by omega, by omega, by omega, by omega⟩))
  | (with_reducible refine L2.x_two ?_)
  | (with_reducible refine L2.x_chain3 ?_)
  | (with_reducible refine L2.x_iEnumS ?_)
  | (with_reducible refine L2.x_par ?_)
  | (with_reducible refine L2.x_parv ?_)
  | ((with_reducible (refine L2.x_aug (x := ?x) ?h ?_)); (case h => rfl))
  | (with_reducible refine L2.x_ipI ?_)
  | (with_reducible refine L2.iteT ?_)
  | (with_reducible refine L2.iteF ?_)
  | (with_reducible refine L2.x_iteNT ?_)
  | (with_reducible refine L2.x_iteNF ?_)
  | (with_reducible refine L2.x_s1 ?_)
  | (with_reducible refine L2.x_rIntB ?_)
  | ((with_reducible (refine L2.x_addS ?h1 ?_)); (case h1 => first | assumption | exact L2.hp_sz (by omega)))
  | (with_reducible refine L2.x_intB ?_)
  | ((with_reducible (refine L2.x_rng1i ?h1 ?h2 ?_)); (case h1 => omega); (case h2 => omega))
  | ((with_reducible (refine L2.x_lenS ?h1 ?_)); (case h1 => first | assumption | exact L2.hp_sz (by omega)))
  | ((with_reducible (refine L2.x_lenL (ys := ?ys) ?h1 ?_)); (case h1 => first | assumption | exact .inl (by walk_at "sql") | exact .inr (by walk_at "sqt")))
  | ((with_reducible (refine L2.x_setL (xs := ?xs) (k := ?k) ?h1 ?h2 ?_)); (case h1 => walk_at "hp"); (case h2 => first | assumption | rfl | exact L2.atI_nat (j := 0) rfl))
  | ((with_reducible (refine L2.x_ixL (xs := ?xs) (v := ?v) ?h1 ?h2 ?_)); (case h1 => walk_at "sql"); (case h2 => first | assumption | rfl | exact L2.atI_nat (j := 0) rfl))
  | ((with_reducible (refine L2.x_ixT (xs := ?xs) (v := ?v) ?h1 ?h2 ?_)); (case h1 => walk_at "sqt"); (case h2 => first | assumption | rfl | exact L2.atI_nat (j := 0) rfl))
  | (with_reducible refine L2.x_enumS ?_)
  | ((with_reducible (refine L2.x_gTup (xs := ?xs) ?h1 ?h2 ?_)); (case h1 => walk_at "sqt"); (case h2 => rfl)))
local macro_rules | `(tactic| walk_at "vc1") => `(tactic| first | (walk_at "vc01") | (with_reducible refine L2.x_ifE ?_) | (with_reducible refine L2.x_ifS ?_))
local macro_rules | `(tactic| walk_at "vc0") => `(tactic| repeat (walk_at "vc01"))
local macro_rules | `(tactic| walk_at "vc") => `(tactic| repeat (walk_at "vc1"))
namespace Sr
open PySem PySem.Spec PyProof.Rows L2 Zs
section
variable {P : Program} {w : World} {K : PySem.W.Frag} {mg : Str → Option Value} {base : Heap}
theorem okneed_letters {f : Addr} {fd : FuncData} {uFEWEST_LETTERS uMOST_LETTERS uALPHABET uLONGEST_ROW uLEAST_WEIGHT uMOST_WEIGHT uLIKE uUNLIKE uSHORTEST_SEED uLONGEST_SEED uPICK uGAP uFEWEST_SEEDS uMOST_SEEDS uBAR uENDLESS : Value} (F : Fun K "need_letters" "need_letters" sneed_letters f fd) (B : Bl mg) (C : Cs mg uFEWEST_LETTERS uMOST_LETTERS uALPHABET uLONGEST_ROW uLEAST_WEIGHT uMOST_WEIGHT uLIKE uUNLIKE uSHORTEST_SEED uLONGEST_SEED uPICK uGAP uFEWEST_SEEDS uMOST_SEEDS uBAR uENDLESS) : FnOk P w K mg base CX0 1 f fd ["letters"] (spneed_letters K) := by
  refine F.ok scneed_letters (fun vs H Q E h => ?_) (fun cdv A outer s H vs Q E hr h => ?_)
  · first
      | (obtain ⟨_, rfl, _⟩ := h; rfl)
      | (obtain ⟨_, _, rfl, _⟩ := h; rfl)
      | (obtain ⟨_, _, _, rfl, _⟩ := h; rfl)
      | (obtain ⟨_, _, _, _, rfl, _⟩ := h; rfl)
      | (obtain ⟨_, _, _, _, _, rfl, _⟩ := h; rfl)
      | (obtain ⟨_, _, _, _, _, _, rfl, _⟩ := h; rfl)
      | (obtain ⟨_, _, _, _, _, _, _, rfl, _⟩ := h; rfl)
      | (obtain ⟨_, _, _, _, _, _, _, _, rfl, _⟩ := h; rfl)
      | (obtain ⟨_, _, _, _, _, _, _, _, _, rfl, _⟩ := h; rfl)
      | (obtain ⟨_, _, _, _, _, _, _, _, _, _, rfl, _⟩ := h; rfl)
      | (obtain ⟨_, _, _, _, _, _, _, _, _, _, _, rfl, _⟩ := h; rfl)
      | (obtain ⟨_, _, _, _, _, _, _, _, _, _, _, _, rfl, _⟩ := h; rfl)
      | (obtain ⟨_, _, _, _, _, _, _, _, _, _, _, _, _, rfl, _⟩ := h; rfl)
      | (obtain ⟨_, _, _, _, _, _, _, _, _, _, _, _, _, _, rfl, _⟩ := h; rfl)
      | (obtain ⟨_, _, _, _, _, _, _, _, _, _, _, _, _, _, _, rfl, _⟩ := h; rfl)
      | (obtain ⟨_, _, _, _, _, _, _, _, _, _, _, _, _, _, _, _, rfl, _⟩ := h; rfl)
      | (obtain ⟨_, _, _, _, _, _, _, _, _, _, _, _, _, _, _, _, _, rfl, _⟩ := h; rfl)
  · obtain ⟨z, rfl, h2, h6, hc, hn, q⟩ := h
    have ez : ((S z).length : Int) = z.length := by rw [len_S]
    have lz : (S z).length ≤ sizeLine := hp_sz (by rw [len_S]; omega)
    have habc : ("abcdefghijklmnopqrstuvwxyz" : Str).cps.toList = (List.range 26).map (97 + ·) := by decide +kernel
    refine ⟨_, 
  (pss_cons (ps_if (PW.pt (pw_or (pt_cmpR op_lt (pe_callB call_len_str (by rfl) B.m_len PySem.boot_len (pa_cons (pv 0) pa_nil)) (pe_glob rfl C.c_FEWEST_LETTERS.2 C.c_FEWEST_LETTERS.1) (nomark _)) (pw_or1 (pt_cmpR op_gt (pe_callB call_len_str (by rfl) B.m_len PySem.boot_len (pa_cons (pv 0) pa_nil)) (pe_glob rfl C.c_MOST_LETTERS.2 C.c_MOST_LETTERS.1) (nomark _))))) 
    (pss_one (ps_never)) pss_nil) 
  (pss_one (ps_for PassesOwn.never rfl (pi_str (pv 0)) (pg_name (i := 1) scneed_letters.nd rfl (.inl rfl)) 
    (pss_cons (ps_if (pt_cmpR op_notIn_sign (pv 1) (pe_glob rfl C.c_ALPHABET.2 C.c_ALPHABET.1) (by rfl)) 
      (pss_one (ps_never)) pss_nil) 
    (pss_one (ps_if (pt_cmpR op_gt (pe_m1 PySem.F.slot_str_count PySem.F.type_str_count mt_count (pv 0) (pv 1)) pe_int (nomark _)) 
      (pss_one (ps_never)) pss_nil)))))), ?_⟩
    walk_at "vc"
    rw [decide_eq_false (show ¬ ((S z).length : Int) < 2 by omega)]
    walk_at "vc"
    rw [decide_eq_false (show ¬ (6 : Int) < ((S z).length : Int) by omega)]
    walk_at "vc"
    refine for_it (walk_str (z := S z)) (fun i σ H' => (∃ y, σ = [some (.str (S z)), y]) ∧ H' = H) ⟨⟨_, rfl⟩, rfl⟩ (fun _ _ _ _ _ => trivial) ?_ ?_
    · rintro i x σ H1 H2 hi ⟨⟨y, rfl⟩, rfl⟩ ⟨rfl, c, hci, rfl⟩
      have hz : z[i]? = some c := by simpa [S] using hci
      have hm := List.mem_of_getElem? hz
      have hcc := hc c hm
      walk_at "vc"
      refine ⟨c, _, rfl, rfl, ?_⟩
      rw [show decide (c ∈ (Str.ofString "abcdefghijklmnopqrstuvwxyz").cps.toList) = true from decide_eq_true (by rw [show (Str.ofString "abcdefghijklmnopqrstuvwxyz").cps.toList = _ from habc]; exact List.mem_map.mpr ⟨c - 97, List.mem_range.mpr (by omega), by omega⟩)]
      walk_at "vc"
      rw [show Txt.count (S z) ⟨#[c]⟩ = (((TL.tl (S z)).count c : Nat) : Int) from count_sign (S z) c, tl_S]
      have h1 := List.nodup_iff_count.mp hn c
      rw [decide_eq_false (show ¬ (1 : Int) < ((z.count c : Nat) : Int) by omega)]
      walk_at "vc"
      exact ⟨⟨_, rfl⟩, rfl⟩
    · rintro σ H1 ⟨⟨y, rfl⟩, rfl⟩
      exact q


theorem okneed_row {f : Addr} {fd : FuncData} {aBadRow : Addr} {uFEWEST_LETTERS uMOST_LETTERS uALPHABET uLONGEST_ROW uLEAST_WEIGHT uMOST_WEIGHT uLIKE uUNLIKE uSHORTEST_SEED uLONGEST_SEED uPICK uGAP uFEWEST_SEEDS uMOST_SEEDS uBAR uENDLESS : Value} (F : Fun K "need_row" "need_row" sneed_row f fd) (B : Bl mg) (XBadRow : XcF K mg "BadRow" aBadRow) (C : Cs mg uFEWEST_LETTERS uMOST_LETTERS uALPHABET uLONGEST_ROW uLEAST_WEIGHT uMOST_WEIGHT uLIKE uUNLIKE uSHORTEST_SEED uLONGEST_SEED uPICK uGAP uFEWEST_SEEDS uMOST_SEEDS uBAR uENDLESS) : FnOk P w K mg base (L2.CX P w) 1 f fd ["row", "letters"] (spneed_row K aBadRow) := by
  refine F.okX scneed_row (fun vs H Q E h => ?_) (fun cdv A outer s H vs Q E hr h => ?_)
  · first
      | (obtain ⟨_, rfl, _⟩ := h; rfl)
      | (obtain ⟨_, _, rfl, _⟩ := h; rfl)
      | (obtain ⟨_, _, _, rfl, _⟩ := h; rfl)
      | (obtain ⟨_, _, _, _, rfl, _⟩ := h; rfl)
      | (obtain ⟨_, _, _, _, _, rfl, _⟩ := h; rfl)
      | (obtain ⟨_, _, _, _, _, _, rfl, _⟩ := h; rfl)
      | (obtain ⟨_, _, _, _, _, _, _, rfl, _⟩ := h; rfl)
      | (obtain ⟨_, _, _, _, _, _, _, _, rfl, _⟩ := h; rfl)
      | (obtain ⟨_, _, _, _, _, _, _, _, _, rfl, _⟩ := h; rfl)
      | (obtain ⟨_, _, _, _, _, _, _, _, _, _, rfl, _⟩ := h; rfl)
      | (obtain ⟨_, _, _, _, _, _, _, _, _, _, _, rfl, _⟩ := h; rfl)
      | (obtain ⟨_, _, _, _, _, _, _, _, _, _, _, _, rfl, _⟩ := h; rfl)
      | (obtain ⟨_, _, _, _, _, _, _, _, _, _, _, _, _, rfl, _⟩ := h; rfl)
      | (obtain ⟨_, _, _, _, _, _, _, _, _, _, _, _, _, _, rfl, _⟩ := h; rfl)
      | (obtain ⟨_, _, _, _, _, _, _, _, _, _, _, _, _, _, _, rfl, _⟩ := h; rfl)
      | (obtain ⟨_, _, _, _, _, _, _, _, _, _, _, _, _, _, _, _, rfl, _⟩ := h; rfl)
      | (obtain ⟨_, _, _, _, _, _, _, _, _, _, _, _, _, _, _, _, _, rfl, _⟩ := h; rfl)
  · obtain ⟨z, lets, rfl, h60, q, qe⟩ := h
    have ez : ((S z).length : Int) = z.length := by rw [len_S]
    have lz : (S z).length ≤ sizeLine := hp_sz (by rw [len_S]; omega)
    refine ⟨_, 
  (pss_cons (ps_if (pt_cmpR op_gt (pe_callB call_len_str (by rfl) B.m_len PySem.boot_len (pa_cons (pv 0) pa_nil)) (pe_glob rfl C.c_LONGEST_ROW.2 C.c_LONGEST_ROW.1) (nomark _)) 
    (pss_one (ps_raise rfl (takes_of rfl rfl rfl rfl) (pmk_own PySem.F.excBase_ValueError XBadRow.xP XBadRow.gP XBadRow.kP (raises_own XBadRow.bP XBadRow.tP) rfl))) pss_nil) 
  (pss_one (ps_for (passes_of rfl) rfl (pi_str (pv 0)) (pg_name (i := 2) scneed_row.nd rfl (.inl rfl)) 
    (pss_one (ps_if (pt_cmpR op_notIn_sign (pv 2) (pv 1) (by rfl)) 
      (pss_one (ps_raise rfl (takes_of rfl rfl rfl rfl) (pmk_own PySem.F.excBase_ValueError XBadRow.xP XBadRow.gP XBadRow.kP (raises_own XBadRow.bP XBadRow.tP) rfl))) pss_nil))))), ?_⟩
    walk_at "vc"
    refine ite2 (fun e => ?_) (fun e => ?_)
    · have e1 := of_decide_eq_true e
      exact qe (fun h => by have := h.1; omega)
    have e1 : ¬ (60 : Int) < ((S z).length : Int) := fun h => e (decide_eq_true h)
    walk_at "vc"
    refine for_it (walk_str (z := S z)) (fun i σ H' => (∃ y, σ = [some (.str (S z)), some (.str (S lets)), y]) ∧ H' = H ∧ ∀ c ∈ z.take i, c ∈ lets) ⟨⟨_, rfl⟩, rfl, fun c hc => by rw [List.take_zero] at hc; cases hc⟩ (fun _ _ _ _ _ => trivial) ?_ ?_
    · rintro i x σ H1 H2 hi ⟨⟨y, rfl⟩, rfl, hall⟩ ⟨rfl, c, hci, rfl⟩
      have hz : z[i]? = some c := by simpa [S] using hci
      walk_at "vc"
      refine ⟨c, _, rfl, rfl, ?_⟩
      by_cases hm : c ∈ lets
      · rw [show decide (c ∈ (S lets).cps.toList) = true from decide_eq_true hm]
        walk_at "vc"
        refine ⟨⟨_, rfl⟩, rfl, fun c' hc' => ?_⟩
        rw [List.take_add_one, hz] at hc'
        rcases List.mem_append.mp hc' with h | h
        · exact hall c' h
        · obtain rfl : c' = c := by simpa using h
          exact hm
      · rw [show decide (c ∈ (S lets).cps.toList) = false from decide_eq_false hm]
        walk_at "vc"
        exact qe (fun h => hm (h.2 c (List.mem_of_getElem? hz)))
    · rintro σ H1 ⟨⟨y, rfl⟩, rfl, hall⟩
      refine q ⟨by omega, ?_⟩
      rw [List.take_of_length_le (by show z.length ≤ (S z).cps.size; simp [S])] at hall
      exact hall


theorem okneed_scale {f : Addr} {fd : FuncData} {uFEWEST_LETTERS uMOST_LETTERS uALPHABET uLONGEST_ROW uLEAST_WEIGHT uMOST_WEIGHT uLIKE uUNLIKE uSHORTEST_SEED uLONGEST_SEED uPICK uGAP uFEWEST_SEEDS uMOST_SEEDS uBAR uENDLESS : Value} (F : Fun K "need_scale" "need_scale" sneed_scale f fd) (B : Bl mg) (C : Cs mg uFEWEST_LETTERS uMOST_LETTERS uALPHABET uLONGEST_ROW uLEAST_WEIGHT uMOST_WEIGHT uLIKE uUNLIKE uSHORTEST_SEED uLONGEST_SEED uPICK uGAP uFEWEST_SEEDS uMOST_SEEDS uBAR uENDLESS) : FnOk P w K mg base CX0 1 f fd ["scale"] (spneed_scale K) := by
  refine F.ok scneed_scale (fun vs H Q E h => ?_) (fun cdv A outer s H vs Q E hr h => ?_)
  · first
      | (obtain ⟨_, rfl, _⟩ := h; rfl)
      | (obtain ⟨_, _, rfl, _⟩ := h; rfl)
      | (obtain ⟨_, _, _, rfl, _⟩ := h; rfl)
      | (obtain ⟨_, _, _, _, rfl, _⟩ := h; rfl)
      | (obtain ⟨_, _, _, _, _, rfl, _⟩ := h; rfl)
      | (obtain ⟨_, _, _, _, _, _, rfl, _⟩ := h; rfl)
      | (obtain ⟨_, _, _, _, _, _, _, rfl, _⟩ := h; rfl)
      | (obtain ⟨_, _, _, _, _, _, _, _, rfl, _⟩ := h; rfl)
      | (obtain ⟨_, _, _, _, _, _, _, _, _, rfl, _⟩ := h; rfl)
      | (obtain ⟨_, _, _, _, _, _, _, _, _, _, rfl, _⟩ := h; rfl)
      | (obtain ⟨_, _, _, _, _, _, _, _, _, _, _, rfl, _⟩ := h; rfl)
      | (obtain ⟨_, _, _, _, _, _, _, _, _, _, _, _, rfl, _⟩ := h; rfl)
      | (obtain ⟨_, _, _, _, _, _, _, _, _, _, _, _, _, rfl, _⟩ := h; rfl)
      | (obtain ⟨_, _, _, _, _, _, _, _, _, _, _, _, _, _, rfl, _⟩ := h; rfl)
      | (obtain ⟨_, _, _, _, _, _, _, _, _, _, _, _, _, _, _, rfl, _⟩ := h; rfl)
      | (obtain ⟨_, _, _, _, _, _, _, _, _, _, _, _, _, _, _, _, rfl, _⟩ := h; rfl)
      | (obtain ⟨_, _, _, _, _, _, _, _, _, _, _, _, _, _, _, _, _, rfl, _⟩ := h; rfl)
  · obtain ⟨p, g, l, rfl, hp, g1, g2, l1, l2, q⟩ := h
    refine ⟨_, 
  (pss_cons (ps_asg (pv 0) (pg_tup rfl (pgs_cons (pg_name (i := 1) scneed_scale.nd rfl (.inl rfl)) (pgs_cons (pg_name (i := 2) scneed_scale.nd rfl (.inl rfl)) pgs_nil)))) 
  (pss_one (ps_for PassesOwn.never rfl (pi_tup (pe_tup (pa_cons (pv 1) (pa_cons (pv 2) pa_nil)))) (pg_name (i := 3) scneed_scale.nd rfl (.inl rfl)) 
    (pss_one (ps_if (PW.pt (pw_or (pt_cmpR op_lt (pv 3) (pe_glob rfl C.c_LEAST_WEIGHT.2 C.c_LEAST_WEIGHT.1) (nomark _)) (pw_or1 (pt_cmpR op_gt (pv 3) (pe_glob rfl C.c_MOST_WEIGHT.2 C.c_MOST_WEIGHT.1) (nomark _))))) 
      (pss_one (ps_never)) pss_nil))))), ?_⟩
    walk_at "vc"
    refine ⟨(show 2 ≤ sizeLine by decide), fun tp htp => ?_⟩
    have sm1 : Same H (upd H tp (.tup [.int g, .int l])) := same_upd htp
    have htp1 : upd H tp (.tup [.int g, .int l]) tp = some (.tup [.int g, .int l]) := upd_same
    generalize upd H tp (.tup [.int g, .int l]) = H1 at sm1 htp1
    refine ⟨tp, rfl, ⟨_, SqT.of htp1⟩, ?_⟩
    refine for_it (walk_tup (xs := [.int g, .int l])) (fun i σ H' => (∃ y, σ = [some (.ref p), some (.int g), some (.int l), y]) ∧ H' = H1) ⟨⟨_, rfl⟩, rfl⟩ (fun i σ H' _ h => by rw [h.2]; exact SqT.of htp1) ?_ ?_
    · rintro i x σ H2 H3 hi ⟨⟨y, rfl⟩, rfl⟩ ⟨rfl, hx⟩
      obtain ⟨n, rfl, n1, n9⟩ : ∃ n : Int, x = .int n ∧ 1 ≤ n ∧ n ≤ 9 := by
        have hi2 : i < 2 := hi
        have : i = 0 ∨ i = 1 := by omega
        rcases this with e | e
        · subst e; exact ⟨g, (Option.some.inj hx).symm, g1, g2⟩
        · subst e; exact ⟨l, (Option.some.inj hx).symm, l1, l2⟩
      walk_at "vc"
      rw [decide_eq_false (show ¬ n < 1 by omega)]
      walk_at "vc"
      rw [decide_eq_false (show ¬ 9 < n by omega)]
      walk_at "vc"
      exact ⟨⟨_, rfl⟩, rfl⟩
    · rintro σ H2 ⟨⟨y, rfl⟩, rfl⟩
      exact q _ sm1


theorem oklane_begin {f : Addr} {fd : FuncData} (F : Fun K "lane_begin" "lane_begin" slane_begin f fd) (B : Bl mg) : FnOk P w K mg base CX0 1 f fd ["shift"] (splane_begin K) := by
  refine F.ok sclane_begin (fun vs H Q E h => ?_) (fun cdv A outer s H vs Q E hr h => ?_)
  · first
      | (obtain ⟨_, rfl, _⟩ := h; rfl)
      | (obtain ⟨_, _, rfl, _⟩ := h; rfl)
      | (obtain ⟨_, _, _, rfl, _⟩ := h; rfl)
      | (obtain ⟨_, _, _, _, rfl, _⟩ := h; rfl)
      | (obtain ⟨_, _, _, _, _, rfl, _⟩ := h; rfl)
      | (obtain ⟨_, _, _, _, _, _, rfl, _⟩ := h; rfl)
      | (obtain ⟨_, _, _, _, _, _, _, rfl, _⟩ := h; rfl)
      | (obtain ⟨_, _, _, _, _, _, _, _, rfl, _⟩ := h; rfl)
      | (obtain ⟨_, _, _, _, _, _, _, _, _, rfl, _⟩ := h; rfl)
      | (obtain ⟨_, _, _, _, _, _, _, _, _, _, rfl, _⟩ := h; rfl)
      | (obtain ⟨_, _, _, _, _, _, _, _, _, _, _, rfl, _⟩ := h; rfl)
      | (obtain ⟨_, _, _, _, _, _, _, _, _, _, _, _, rfl, _⟩ := h; rfl)
      | (obtain ⟨_, _, _, _, _, _, _, _, _, _, _, _, _, rfl, _⟩ := h; rfl)
      | (obtain ⟨_, _, _, _, _, _, _, _, _, _, _, _, _, _, rfl, _⟩ := h; rfl)
      | (obtain ⟨_, _, _, _, _, _, _, _, _, _, _, _, _, _, _, rfl, _⟩ := h; rfl)
      | (obtain ⟨_, _, _, _, _, _, _, _, _, _, _, _, _, _, _, _, rfl, _⟩ := h; rfl)
      | (obtain ⟨_, _, _, _, _, _, _, _, _, _, _, _, _, _, _, _, _, rfl, _⟩ := h; rfl)
  · obtain ⟨d, rfl, q⟩ := h
    refine ⟨_, 
  (pss_one (ps_ret (pe_callB (call_max2 rfl) (by rfl) B.m_max (by decide +kernel) (pa_cons pe_int (pa_cons (pe_un un_neg (pv 0)) pa_nil))))), ?_⟩
    walk_at "vc"
    have e : (if -d > 0 then -d else 0) = ((bgn d : Nat) : Int) := by unfold bgn; omega
    rw [e]
    exact q


theorem oklikes_of {f : Addr} {fd : FuncData} {uFEWEST_LETTERS uMOST_LETTERS uALPHABET uLONGEST_ROW uLEAST_WEIGHT uMOST_WEIGHT uLIKE uUNLIKE uSHORTEST_SEED uLONGEST_SEED uPICK uGAP uFEWEST_SEEDS uMOST_SEEDS uBAR uENDLESS : Value} {flane_begin : Addr} {fdlane_begin : FuncData} (F : Fun K "likes_of" "likes_of" slikes_of f fd) (B : Bl mg) (C : Cs mg uFEWEST_LETTERS uMOST_LETTERS uALPHABET uLONGEST_ROW uLEAST_WEIGHT uMOST_WEIGHT uLIKE uUNLIKE uSHORTEST_SEED uLONGEST_SEED uPICK uGAP uFEWEST_SEEDS uMOST_SEEDS uBAR uENDLESS) (Dlane_begin : Dn P w K mg base "lane_begin" 1 ["shift"] (splane_begin K) flane_begin fdlane_begin) : FnOk P w K mg base CX0 2 f fd ["one", "other", "shift"] (splikes_of K) := by
  refine F.ok sclikes_of (fun vs H Q E h => ?_) (fun cdv A outer s H vs Q E hr h => ?_)
  · first
      | (obtain ⟨_, rfl, _⟩ := h; rfl)
      | (obtain ⟨_, _, rfl, _⟩ := h; rfl)
      | (obtain ⟨_, _, _, rfl, _⟩ := h; rfl)
      | (obtain ⟨_, _, _, _, rfl, _⟩ := h; rfl)
      | (obtain ⟨_, _, _, _, _, rfl, _⟩ := h; rfl)
      | (obtain ⟨_, _, _, _, _, _, rfl, _⟩ := h; rfl)
      | (obtain ⟨_, _, _, _, _, _, _, rfl, _⟩ := h; rfl)
      | (obtain ⟨_, _, _, _, _, _, _, _, rfl, _⟩ := h; rfl)
      | (obtain ⟨_, _, _, _, _, _, _, _, _, rfl, _⟩ := h; rfl)
      | (obtain ⟨_, _, _, _, _, _, _, _, _, _, rfl, _⟩ := h; rfl)
      | (obtain ⟨_, _, _, _, _, _, _, _, _, _, _, rfl, _⟩ := h; rfl)
      | (obtain ⟨_, _, _, _, _, _, _, _, _, _, _, _, rfl, _⟩ := h; rfl)
      | (obtain ⟨_, _, _, _, _, _, _, _, _, _, _, _, _, rfl, _⟩ := h; rfl)
      | (obtain ⟨_, _, _, _, _, _, _, _, _, _, _, _, _, _, rfl, _⟩ := h; rfl)
      | (obtain ⟨_, _, _, _, _, _, _, _, _, _, _, _, _, _, _, rfl, _⟩ := h; rfl)
      | (obtain ⟨_, _, _, _, _, _, _, _, _, _, _, _, _, _, _, _, rfl, _⟩ := h; rfl)
      | (obtain ⟨_, _, _, _, _, _, _, _, _, _, _, _, _, _, _, _, _, rfl, _⟩ := h; rfl)
  · obtain ⟨o, t, d, rfl, ho, ht, hd1, hd2, q⟩ := h
    have eo : ((S o).length : Int) = o.length := by rw [len_S]
    have et : ((S t).length : Int) = t.length := by rw [len_S]
    have lo : (S o).length ≤ sizeLine := hp_sz (by rw [len_S]; omega)
    have lt : (S t).length ≤ sizeLine := hp_sz (by rw [len_S]; omega)
    refine ⟨_, 
  (pss_cons (ps_set (i := 3) sclikes_of.nd rfl (.inl rfl) (pe_call Dlane_begin.ok hr (by rfl) Dlane_begin.g Dlane_begin.kp Dlane_begin.b .nil pass0 (pa_cons (pv 2) pa_nil))) 
  (pss_cons (ps_set (i := 4) sclikes_of.nd rfl (.inl rfl) (pe_callB (call_min2 rfl) (by rfl) B.m_min (by decide +kernel) (pa_cons (pe_callB call_len_str (by rfl) B.m_len PySem.boot_len (pa_cons (pv 0) pa_nil)) (pa_cons (pe_op op_sub (pe_callB call_len_str (by rfl) B.m_len PySem.boot_len (pa_cons (pv 1) pa_nil)) (pv 2)) pa_nil)))) 
  (pss_one (ps_ret (pe_join pe_str (pe_lc (own := [("place", 5)]) (g := gName 5) (tt := tYes) rfl sclikes_of.nd (pi_range2 rfl B.m_range (pa_cons (pv 3) (pa_cons (pv 4) pa_nil))) (blkOk_by (N := nlikes_of) (sc := defScope slikes_of) (by decide +kernel)) (fun _ _ _ _ _ => (pg_name (i := 5) sclikes_of.nd rfl (.inl rfl))) (fun _ _ _ _ _ => pts_nil) (fun _ _ _ _ _ => (pe_ifExp (pt_cmpR op_eq (pe_ix ix_str (pv 0) (pv 5) (fun _ _ => rfl)) (pe_ix ix_str (pv 1) (pe_op op_add (pv 5) (pv 2)) (fun _ _ => rfl)) (nomark _)) (pe_glob rfl C.c_LIKE.2 C.c_LIKE.1) (pe_glob rfl C.c_UNLIKE.2 C.c_UNLIKE.1))))))))), ?_⟩
    walk_at "vc"
    refine ⟨d, rfl, ?_⟩
    walk_at "vc"
    have eb : ((bgn d : Nat) : Int) = if -d > 0 then -d else 0 := by unfold bgn; omega
    refine ⟨⟨by omega, by omega, by split <;> omega, by split <;> omega⟩, ?_⟩
    have en : ((if ((S t).length : Int) - d < ((S o).length : Int) then ((S t).length : Int) - d else ((S o).length : Int)) - ((bgn d : Nat) : Int)).toNat = lkn o.length t.length d := by
      rw [eo, et]
      unfold lkn
      omega
    rw [en]
    intro D hD
    refine lc_range (fun i H' => Same H H' ∧ H' D = some (.lst ((List.range i).map fun i => V.str (sg (lk1 o t d (bgn d + i)))))) ⟨same_upd hD, upd_same⟩ (fun i H' hi h => ?_) (fun H' h => ?_)
    · walk_at "vc"
      refine ⟨rfl, ?_⟩
      have h1 : bgn d + i < o.length := by unfold lkn at hi; omega
      have h2 : 0 ≤ ((bgn d + i : Nat) : Int) + d := by unfold bgn; omega
      have h3 : (((bgn d + i : Nat) : Int) + d).toNat < t.length := by unfold lkn at hi; omega
      walk_at "vc"
      refine x_ixS lo (c := o[bgn d + i]) (atI_of (by omega) ?_) ?_
      · have e : (((bgn d : Nat) : Int) + (i : Int)).toNat = bgn d + i := by omega
        rw [e]
        exact List.getElem?_eq_getElem h1
      walk_at "vc"
      refine x_ixS lt (c := t[(((bgn d + i : Nat) : Int) + d).toNat]) (atI_of (by omega) ?_) ?_
      · have e : ((((bgn d : Nat) : Int) + (i : Int)) + d).toNat = (((bgn d + i : Nat) : Int) + d).toNat := by omega
        rw [e]
        exact List.getElem?_eq_getElem h3
      walk_at "vc"
      have ek : ∀ c : Nat, lk1 o t d (bgn d + i) = c → ∃ acc, H' D = some (.lst acc) ∧ acc.length < sizeLine ∧ (Same H (upd H' D (.lst (acc ++ [V.str (sg c)]))) ∧ upd H' D (.lst (acc ++ [V.str (sg c)])) D = some (.lst ((List.range (i + 1)).map fun i => V.str (sg (lk1 o t d (bgn d + i)))))) :=
        fun c hc => pv_step hD h.1 h.2 (by unfold lkn at hi; omega) (by rw [hc])
      have el : lk1 o t d (bgn d + i) = if o[bgn d + i] = t[(((bgn d + i : Nat) : Int) + d).toNat] then 61 else 47 := by
        unfold lk1
        rw [List.getElem?_eq_getElem h1, List.getElem?_eq_getElem h3]
        simp only [Option.some.injEq]
      refine ite2 (fun e => ?_) (fun e => ?_)
      · walk_at "vc"
        refine ek 61 ?_
        have e' := of_decide_eq_true e
        rw [el, if_pos]
        simpa using e'
      · walk_at "vc"
        refine ek 47 ?_
        rw [el, if_neg]
        intro e'
        exact e (decide_eq_true (by rw [e']))
    · refine join_end (cs := likL o t d) ?_ (by have := likL_le o t d; omega) ?_
      · rw [h.2, likL_eq, List.map_map]
        rfl
      · exact q H' h.1


theorem okworth_of {f : Addr} {fd : FuncData} {uFEWEST_LETTERS uMOST_LETTERS uALPHABET uLONGEST_ROW uLEAST_WEIGHT uMOST_WEIGHT uLIKE uUNLIKE uSHORTEST_SEED uLONGEST_SEED uPICK uGAP uFEWEST_SEEDS uMOST_SEEDS uBAR uENDLESS : Value} (F : Fun K "worth_of" "worth_of" sworth_of f fd) (B : Bl mg) (C : Cs mg uFEWEST_LETTERS uMOST_LETTERS uALPHABET uLONGEST_ROW uLEAST_WEIGHT uMOST_WEIGHT uLIKE uUNLIKE uSHORTEST_SEED uLONGEST_SEED uPICK uGAP uFEWEST_SEEDS uMOST_SEEDS uBAR uENDLESS) : FnOk P w K mg base CX0 1 f fd ["likes", "scale"] (spworth_of K) := by
  refine F.ok scworth_of (fun vs H Q E h => ?_) (fun cdv A outer s H vs Q E hr h => ?_)
  · first
      | (obtain ⟨_, rfl, _⟩ := h; rfl)
      | (obtain ⟨_, _, rfl, _⟩ := h; rfl)
      | (obtain ⟨_, _, _, rfl, _⟩ := h; rfl)
      | (obtain ⟨_, _, _, _, rfl, _⟩ := h; rfl)
      | (obtain ⟨_, _, _, _, _, rfl, _⟩ := h; rfl)
      | (obtain ⟨_, _, _, _, _, _, rfl, _⟩ := h; rfl)
      | (obtain ⟨_, _, _, _, _, _, _, rfl, _⟩ := h; rfl)
      | (obtain ⟨_, _, _, _, _, _, _, _, rfl, _⟩ := h; rfl)
      | (obtain ⟨_, _, _, _, _, _, _, _, _, rfl, _⟩ := h; rfl)
      | (obtain ⟨_, _, _, _, _, _, _, _, _, _, rfl, _⟩ := h; rfl)
      | (obtain ⟨_, _, _, _, _, _, _, _, _, _, _, rfl, _⟩ := h; rfl)
      | (obtain ⟨_, _, _, _, _, _, _, _, _, _, _, _, rfl, _⟩ := h; rfl)
      | (obtain ⟨_, _, _, _, _, _, _, _, _, _, _, _, _, rfl, _⟩ := h; rfl)
      | (obtain ⟨_, _, _, _, _, _, _, _, _, _, _, _, _, _, rfl, _⟩ := h; rfl)
      | (obtain ⟨_, _, _, _, _, _, _, _, _, _, _, _, _, _, _, rfl, _⟩ := h; rfl)
      | (obtain ⟨_, _, _, _, _, _, _, _, _, _, _, _, _, _, _, _, rfl, _⟩ := h; rfl)
      | (obtain ⟨_, _, _, _, _, _, _, _, _, _, _, _, _, _, _, _, _, rfl, _⟩ := h; rfl)
  · obtain ⟨z, p, g, l, rfl, hT, hz, hg1, hg2, hl1, hl2, q⟩ := h
    refine ⟨_, 
  (pss_cons (ps_asg (pv 1) (pg_tup rfl (pgs_cons (pg_name (i := 2) scworth_of.nd rfl (.inl rfl)) (pgs_cons (pg_name (i := 3) scworth_of.nd rfl (.inl rfl)) pgs_nil)))) 
  (pss_one (ps_ret (pe_op op_sub (pe_op op_mul (pv 2) (pe_m1 PySem.F.slot_str_count PySem.F.type_str_count mt_count (pv 0) (pe_glob rfl C.c_LIKE.2 C.c_LIKE.1))) (pe_op op_mul (pv 3) (pe_m1 PySem.F.slot_str_count PySem.F.type_str_count mt_count (pv 0) (pe_glob rfl C.c_UNLIKE.2 C.c_UNLIKE.1))))))), ?_⟩
    walk_at "vc"
    have e1 := count_sign (S z) 61
    have e2 := count_sign (S z) 47
    have e3 := wor_count g l hz
    rw [tl_S] at e1 e2
    show Q (V.int (g * Txt.count (S z) (sg 61) - l * Txt.count (S z) (sg 47))) H
    rw [e1, e2, e3]
    exact q


theorem ok_last_below {f : Addr} {fd : FuncData} (F : Fun K "_last_below" "_last_below" s_last_below f fd) (B : Bl mg) : FnOk P w K mg base CX0 1 f fd ["parts", "low"] (sp_last_below K) := by
  refine F.ok sc_last_below (fun vs H Q E h => ?_) (fun cdv A outer s H vs Q E hr h => ?_)
  · first
      | (obtain ⟨_, rfl, _⟩ := h; rfl)
      | (obtain ⟨_, _, rfl, _⟩ := h; rfl)
      | (obtain ⟨_, _, _, rfl, _⟩ := h; rfl)
      | (obtain ⟨_, _, _, _, rfl, _⟩ := h; rfl)
      | (obtain ⟨_, _, _, _, _, rfl, _⟩ := h; rfl)
      | (obtain ⟨_, _, _, _, _, _, rfl, _⟩ := h; rfl)
      | (obtain ⟨_, _, _, _, _, _, _, rfl, _⟩ := h; rfl)
      | (obtain ⟨_, _, _, _, _, _, _, _, rfl, _⟩ := h; rfl)
      | (obtain ⟨_, _, _, _, _, _, _, _, _, rfl, _⟩ := h; rfl)
      | (obtain ⟨_, _, _, _, _, _, _, _, _, _, rfl, _⟩ := h; rfl)
      | (obtain ⟨_, _, _, _, _, _, _, _, _, _, _, rfl, _⟩ := h; rfl)
      | (obtain ⟨_, _, _, _, _, _, _, _, _, _, _, _, rfl, _⟩ := h; rfl)
      | (obtain ⟨_, _, _, _, _, _, _, _, _, _, _, _, _, rfl, _⟩ := h; rfl)
      | (obtain ⟨_, _, _, _, _, _, _, _, _, _, _, _, _, _, rfl, _⟩ := h; rfl)
      | (obtain ⟨_, _, _, _, _, _, _, _, _, _, _, _, _, _, _, rfl, _⟩ := h; rfl)
      | (obtain ⟨_, _, _, _, _, _, _, _, _, _, _, _, _, _, _, _, rfl, _⟩ := h; rfl)
      | (obtain ⟨_, _, _, _, _, _, _, _, _, _, _, _, _, _, _, _, _, rfl, _⟩ := h; rfl)
  · obtain ⟨pp, low, s, as, L, rfl, hpp, hT, q⟩ := h
    refine ⟨_, 
  (pss_cons (ps_set (i := 2) sc_last_below.nd rfl (.inl rfl) (pe_op op_sub (pe_callB call_len_seq (by rfl) B.m_len PySem.boot_len (pa_cons (pv 0) pa_nil)) pe_int)) 
  (pss_cons (ps_while PassesOwn.never (PW.pt (pw_and (pt_cmpR op_ge (pv 2) pe_int (nomark _)) (pw_and1 (pt_cmpR op_ge (pe_ix ix_tup (pe_ix ix_list (pv 0) (pv 2) (fun _ _ => rfl)) pe_int (fun _ _ => rfl)) (pv 1) (nomark _))))) 
    (pss_one (ps_aug (i := 2) sc_last_below.nd rfl (.inl rfl) pe_int ip_sub))) 
  (pss_one (ps_ret (pv 2))))), ?_⟩
    walk_at "vc"
    rw [hT.len]
    refine ⟨fun m σ H' => σ = [some (.ref pp), some (.int low), some (.int ((m : Int) - 1))] ∧ H' = H ∧ m ≤ L.length ∧ ∀ j p, m ≤ j → L[j]? = some p → low ≤ s p.1, ⟨L.length, rfl, rfl, Nat.le_refl _, fun j p h1 h2 => ?_⟩, ?_⟩
    · have := (List.getElem?_eq_some_iff.mp h2).1
      omega
    · rintro m σ H' ⟨rfl, rfl, hm, hall⟩
      walk_at "vc"
      refine ite2 (fun e => ?_) (fun e => ?_)
      · have e0 := of_decide_eq_true e
        obtain ⟨k, rfl⟩ : ∃ k, m = k + 1 := ⟨m - 1, by omega⟩
        obtain ⟨p, hp⟩ : ∃ p, L[k]? = some p := ⟨L[k], List.getElem?_eq_getElem (by omega)⟩
        obtain ⟨a, ha1, ha2, ha3⟩ := hT.get hp
        have hat : atI (as.map V.ref) (((k + 1 : Nat) : Int) - 1) = some (.ref a) := by
          have e1 : ((k + 1 : Nat) : Int) - 1 = ((k : Nat) : Int) := by omega
          rw [e1]
          exact atI_nat ha2
        walk_at "vc"
        refine ite2 (fun e2 => ?_) (fun e2 => ?_)
        · have e3 : low ≤ s p.1 := of_decide_eq_true e2
          refine ⟨fun σ' H2 => σ' = [some (.ref pp), some (.int low), some (.int ((k : Int) - 1))] ∧ H2 = H', fun σ' H2 h => ⟨k, by omega, h.1, h.2, by omega, fun j q h1 h2 => ?_⟩, ?_⟩
          · by_cases hj : j = k
            · subst hj
              have : q = p := Option.some.inj (h2.symm.trans hp)
              rw [this]
              exact e3
            · exact hall j q (by omega) h2
          · walk_at "vc"
            refine ⟨?_, rfl⟩
            have e1 : ((k + 1 : Nat) : Int) - 1 - 1 = (k : Int) - 1 := by omega
            rw [e1]
            rfl
        · walk_at "vc"
          refine q (k + 1) hm hall fun j p' h1 h2 => ?_
          have : j = k := by omega
          subst this
          have : p' = p := Option.some.inj (h2.symm.trans hp)
          rw [this]
          have e3 : ¬ low ≤ s p.1 := fun h => e2 (decide_eq_true h)
          omega
      · walk_at "vc"
        refine q m hm hall fun j p h1 h2 => ?_
        have e0 : ¬ (0 : Int) ≤ (m : Int) - 1 := fun h => e (decide_eq_true h)
        omega


theorem ok_join {f : Addr} {fd : FuncData} {f_last_below : Addr} {fd_last_below : FuncData} (F : Fun K "_join" "_join" s_join f fd) (B : Bl mg) (D_last_below : Dn P w K mg base "_last_below" 1 ["parts", "low"] (sp_last_below K) f_last_below fd_last_below) : FnOk P w K mg base CX0 2 f fd ["parts", "place", "low", "high"] (sp_join K) := by
  refine F.ok sc_join (fun vs H Q E h => ?_) (fun cdv A outer s H vs Q E hr h => ?_)
  · first
      | (obtain ⟨_, rfl, _⟩ := h; rfl)
      | (obtain ⟨_, _, rfl, _⟩ := h; rfl)
      | (obtain ⟨_, _, _, rfl, _⟩ := h; rfl)
      | (obtain ⟨_, _, _, _, rfl, _⟩ := h; rfl)
      | (obtain ⟨_, _, _, _, _, rfl, _⟩ := h; rfl)
      | (obtain ⟨_, _, _, _, _, _, rfl, _⟩ := h; rfl)
      | (obtain ⟨_, _, _, _, _, _, _, rfl, _⟩ := h; rfl)
      | (obtain ⟨_, _, _, _, _, _, _, _, rfl, _⟩ := h; rfl)
      | (obtain ⟨_, _, _, _, _, _, _, _, _, rfl, _⟩ := h; rfl)
      | (obtain ⟨_, _, _, _, _, _, _, _, _, _, rfl, _⟩ := h; rfl)
      | (obtain ⟨_, _, _, _, _, _, _, _, _, _, _, rfl, _⟩ := h; rfl)
      | (obtain ⟨_, _, _, _, _, _, _, _, _, _, _, _, rfl, _⟩ := h; rfl)
      | (obtain ⟨_, _, _, _, _, _, _, _, _, _, _, _, _, rfl, _⟩ := h; rfl)
      | (obtain ⟨_, _, _, _, _, _, _, _, _, _, _, _, _, _, rfl, _⟩ := h; rfl)
      | (obtain ⟨_, _, _, _, _, _, _, _, _, _, _, _, _, _, _, rfl, _⟩ := h; rfl)
      | (obtain ⟨_, _, _, _, _, _, _, _, _, _, _, _, _, _, _, _, rfl, _⟩ := h; rfl)
      | (obtain ⟨_, _, _, _, _, _, _, _, _, _, _, _, _, _, _, _, _, rfl, _⟩ := h; rfl)
  · obtain ⟨pp, i, s, as, L, rfl, hpp, hT, hRL, hlt, hi, q⟩ := h
    refine ⟨_, 
  (pss_cons (ps_set (i := 4) sc_join.nd rfl (.inl rfl) (pv 1)) 
  (pss_cons (ps_set (i := 5) sc_join.nd rfl (.inl rfl) (pe_call D_last_below.ok hr (by rfl) D_last_below.g D_last_below.kp D_last_below.b .nil pass0 (pa_cons (pv 0) (pa_cons (pv 2) pa_nil)))) 
  (pss_cons (ps_while PassesOwn.never (PW.pt (pw_and (pt_cmpR op_ge (pv 5) pe_int (nomark _)) (pw_and1 (pt_cmpR op_lt (pe_ix ix_tup (pe_ix ix_list (pv 0) (pv 5) (fun _ _ => rfl)) pe_int (fun _ _ => rfl)) (pv 3) (nomark _))))) 
    (pss_cons (ps_par (i := 4) (j := 2) (by rfl) sc_join.nd rfl rfl (by decide) rfl rfl (pa_cons (pe_ix ix_tup (pe_ix ix_list (pv 0) (pv 5) (fun _ _ => rfl)) pe_int (fun _ _ => rfl)) (pa_cons (pe_ix ix_tup (pe_ix ix_list (pv 0) (pv 5) (fun _ _ => rfl)) pe_int (fun _ _ => rfl)) pa_nil)) (by rfl)) 
    (pss_cons (ps_delFrom (pv 0) (pv 5)) 
    (pss_one (ps_set (i := 5) sc_join.nd rfl (.inl rfl) (pe_call D_last_below.ok hr (by rfl) D_last_below.g D_last_below.kp D_last_below.b .nil pass0 (pa_cons (pv 0) (pa_cons (pv 2) pa_nil)))))))) 
  (pss_one (ps_expr (pe_bm PySem.F.plainAttrs_list PySem.F.slot_list_append PySem.F.type_list_append mt_append (pv 0) (pa_cons (pe_tup (pa_cons (pv 4) (pa_cons (pe_op op_add (pv 1) pe_int) (pa_cons (pv 2) (pa_cons (pv 3) pa_nil))))) pa_nil))))))), ?_⟩
    walk_at "vc"
    refine ⟨pp, s i, s, as, L, rfl, hpp, hT, fun k hk hk1 hk2 => ?_⟩
    walk_at "vc"
    refine ⟨fun m σ H' => ∃ (b : Nat) (as : List Addr) (L : List (Nat × Nat)), σ = [some (.ref pp), some (.int (i : Nat)), some (.int (s b)), some (.int (s (i + 1))), some (.int (b : Nat)), some (.int ((m : Int) - 1))] ∧ H' pp = some (.lst (as.map V.ref)) ∧ Tup (part4 s) H' as L ∧ K1 pp H H' ∧ Cand s i b L ∧ m ≤ L.length ∧ L.length ≤ i ∧ (∀ j p, m ≤ j → L[j]? = some p → s b ≤ s p.1) ∧ (∀ j p, m = j + 1 → L[j]? = some p → s p.1 < s b),
      ⟨k, i, as, L, rfl, hpp, hT, K1.refl _, Cand.start hRL hlt, hk, hRL.len, hk1, hk2⟩, ?_⟩
    rintro m σ H1 ⟨b, as, L, rfl, hpp, hT, k1, hC, hm, hL, hall, hlast⟩
    have fin : (∀ p ∈ L, s b ≤ s p.1) ∨ (∃ R1 R2 bk ek, L = R1 ++ (bk, ek) :: R2 ∧ (∀ p ∈ R2, s b ≤ s p.1) ∧ s (i + 1) ≤ s ek) → ∀ (t : Addr), H1 t = none → Q .non (upd (upd H1 t (.tup [.int (b : Nat), .int ((i : Int) + 1), .int (s b), .int (s (i + 1))])) pp (.lst (as.map V.ref ++ [.ref t]))) := by
      intro hc t ht
      have hne : pp ≠ t := ne_of_none hpp ht
      refine q _ (as ++ [t]) (L ++ [(b, i + 1)]) (hC.done (hC.leftmost hc)) ?_ ?_ (k1.trans (K1.trans (K1.of (same_upd ht)) K1.at))
      · rw [upd_same, List.map_append]
        rfl
      · refine Tup.snoc ?_ ?_
        · exact (hT.same (same_upd ht)).k1 K1.at (by rw [upd_ne hne]; exact hpp)
        · rw [upd_ne hne.symm, upd_same]
          rfl
    walk_at "vc"
    refine ite2 (fun e => ?_) (fun e => ?_)
    · have e0 := of_decide_eq_true e
      obtain ⟨k, rfl⟩ : ∃ k, m = k + 1 := ⟨m - 1, by omega⟩
      have hk : k < L.length := by omega
      have hp : L[k]? = some L[k] := List.getElem?_eq_getElem hk
      obtain ⟨a, ha1, ha2, ha3⟩ := hT.get hp
      have hat : atI (as.map V.ref) (((k + 1 : Nat) : Int) - 1) = some (.ref a) := by
        have e1 : ((k + 1 : Nat) : Int) - 1 = ((k : Nat) : Int) := by omega
        rw [e1]
        exact atI_nat ha2
      have hsp : L = L.take k ++ (L[k].1, L[k].2) :: L.drop (k + 1) := by
        show L = L.take k ++ L[k] :: L.drop (k + 1)
        rw [← List.drop_eq_getElem_cons hk, List.take_append_drop]
      have hR2 : ∀ p ∈ L.drop (k + 1), s b ≤ s p.1 := fun p hp => by
        obtain ⟨j, hj⟩ := List.getElem?_of_mem hp
        rw [List.getElem?_drop] at hj
        exact hall (k + 1 + j) p (by omega) hj
      have hlo : s L[k].1 < s b := hlast k L[k] rfl hp
      walk_at "vc"
      refine ite2 (fun e2 => ?_) (fun e2 => ?_)
      · have e3 : s L[k].2 < s (i + 1) := of_decide_eq_true e2
        refine ⟨_, fun _ _ h => h, ?_⟩
        walk_at "vc"
        refine x_del ?_
        walk_at "vc"
        refine x_delFrom (k := k) hpp (by omega) (by rw [hT.len]; omega) ?_
        have hpp' : upd H1 pp (.lst ((as.map V.ref).take k)) pp = some (.lst ((as.take k).map V.ref)) := by rw [upd_same, List.map_take]
        have hT' : Tup (part4 s) (upd H1 pp (.lst ((as.map V.ref).take k))) (as.take k) (L.take k) := (hT.k1 K1.at hpp).take k
        have k1' : K1 pp H (upd H1 pp (.lst ((as.map V.ref).take k))) := k1.trans K1.at
        generalize upd H1 pp (.lst ((as.map V.ref).take k)) = H2 at hpp' hT' k1'
        have hC' : Cand s i L[k].1 (L.take k) := Cand.step (R2 := L.drop (k + 1)) (ek := L[k].2) (by rw [← hsp]; exact hC) hR2 hlo e3
        have hl' : (L.take k).length = k := by rw [List.length_take]; omega
        walk_at "vc"
        refine ⟨pp, s L[k].1, s, as.take k, L.take k, rfl, hpp', hT', fun k2 hk2 hk21 hk22 => ?_⟩
        walk_at "vc"
        exact ⟨k2, by omega, L[k].1, as.take k, L.take k, rfl, hpp', hT', k1', hC', hk2, by omega, hk21, hk22⟩
      · have e3 : ¬ s L[k].2 < s (i + 1) := fun h => e2 (decide_eq_true h)
        walk_at "vc"
        refine ⟨.inl ⟨rfl, _, SqL.of hpp⟩, ?_⟩
        walk_at "vc"
        refine ⟨show 4 ≤ sizeLine by decide, fun t ht => ?_⟩
        walk_at "vc"
        refine x_append (by rw [upd_ne (ne_of_none hpp ht)]; exact hpp) (by rw [hT.len]; exact Nat.lt_of_le_of_lt (by omega : L.length ≤ 1000) (by decide)) ?_
        exact fin (.inr ⟨_, _, _, _, hsp, hR2, by omega⟩) t ht
    · have e0 : ¬ (0 : Int) ≤ (m : Int) - 1 := fun h => e (decide_eq_true h)
      have hm0 : m = 0 := by omega
      walk_at "vc"
      refine ⟨.inl ⟨rfl, _, SqL.of hpp⟩, ?_⟩
      walk_at "vc"
      refine ⟨show 4 ≤ sizeLine by decide, fun t ht => ?_⟩
      walk_at "vc"
      refine x_append (by rw [upd_ne (ne_of_none hpp ht)]; exact hpp) (by rw [hT.len]; exact Nat.lt_of_le_of_lt (by omega : L.length ≤ 1000) (by decide)) ?_
      refine fin (.inl fun p hp => ?_) t ht
      obtain ⟨j, hj⟩ := List.getElem?_of_mem hp
      exact hall j p (by omega) hj


theorem okripe {f : Addr} {fd : FuncData} {uFEWEST_LETTERS uMOST_LETTERS uALPHABET uLONGEST_ROW uLEAST_WEIGHT uMOST_WEIGHT uLIKE uUNLIKE uSHORTEST_SEED uLONGEST_SEED uPICK uGAP uFEWEST_SEEDS uMOST_SEEDS uBAR uENDLESS : Value} {f_join : Addr} {fd_join : FuncData} (F : Fun K "ripe" "ripe" sripe f fd) (B : Bl mg) (C : Cs mg uFEWEST_LETTERS uMOST_LETTERS uALPHABET uLONGEST_ROW uLEAST_WEIGHT uMOST_WEIGHT uLIKE uUNLIKE uSHORTEST_SEED uLONGEST_SEED uPICK uGAP uFEWEST_SEEDS uMOST_SEEDS uBAR uENDLESS) (D_join : Dn P w K mg base "_join" 2 ["parts", "place", "low", "high"] (sp_join K) f_join fd_join) : FnOk P w K mg base CX0 3 f fd ["likes", "scale"] (spripe K) := by
  refine F.ok scripe (fun vs H Q E h => ?_) (fun cdv A outer s H vs Q E hr h => ?_)
  · first
      | (obtain ⟨_, rfl, _⟩ := h; rfl)
      | (obtain ⟨_, _, rfl, _⟩ := h; rfl)
      | (obtain ⟨_, _, _, rfl, _⟩ := h; rfl)
      | (obtain ⟨_, _, _, _, rfl, _⟩ := h; rfl)
      | (obtain ⟨_, _, _, _, _, rfl, _⟩ := h; rfl)
      | (obtain ⟨_, _, _, _, _, _, rfl, _⟩ := h; rfl)
      | (obtain ⟨_, _, _, _, _, _, _, rfl, _⟩ := h; rfl)
      | (obtain ⟨_, _, _, _, _, _, _, _, rfl, _⟩ := h; rfl)
      | (obtain ⟨_, _, _, _, _, _, _, _, _, rfl, _⟩ := h; rfl)
      | (obtain ⟨_, _, _, _, _, _, _, _, _, _, rfl, _⟩ := h; rfl)
      | (obtain ⟨_, _, _, _, _, _, _, _, _, _, _, rfl, _⟩ := h; rfl)
      | (obtain ⟨_, _, _, _, _, _, _, _, _, _, _, _, rfl, _⟩ := h; rfl)
      | (obtain ⟨_, _, _, _, _, _, _, _, _, _, _, _, _, rfl, _⟩ := h; rfl)
      | (obtain ⟨_, _, _, _, _, _, _, _, _, _, _, _, _, _, rfl, _⟩ := h; rfl)
      | (obtain ⟨_, _, _, _, _, _, _, _, _, _, _, _, _, _, _, rfl, _⟩ := h; rfl)
      | (obtain ⟨_, _, _, _, _, _, _, _, _, _, _, _, _, _, _, _, rfl, _⟩ := h; rfl)
      | (obtain ⟨_, _, _, _, _, _, _, _, _, _, _, _, _, _, _, _, _, rfl, _⟩ := h; rfl)
  · obtain ⟨z, ps, g, l, rfl, hS, hg1, hg2, hl1, hl2, hz, q⟩ := h
    refine ⟨_, 
  (pss_cons (ps_asg (pv 1) (pg_tup rfl (pgs_cons (pg_name (i := 2) scripe.nd rfl (.inl rfl)) (pgs_cons (pg_name (i := 3) scripe.nd rfl (.inl rfl)) pgs_nil)))) 
  (pss_cons (ps_set (i := 4) scripe.nd rfl (.inl rfl) (pe_lst pa_nil)) 
  (pss_cons (ps_set (i := 5) scripe.nd rfl (.inl rfl) pe_int) 
  (pss_cons (ps_for PassesOwn.never rfl (pi_enumS (by rfl) B.m_enumerate (pa_cons (pv 0) pa_nil)) (pg_tup rfl (pgs_cons (pg_name (i := 6) scripe.nd rfl (.inl rfl)) (pgs_cons (pg_name (i := 7) scripe.nd rfl (.inl rfl)) pgs_nil))) 
    (pss_one (ps_if (pt_cmpR op_eq (pv 7) (pe_glob rfl C.c_LIKE.2 C.c_LIKE.1) (nomark _)) 
      (pss_cons (ps_expr (pe_call D_join.ok hr (by rfl) D_join.g D_join.kp D_join.b .nil pass0 (pa_cons (pv 4) (pa_cons (pv 6) (pa_cons (pv 5) (pa_cons (pe_op op_add (pv 5) (pv 2)) pa_nil)))))) 
      (pss_one (ps_aug (i := 5) scripe.nd rfl (.inl rfl) (pv 2) ip_add))) 
      (pss_one (ps_aug (i := 5) scripe.nd rfl (.inl rfl) (pv 3) ip_sub))))) 
  (pss_one (ps_ret (pe_lc (own := [("part", 8)]) (g := gName 8) (tt := tYes) rfl scripe.nd (pi_list (pv 4)) (blkOk_by (N := nripe) (sc := defScope sripe) (by decide +kernel)) (fun _ _ _ _ _ => (pg_name (i := 8) scripe.nd rfl (.inl rfl))) (fun _ _ _ _ _ => pts_nil) (fun _ _ _ _ _ => (pe_slice (show SlR _ (rSlT K) from sl_tup) (pv 8) po_none (po_some pe_int)))))))))), ?_⟩
    walk_at "vc"
    refine ⟨by decide, fun pp hpp => ?_⟩
    walk_at "vc"
    refine for_it (walk_enumS (x := S z)) (fun i σ H' => ∃ (as : List Addr) (L : List (Nat × Nat)) (y6 y7 y8 : Option V), σ = [some (.str (S z)), some (.ref ps), some (.int g), some (.int l), some (.ref pp), some (.int (lev g l z i)), y6, y7, y8] ∧ Same H H' ∧ H' pp = some (.lst (as.map V.ref)) ∧ Tup (part4 (lev g l z)) H' as L ∧ RL (lev g l z) i L)
      ⟨[], [], none, none, none, by rw [lev_zero]; rfl, same_upd hpp, upd_same, Tup.nil, RL.zero _⟩ (fun _ _ _ _ _ => trivial) ?_ ?_
    · rintro i x σ H1 H2 hi ⟨as, L, y6, y7, y8, rfl, sm, hp, hT, hRL⟩ ⟨T, c, rfl, hTn, hc, rfl⟩
      have hi' : i < z.length := hi
      have ec : z[i] = c := by
        have : z[i]? = some c := by simpa [S] using hc
        rw [List.getElem?_eq_getElem hi'] at this
        exact Option.some.inj this
      have els := lev_succ g l hi'
      rw [ec] at els
      have sm1 : Same H1 (upd H1 T (.tup [.int (i : Nat), .str ⟨#[c]⟩])) := same_upd hTn
      have hTT : upd H1 T (.tup [.int (i : Nat), .str ⟨#[c]⟩]) T = some (.tup [.int (i : Nat), .str ⟨#[c]⟩]) := upd_same
      have hp1 := sm1 _ _ hp
      have hT1 := hT.same sm1
      have sm2 := sm.trans sm1
      generalize upd H1 T (.tup [.int (i : Nat), .str ⟨#[c]⟩]) = H3 at sm1 hTT hp1 hT1 sm2
      refine x_gTup (SqT.of hTT) rfl ?_
      walk_at "vc"
      rw [show (⟨#[c]⟩ : Str) = sg c from rfl, eq_like]
      refine ite2 (fun e => ?_) (fun e => ?_)
      · have hc61 : c = 61 := of_decide_eq_true e
        rw [if_pos hc61] at els
        walk_at "vc"
        refine ⟨pp, i, lev g l z, as, L, by rw [els]; rfl, hp1, hT1, hRL, by omega, by omega, fun H4 as' L' hRL' hp' hT' k1 => ?_⟩
        walk_at "vc"
        exact ⟨as', L', _, _, _, by rw [els]; rfl, k1.same hpp sm2, hp', hT', hRL'⟩
      · have hc61 : ¬ c = 61 := fun h => e (decide_eq_true h)
        rw [if_neg hc61] at els
        walk_at "vc"
        exact ⟨as, L, _, _, _, by rw [els]; rfl, sm2, hp1, hT1, hRL.unlike (by omega)⟩
    · rintro σ H1 ⟨as, L, y6, y7, y8, rfl, sm, hp, hT, hRL⟩
      have hsz : (S z).cps.size = z.length := len_S z
      rw [hsz] at hRL
      walk_at "vc"
      refine x_iListi (SqL.of hp) ?_
      intro D hD
      refine lc_list (K := K) (a := pp) (xs := as.map V.ref) (fun i H2 => ∃ as', Same H1 H2 ∧ H2 D = some (.lst (as'.map V.ref)) ∧ Tup pair2 H2 as' (L.take i)) ⟨[], same_upd hD, upd_same, Tup.nil⟩ (fun i H2 _ ⟨_, h, _⟩ => h.seq (SqL.of hp)) (fun i x H2 hx h => ?_) (fun H2 h => ?_)
      · obtain ⟨as', sm2, hD2, hT2⟩ := h
        have hi : i < L.length := by
          have := (List.getElem?_eq_some_iff.mp hx).1
          rw [hT.len] at this
          exact this
        have hLi : L[i]? = some L[i] := List.getElem?_eq_getElem hi
        obtain ⟨a, ha1, ha2, ha3⟩ := hT.get hLi
        have ex : x = .ref a := Option.some.inj (hx.symm.trans ha2)
        subst ex
        walk_at "vc"
        refine ⟨rfl, ?_⟩
        walk_at "vc"
        refine x_slT (SqT.of (sm2 _ _ ha3)) (show ¬ (HT.sIx 4 0 none = 0 ∧ HT.sIx 4 4 (some 2) = 4) by decide) fun t ht => ?_
        have hL := hRL.len
        refine ⟨_, by rw [upd_ne (ne_of_none hD2 ht)]; exact hD2, by rw [hT2.len, List.length_take]; exact Nat.lt_of_le_of_lt (by omega : _ ≤ 1000) (by decide), ?_⟩
        have hpush := tup_push (p := L[i]) hD sm2 hD2 hT2 ht
        refine ⟨as' ++ [t], hpush.1, hpush.2.1, ?_⟩
        rw [List.take_succ_eq_append_getElem hi]
        exact hpush.2.2
      · obtain ⟨as', sm2, hD2, hT2⟩ := h
        rw [hT.len, List.take_of_length_le (Nat.le_refl _)] at hT2
        have hD0 : H D = none := sm.free hD
        exact q D H2 as' L hRL (sm.trans sm2) hD0 hD2 hT2


theorem oklane_reaches {f : Addr} {fd : FuncData} {flikes_of : Addr} {fdlikes_of : FuncData} {flane_begin : Addr} {fdlane_begin : FuncData} {fripe : Addr} {fdripe : FuncData} {fworth_of : Addr} {fdworth_of : FuncData} (F : Fun K "lane_reaches" "lane_reaches" slane_reaches f fd) (B : Bl mg) (Dlikes_of : Dn P w K mg base "likes_of" 2 ["one", "other", "shift"] (splikes_of K) flikes_of fdlikes_of) (Dlane_begin : Dn P w K mg base "lane_begin" 1 ["shift"] (splane_begin K) flane_begin fdlane_begin) (Dripe : Dn P w K mg base "ripe" 3 ["likes", "scale"] (spripe K) fripe fdripe) (Dworth_of : Dn P w K mg base "worth_of" 1 ["likes", "scale"] (spworth_of K) fworth_of fdworth_of) : FnOk P w K mg base CX0 4 f fd ["one", "other", "shift", "scale", "told"] (splane_reaches K) := by
  refine F.ok sclane_reaches (fun vs H Q E h => ?_) (fun cdv A outer s H vs Q E hr h => ?_)
  · first
      | (obtain ⟨_, rfl, _⟩ := h; rfl)
      | (obtain ⟨_, _, rfl, _⟩ := h; rfl)
      | (obtain ⟨_, _, _, rfl, _⟩ := h; rfl)
      | (obtain ⟨_, _, _, _, rfl, _⟩ := h; rfl)
      | (obtain ⟨_, _, _, _, _, rfl, _⟩ := h; rfl)
      | (obtain ⟨_, _, _, _, _, _, rfl, _⟩ := h; rfl)
      | (obtain ⟨_, _, _, _, _, _, _, rfl, _⟩ := h; rfl)
      | (obtain ⟨_, _, _, _, _, _, _, _, rfl, _⟩ := h; rfl)
      | (obtain ⟨_, _, _, _, _, _, _, _, _, rfl, _⟩ := h; rfl)
      | (obtain ⟨_, _, _, _, _, _, _, _, _, _, rfl, _⟩ := h; rfl)
      | (obtain ⟨_, _, _, _, _, _, _, _, _, _, _, rfl, _⟩ := h; rfl)
      | (obtain ⟨_, _, _, _, _, _, _, _, _, _, _, _, rfl, _⟩ := h; rfl)
      | (obtain ⟨_, _, _, _, _, _, _, _, _, _, _, _, _, rfl, _⟩ := h; rfl)
      | (obtain ⟨_, _, _, _, _, _, _, _, _, _, _, _, _, _, rfl, _⟩ := h; rfl)
      | (obtain ⟨_, _, _, _, _, _, _, _, _, _, _, _, _, _, _, rfl, _⟩ := h; rfl)
      | (obtain ⟨_, _, _, _, _, _, _, _, _, _, _, _, _, _, _, _, rfl, _⟩ := h; rfl)
      | (obtain ⟨_, _, _, _, _, _, _, _, _, _, _, _, _, _, _, _, _, rfl, _⟩ := h; rfl)
  · obtain ⟨o, t, d, ps, g, l, told, rfl, hS, hg1, hg2, hl1, hl2, ho, ht, hd1, hd2, q⟩ := h
    have eo : ((S o).length : Int) = o.length := by rw [len_S]
    have et : ((S t).length : Int) = t.length := by rw [len_S]
    have lo : (S o).length ≤ sizeLine := hp_sz (by rw [len_S]; omega)
    have lt : (S t).length ≤ sizeLine := hp_sz (by rw [len_S]; omega)
    refine ⟨_, 
  (pss_cons (ps_set (i := 5) sclane_reaches.nd rfl (.inl rfl) (pe_call Dlikes_of.ok (hr.mono (by decide)) (by rfl) Dlikes_of.g Dlikes_of.kp Dlikes_of.b .nil pass0 (pa_cons (pv 0) (pa_cons (pv 1) (pa_cons (pv 2) pa_nil))))) 
  (pss_cons (ps_set (i := 6) sclane_reaches.nd rfl (.inl rfl) (pe_call Dlane_begin.ok (hr.mono (by decide)) (by rfl) Dlane_begin.g Dlane_begin.kp Dlane_begin.b .nil pass0 (pa_cons (pv 2) pa_nil))) 
  (pss_cons (ps_set (i := 7) sclane_reaches.nd rfl (.inl rfl) (pe_lst pa_nil)) 
  (pss_cons (ps_for PassesOwn.never rfl (pi_list (pe_call Dripe.ok hr (by rfl) Dripe.g Dripe.kp Dripe.b .nil pass0 (pa_cons (pv 5) (pa_cons (pv 3) pa_nil)))) (pg_tup rfl (pgs_cons (pg_name (i := 8) sclane_reaches.nd rfl (.inl rfl)) (pgs_cons (pg_name (i := 9) sclane_reaches.nd rfl (.inl rfl)) pgs_nil))) 
    (pss_cons (ps_set (i := 10) sclane_reaches.nd rfl (.inl rfl) (pe_call Dworth_of.ok (hr.mono (by decide)) (by rfl) Dworth_of.g Dworth_of.kp Dworth_of.b .nil pass0 (pa_cons (pe_slice sl_str (pv 5) (po_some (pv 8)) (po_some (pv 9))) (pa_cons (pv 3) pa_nil)))) 
    (pss_one (ps_if (pt_cmpR op_ge (pv 10) (pv 4) (nomark _)) 
      (pss_one (ps_expr (pe_bm PySem.F.plainAttrs_list PySem.F.slot_list_append PySem.F.type_list_append mt_append (pv 7) (pa_cons (pe_tup (pa_cons (pe_op op_add (pv 6) (pv 8)) (pa_cons (pe_op op_add (pv 6) (pv 9)) (pa_cons (pv 10) pa_nil)))) pa_nil)))) pss_nil)))) 
  (pss_one (ps_ret (pv 7))))))), ?_⟩
    walk_at "vc"
    refine ⟨o, t, d, rfl, by omega, by omega, hd1, hd2, fun H3 sm3 => ?_⟩
    walk_at "vc"
    refine ⟨d, rfl, ?_⟩
    have hll := likL_le o t d
    walk_at "vc"
    refine ⟨by decide, fun sp hsp => ?_⟩
    have nsp : H sp = none := sm3.free hsp
    have sm1 : Same H (upd H3 sp (.lst [])) := sm3.trans (same_upd hsp)
    have hsp1 : upd H3 sp (.lst []) sp = some (.lst []) := upd_same
    generalize upd H3 sp (.lst []) = H1 at sm1 hsp1
    walk_at "vc"
    refine ⟨_, ps, g, l, rfl, SqT_same sm1 hS, hg1, hg2, hl1, hl2, by omega, fun D H4 as4 L hRL sm4 hD0 hD hT4 => ?_⟩
    have smA : Same H H4 := sm1.trans sm4
    have hsp4 := sm4 _ _ hsp1
    have hLl := hRL.len
    walk_at "vc"
    refine x_iListi (SqL.of hD) ?_
    refine for_list (K := K) (a := D) (xs := as4.map V.ref) (fun j σ H5 => ∃ (as : List Addr) (y8 y9 y10 : Option V), σ = [some (.str (S o)), some (.str (S t)), some (.int d), some (.ref ps), some (.int told), some (.str (S (likL o t d))), some (.int (bgn d : Nat)), some (.ref sp), y8, y9, y10] ∧ Same H H5 ∧ K1 sp H4 H5 ∧ H5 sp = some (.lst (as.map V.ref)) ∧ Tup triV H5 as (lrP g l told o t d (L.take j)))
      ⟨[], _, _, _, rfl, smA, K1.refl _, hsp4, Tup.nil⟩ (fun j σ H5 _ ⟨_, _, _, _, _, _, k, _⟩ => SqL.of (k _ _ (fun e => by rw [e] at hD0; rw [hsp1] at hD0; cases hD0) hD)) ?_ ?_
    · rintro j x σ H5 hx ⟨as, y8, y9, y10, rfl, sm5, k5, hsp5, hT5⟩
      have hj : j < L.length := by
        have := (List.getElem?_eq_some_iff.mp hx).1
        rw [hT4.len] at this
        exact this
      have hLj : L[j]? = some L[j] := List.getElem?_eq_getElem hj
      obtain ⟨aj, ha1, ha2, ha3⟩ := hT4.get hLj
      have ex : x = .ref aj := Option.some.inj (hx.symm.trans ha2)
      subst ex
      have hr := hRL.ripe _ (List.getElem_mem hj)
      have haj : H5 aj = some (.tup (pair2 L[j])) := k5 _ _ (ne_of ha3 hsp4 (by intro q; cases q)) ha3
      have hPl := lrP_len g l told o t d (L.take j)
      rw [List.length_take] at hPl
      rw [List.take_succ_eq_append_getElem hj, lrP_snoc]
      refine x_gTup (xs := [.int (L[j].1 : Nat), .int (L[j].2 : Nat)]) (SqT.of haj) rfl ?_
      generalize L[j] = pe at hr
      obtain ⟨pb, pn⟩ := pe
      have hbn : pb < pn := hr.1.1
      have hnz : pn ≤ (likL o t d).length := hr.2.1
      walk_at "vc"
      refine x_slS (hp_sz (by rw [len_S]; omega)) ?_
      rw [cutS_cut _ pb pn hnz]
      walk_at "vc"
      refine ⟨_, ps, g, l, rfl, SqT_same sm5 hS, fun c hc => likL_Lk o t d c (List.mem_of_mem_drop (List.mem_of_mem_take hc)), by omega, by omega, by omega, by omega, ?_⟩
      rw [wor_cut g l _ (Nat.le_of_lt hbn)]
      walk_at "vc"
      refine ite2 (fun e => ?_) (fun e => ?_)
      · have e1 : told ≤ lev g l (likL o t d) pn - lev g l (likL o t d) pb := of_decide_eq_true e
        walk_at "vc"
        refine ⟨.inl ⟨rfl, _, SqL.of hsp5⟩, ?_⟩
        walk_at "vc"
        refine ⟨show 3 ≤ sizeLine by decide, fun u hu => ?_⟩
        walk_at "vc"
        refine x_append (by rw [upd_ne (ne_of_none hsp5 hu)]; exact hsp5) (by rw [hT5.len]; exact Nat.lt_of_le_of_lt (by omega : _ ≤ 100000) (by decide)) ?_
        have hpush := tup_push (f := triV) (p := (((bgn d + pb : Nat) : Int), ((bgn d + pn : Nat) : Int), lev g l (likL o t d) pn - lev g l (likL o t d) pb)) nsp sm5 hsp5 hT5 hu
        refine ⟨as ++ [u], _, _, _, rfl, hpush.1, k5.trans ((K1.of (same_upd hu)).trans K1.at), hpush.2.1, ?_⟩
        rw [if_pos e1]
        exact hpush.2.2
      · have e1 : ¬ told ≤ lev g l (likL o t d) pn - lev g l (likL o t d) pb := fun h => e (decide_eq_true h)
        walk_at "vc"
        refine ⟨as, _, _, _, rfl, sm5, k5, hsp5, ?_⟩
        rw [if_neg e1, List.append_nil]
        exact hT5
    · rintro σ H5 ⟨as, y8, y9, y10, rfl, sm5, k5, hsp5, hT5⟩
      rw [hT4.len, List.take_of_length_le (Nat.le_refl _), lrP_all hRL] at hT5
      walk_at "vc"
      exact q sp H5 as sm5 nsp hsp5 hT5


theorem ok_need_seed {f : Addr} {fd : FuncData} {uFEWEST_LETTERS uMOST_LETTERS uALPHABET uLONGEST_ROW uLEAST_WEIGHT uMOST_WEIGHT uLIKE uUNLIKE uSHORTEST_SEED uLONGEST_SEED uPICK uGAP uFEWEST_SEEDS uMOST_SEEDS uBAR uENDLESS : Value} (F : Fun K "_need_seed" "_need_seed" s_need_seed f fd) (B : Bl mg) (C : Cs mg uFEWEST_LETTERS uMOST_LETTERS uALPHABET uLONGEST_ROW uLEAST_WEIGHT uMOST_WEIGHT uLIKE uUNLIKE uSHORTEST_SEED uLONGEST_SEED uPICK uGAP uFEWEST_SEEDS uMOST_SEEDS uBAR uENDLESS) : FnOk P w K mg base CX0 1 f fd ["seed"] (sp_need_seed K) := by
  refine F.ok sc_need_seed (fun vs H Q E h => ?_) (fun cdv A outer s H vs Q E hr h => ?_)
  · first
      | (obtain ⟨_, rfl, _⟩ := h; rfl)
      | (obtain ⟨_, _, rfl, _⟩ := h; rfl)
      | (obtain ⟨_, _, _, rfl, _⟩ := h; rfl)
      | (obtain ⟨_, _, _, _, rfl, _⟩ := h; rfl)
      | (obtain ⟨_, _, _, _, _, rfl, _⟩ := h; rfl)
      | (obtain ⟨_, _, _, _, _, _, rfl, _⟩ := h; rfl)
      | (obtain ⟨_, _, _, _, _, _, _, rfl, _⟩ := h; rfl)
      | (obtain ⟨_, _, _, _, _, _, _, _, rfl, _⟩ := h; rfl)
      | (obtain ⟨_, _, _, _, _, _, _, _, _, rfl, _⟩ := h; rfl)
      | (obtain ⟨_, _, _, _, _, _, _, _, _, _, rfl, _⟩ := h; rfl)
      | (obtain ⟨_, _, _, _, _, _, _, _, _, _, _, rfl, _⟩ := h; rfl)
      | (obtain ⟨_, _, _, _, _, _, _, _, _, _, _, _, rfl, _⟩ := h; rfl)
      | (obtain ⟨_, _, _, _, _, _, _, _, _, _, _, _, _, rfl, _⟩ := h; rfl)
      | (obtain ⟨_, _, _, _, _, _, _, _, _, _, _, _, _, _, rfl, _⟩ := h; rfl)
      | (obtain ⟨_, _, _, _, _, _, _, _, _, _, _, _, _, _, _, rfl, _⟩ := h; rfl)
      | (obtain ⟨_, _, _, _, _, _, _, _, _, _, _, _, _, _, _, _, rfl, _⟩ := h; rfl)
      | (obtain ⟨_, _, _, _, _, _, _, _, _, _, _, _, _, _, _, _, _, rfl, _⟩ := h; rfl)
  · obtain ⟨sd, rfl, hsd, q⟩ := h
    have h1 := hsd.one
    have h8 := hsd.most
    have ez : ((S sd).length : Int) = sd.length := by rw [len_S]
    have lz : (S sd).length ≤ sizeLine := hp_sz (by rw [len_S]; omega)
    refine ⟨_, 
  (pss_cons (ps_if (PW.pt (pw_or (pt_cmpR op_lt (pe_callB call_len_str (by rfl) B.m_len PySem.boot_len (pa_cons (pv 0) pa_nil)) (pe_glob rfl C.c_SHORTEST_SEED.2 C.c_SHORTEST_SEED.1) (nomark _)) (pw_or1 (pt_cmpR op_gt (pe_callB call_len_str (by rfl) B.m_len PySem.boot_len (pa_cons (pv 0) pa_nil)) (pe_glob rfl C.c_LONGEST_SEED.2 C.c_LONGEST_SEED.1) (nomark _))))) 
    (pss_one (ps_never)) pss_nil) 
  (pss_cons (ps_if (PW.pt (pw_or (pt_cmpR op_ne (pe_ix ix_str (pv 0) pe_int (fun _ _ => rfl)) (pe_glob rfl C.c_PICK.2 C.c_PICK.1) (nomark _)) (pw_or1 (pt_cmpR op_ne (pe_ix ix_str (pv 0) (pe_un un_neg pe_int) (fun _ _ => rfl)) (pe_glob rfl C.c_PICK.2 C.c_PICK.1) (nomark _))))) 
    (pss_one (ps_never)) pss_nil) 
  (pss_one (ps_for PassesOwn.never rfl (pi_str (pv 0)) (pg_name (i := 1) sc_need_seed.nd rfl (.inl rfl)) 
    (pss_one (ps_if (PW.pt (pw_and (pt_cmpR op_ne (pv 1) (pe_glob rfl C.c_PICK.2 C.c_PICK.1) (nomark _)) (pw_and1 (pt_cmpR op_ne (pv 1) (pe_glob rfl C.c_GAP.2 C.c_GAP.1) (nomark _))))) 
      (pss_one (ps_never)) pss_nil)))))), ?_⟩
    walk_at "vc"
    rw [decide_eq_false (show ¬ ((S sd).length : Int) < 1 by omega)]
    walk_at "vc"
    rw [decide_eq_false (show ¬ (8 : Int) < ((S sd).length : Int) by omega)]
    walk_at "vc"
    refine x_ixS lz (c := 35) (atI_nat (j := 0) hsd.first) ?_
    walk_at "vc"
    rw [show (⟨#[35]⟩ : Str) = sg 35 from rfl, eq_sign 35 35 (Str.ofString "#") rfl, decide_eq_true rfl]
    walk_at "vc"
    refine x_ixS lz (c := 35) ?_ ?_
    · unfold atI ixN
      rw [show (S sd).cps.toList = sd from tl_S sd, if_neg (by omega), if_pos (by omega), show (-1 + (sd.length : Int)).toNat = sd.length - 1 by omega]
      exact hsd.last
    walk_at "vc"
    rw [show (⟨#[35]⟩ : Str) = sg 35 from rfl, eq_sign 35 35 (Str.ofString "#") rfl, decide_eq_true rfl]
    walk_at "vc"
    refine for_it (walk_str (z := S sd)) (fun i σ H' => (∃ y, σ = [some (.str (S sd)), y]) ∧ H' = H) ⟨⟨_, rfl⟩, rfl⟩ (fun _ _ _ _ _ => trivial) ?_ ?_
    · rintro i x σ H1 H2 hi ⟨⟨y, rfl⟩, rfl⟩ ⟨rfl, c, hci, rfl⟩
      have hz : sd[i]? = some c := by simpa [S] using hci
      have hm := hsd.all c (List.mem_of_getElem? hz)
      walk_at "vc"
      rw [show (⟨#[c]⟩ : Str) = sg c from rfl, eq_sign c 35 (Str.ofString "#") rfl]
      rcases hm with e | e
      · rw [decide_eq_true e]
        walk_at "vc"
        exact ⟨⟨_, rfl⟩, rfl⟩
      · rw [decide_eq_false (show ¬ c = 35 by omega)]
        walk_at "vc"
        rw [eq_sign c 45 (Str.ofString "-") rfl, decide_eq_true e]
        walk_at "vc"
        exact ⟨⟨_, rfl⟩, rfl⟩
    · rintro σ H1 ⟨⟨y, rfl⟩, rfl⟩
      exact q


theorem okneed_seeds {f : Addr} {fd : FuncData} {uFEWEST_LETTERS uMOST_LETTERS uALPHABET uLONGEST_ROW uLEAST_WEIGHT uMOST_WEIGHT uLIKE uUNLIKE uSHORTEST_SEED uLONGEST_SEED uPICK uGAP uFEWEST_SEEDS uMOST_SEEDS uBAR uENDLESS : Value} {f_need_seed : Addr} {fd_need_seed : FuncData} (F : Fun K "need_seeds" "need_seeds" sneed_seeds f fd) (B : Bl mg) (C : Cs mg uFEWEST_LETTERS uMOST_LETTERS uALPHABET uLONGEST_ROW uLEAST_WEIGHT uMOST_WEIGHT uLIKE uUNLIKE uSHORTEST_SEED uLONGEST_SEED uPICK uGAP uFEWEST_SEEDS uMOST_SEEDS uBAR uENDLESS) (D_need_seed : Dn P w K mg base "_need_seed" 1 ["seed"] (sp_need_seed K) f_need_seed fd_need_seed) : FnOk P w K mg base CX0 2 f fd ["seeds"] (spneed_seeds K) := by
  refine F.ok scneed_seeds (fun vs H Q E h => ?_) (fun cdv A outer s H vs Q E hr h => ?_)
  · first
      | (obtain ⟨_, rfl, _⟩ := h; rfl)
      | (obtain ⟨_, _, rfl, _⟩ := h; rfl)
      | (obtain ⟨_, _, _, rfl, _⟩ := h; rfl)
      | (obtain ⟨_, _, _, _, rfl, _⟩ := h; rfl)
      | (obtain ⟨_, _, _, _, _, rfl, _⟩ := h; rfl)
      | (obtain ⟨_, _, _, _, _, _, rfl, _⟩ := h; rfl)
      | (obtain ⟨_, _, _, _, _, _, _, rfl, _⟩ := h; rfl)
      | (obtain ⟨_, _, _, _, _, _, _, _, rfl, _⟩ := h; rfl)
      | (obtain ⟨_, _, _, _, _, _, _, _, _, rfl, _⟩ := h; rfl)
      | (obtain ⟨_, _, _, _, _, _, _, _, _, _, rfl, _⟩ := h; rfl)
      | (obtain ⟨_, _, _, _, _, _, _, _, _, _, _, rfl, _⟩ := h; rfl)
      | (obtain ⟨_, _, _, _, _, _, _, _, _, _, _, _, rfl, _⟩ := h; rfl)
      | (obtain ⟨_, _, _, _, _, _, _, _, _, _, _, _, _, rfl, _⟩ := h; rfl)
      | (obtain ⟨_, _, _, _, _, _, _, _, _, _, _, _, _, _, rfl, _⟩ := h; rfl)
      | (obtain ⟨_, _, _, _, _, _, _, _, _, _, _, _, _, _, _, rfl, _⟩ := h; rfl)
      | (obtain ⟨_, _, _, _, _, _, _, _, _, _, _, _, _, _, _, _, rfl, _⟩ := h; rfl)
      | (obtain ⟨_, _, _, _, _, _, _, _, _, _, _, _, _, _, _, _, _, rfl, _⟩ := h; rfl)
  · obtain ⟨sp, sds, rfl, hsp, hsd, h1, h3, q⟩ := h
    have el : (sds.map strV).length = sds.length := List.length_map _
    refine ⟨_, 
  (pss_cons (ps_if (PW.pt (pw_or (pt_cmpR op_lt (pe_callB call_len_seq (by rfl) B.m_len PySem.boot_len (pa_cons (pv 0) pa_nil)) (pe_glob rfl C.c_FEWEST_SEEDS.2 C.c_FEWEST_SEEDS.1) (nomark _)) (pw_or1 (pt_cmpR op_gt (pe_callB call_len_seq (by rfl) B.m_len PySem.boot_len (pa_cons (pv 0) pa_nil)) (pe_glob rfl C.c_MOST_SEEDS.2 C.c_MOST_SEEDS.1) (nomark _))))) 
    (pss_one (ps_never)) pss_nil) 
  (pss_one (ps_for PassesOwn.never rfl (pi_list (pv 0)) (pg_name (i := 1) scneed_seeds.nd rfl (.inl rfl)) 
    (pss_one (ps_expr (pe_call D_need_seed.ok hr (by rfl) D_need_seed.g D_need_seed.kp D_need_seed.b .nil pass0 (pa_cons (pv 1) pa_nil))))))), ?_⟩
    walk_at "vc"
    rw [decide_eq_false (show ¬ (((sds.map strV).length : Nat) : Int) < 1 by omega)]
    walk_at "vc"
    rw [decide_eq_false (show ¬ (3 : Int) < (((sds.map strV).length : Nat) : Int) by omega)]
    walk_at "vc"
    refine x_iListi hsp ?_
    refine for_list (K := K) (a := sp) (xs := sds.map strV) (fun i σ H' => (∃ y, σ = [some (.ref sp), y]) ∧ H' = H) ⟨⟨_, rfl⟩, rfl⟩ (fun i σ H' _ h => by rw [h.2]; exact hsp) ?_ ?_
    · rintro i x σ H1 hx ⟨⟨y, rfl⟩, rfl⟩
      have hi : i < sds.length := by
        have := (List.getElem?_eq_some_iff.mp hx).1
        rw [List.length_map] at this
        exact this
      have ex : x = V.str (S sds[i]) := by
        rw [List.getElem?_map, List.getElem?_eq_getElem hi] at hx
        exact (Option.some.inj hx).symm
      subst ex
      walk_at "vc"
      refine ⟨sds[i], rfl, hsd _ (List.getElem_mem hi), ?_⟩
      exact ⟨⟨_, rfl⟩, rfl⟩
    · rintro σ H1 ⟨⟨y, rfl⟩, rfl⟩
      exact q


theorem okunlike_under {f : Addr} {fd : FuncData} {uFEWEST_LETTERS uMOST_LETTERS uALPHABET uLONGEST_ROW uLEAST_WEIGHT uMOST_WEIGHT uLIKE uUNLIKE uSHORTEST_SEED uLONGEST_SEED uPICK uGAP uFEWEST_SEEDS uMOST_SEEDS uBAR uENDLESS : Value} (F : Fun K "unlike_under" "unlike_under" sunlike_under f fd) (B : Bl mg) (C : Cs mg uFEWEST_LETTERS uMOST_LETTERS uALPHABET uLONGEST_ROW uLEAST_WEIGHT uMOST_WEIGHT uLIKE uUNLIKE uSHORTEST_SEED uLONGEST_SEED uPICK uGAP uFEWEST_SEEDS uMOST_SEEDS uBAR uENDLESS) : FnOk P w K mg base CX0 1 f fd ["seed", "likes", "place"] (spunlike_under K) := by
  refine F.ok scunlike_under (fun vs H Q E h => ?_) (fun cdv A outer s H vs Q E hr h => ?_)
  · first
      | (obtain ⟨_, rfl, _⟩ := h; rfl)
      | (obtain ⟨_, _, rfl, _⟩ := h; rfl)
      | (obtain ⟨_, _, _, rfl, _⟩ := h; rfl)
      | (obtain ⟨_, _, _, _, rfl, _⟩ := h; rfl)
      | (obtain ⟨_, _, _, _, _, rfl, _⟩ := h; rfl)
      | (obtain ⟨_, _, _, _, _, _, rfl, _⟩ := h; rfl)
      | (obtain ⟨_, _, _, _, _, _, _, rfl, _⟩ := h; rfl)
      | (obtain ⟨_, _, _, _, _, _, _, _, rfl, _⟩ := h; rfl)
      | (obtain ⟨_, _, _, _, _, _, _, _, _, rfl, _⟩ := h; rfl)
      | (obtain ⟨_, _, _, _, _, _, _, _, _, _, rfl, _⟩ := h; rfl)
      | (obtain ⟨_, _, _, _, _, _, _, _, _, _, _, rfl, _⟩ := h; rfl)
      | (obtain ⟨_, _, _, _, _, _, _, _, _, _, _, _, rfl, _⟩ := h; rfl)
      | (obtain ⟨_, _, _, _, _, _, _, _, _, _, _, _, _, rfl, _⟩ := h; rfl)
      | (obtain ⟨_, _, _, _, _, _, _, _, _, _, _, _, _, _, rfl, _⟩ := h; rfl)
      | (obtain ⟨_, _, _, _, _, _, _, _, _, _, _, _, _, _, _, rfl, _⟩ := h; rfl)
      | (obtain ⟨_, _, _, _, _, _, _, _, _, _, _, _, _, _, _, _, rfl, _⟩ := h; rfl)
      | (obtain ⟨_, _, _, _, _, _, _, _, _, _, _, _, _, _, _, _, _, rfl, _⟩ := h; rfl)
  · obtain ⟨sd, z, p, rfl, h1, h2, h3, q⟩ := h
    have ls : (S sd).length ≤ sizeLine := hp_sz (by rw [len_S]; omega)
    have lz : (S z).length ≤ sizeLine := hp_sz (by rw [len_S]; omega)
    refine ⟨_, 
  (pss_one (ps_ret (pe_lc (own := [("at", 3), ("sign", 4)]) (g := gTup K 2 (gCons (gName 3) (gCons (gName 4) gNil))) rfl scunlike_under.nd (pi_enumS (by rfl) B.m_enumerate (pa_cons (pv 0) pa_nil)) (blkOk_by (N := nunlike_under) (sc := defScope sunlike_under) (by decide +kernel)) (fun _ _ _ _ _ => (pg_tup rfl (pgs_cons (pg_name (i := 3) scunlike_under.nd rfl (.inl rfl)) (pgs_cons (pg_name (i := 4) scunlike_under.nd rfl (.inl rfl)) pgs_nil)))) (fun _ _ _ _ _ => pts_one (PW.pt (pw_and (pt_cmpR op_eq (pv 4) (pe_glob rfl C.c_PICK.2 C.c_PICK.1) (nomark _)) (pw_and1 (pt_cmpR op_eq (pe_ix ix_str (pv 1) (pe_op op_add (pv 2) (pv 3)) (fun _ _ => rfl)) (pe_glob rfl C.c_UNLIKE.2 C.c_UNLIKE.1) (nomark _)))))) (fun _ _ _ _ _ => (pe_op op_add (pv 2) (pv 3)))))), ?_⟩
    walk_at "vc"
    intro D hD
    refine lc_it (walk_enumS (x := S sd)) (fun i H' => Same H H' ∧ H' D = some (.lst (((List.range i).filter (ulK sd z p)).map fun k => V.int ((p + k : Nat) : Int)))) ⟨same_upd hD, upd_same⟩ (fun _ _ _ _ => trivial) ?_ ?_
    · rintro i x H1 H2 hi ⟨sm, hD1⟩ ⟨T, c, rfl, hTn, hc, rfl⟩
      have hi' : i < sd.length := hi
      have ec : sd[i]? = some c := by simpa [S] using hc
      have hz : p + i < z.length := by omega
      have sm1 : Same H1 (upd H1 T (.tup [.int (i : Nat), .str ⟨#[c]⟩])) := same_upd hTn
      have hTT : upd H1 T (.tup [.int (i : Nat), .str ⟨#[c]⟩]) T = some (.tup [.int (i : Nat), .str ⟨#[c]⟩]) := upd_same
      have hD2 := sm1 _ _ hD1
      have sm2 := sm.trans sm1
      generalize upd H1 T (.tup [.int (i : Nat), .str ⟨#[c]⟩]) = H3 at sm1 hTT hD2 sm2
      refine x_gTup (SqT.of hTT) rfl ?_
      walk_at "vc"
      refine ⟨rfl, ?_⟩
      walk_at "vc"
      rw [show (⟨#[c]⟩ : Str) = sg c from rfl, eq_sign c 35 (Str.ofString "#") rfl]
      refine ite2 (fun e => ?_) (fun e => ?_)
      · have e35 : c = 35 := of_decide_eq_true e
        walk_at "vc"
        refine x_ixS lz (c := z[p + i]) (atI_of (by omega) (by rw [show (((p : Nat) : Int) + ((i : Nat) : Int)).toNat = p + i by omega]; exact List.getElem?_eq_getElem hz)) ?_
        walk_at "vc"
        rw [show (⟨#[z[p + i]]⟩ : Str) = sg z[p + i] from rfl, eq_sign z[p + i] 47 (Str.ofString "/") rfl]
        refine ite2 (fun e => ?_) (fun e => ?_)
        · have e47 : z[p + i] = 47 := of_decide_eq_true e
          walk_at "vc"
          refine ⟨_, hD2, ?_, fun b o e => ?_, ?_⟩
          · rw [List.length_map]
            exact Nat.lt_of_le_of_lt (filter_len_le _ i) (Nat.lt_of_le_of_lt (by omega : i ≤ 1000) (by decide))
          · rw [upd_ne (ne_of_none e hD)]
            exact sm2 b o e
          · rw [upd_same, range_filter_snoc, if_pos (by unfold ulK; rw [ec, List.getElem?_eq_getElem hz, e35, e47]; rfl), List.map_append]
            rfl
        · have e47 : ¬ z[p + i] = 47 := fun h => e (decide_eq_true h)
          refine ⟨sm2, ?_⟩
          rw [range_filter_snoc, if_neg (by unfold ulK; rw [List.getElem?_eq_getElem hz]; simp [e47]), List.append_nil]
          exact hD2
      · have e35 : ¬ c = 35 := fun h => e (decide_eq_true h)
        walk_at "vc"
        refine ⟨sm2, ?_⟩
        rw [range_filter_snoc, if_neg (by unfold ulK; rw [ec]; simp [e35]), List.append_nil]
        exact hD2
    · rintro H1 ⟨sm, hD1⟩
      rw [show (S sd).cps.size = sd.length from len_S sd] at hD1
      exact q D H1 sm hD hD1


theorem ulL_fits {sd z : List Nat} {p : Int} (h1 : 1 ≤ sd.length) (h0 : 0 ≤ p) (h2 : p + sd.length ≤ z.length) : (ulL sd z p.toNat).isEmpty = fitsB sd z p := by
  have hiff : (ulL sd z p.toNat).isEmpty = true ↔ fitsB sd z p = true := by
    unfold ulL
    rw [range_filter_empty, fitsB_iff h1]
    refine ⟨fun hh => ⟨by omega, by omega, fun k hk hc => hh k hk ?_⟩, fun hh k hk hc => hh.2.2 k hk ?_⟩
    · unfold ulK
      rw [decide_eq_true hc.1, decide_eq_true hc.2]
      rfl
    · unfold ulK at hc
      simpa using hc
  cases hb : fitsB sd z p with
  | true => exact hiff.mpr hb
  | false =>
    cases hc : (ulL sd z p.toNat).isEmpty with
    | false => rfl
    | true =>
      rw [hiff.mp hc] at hb
      cases hb
theorem okfits {f : Addr} {fd : FuncData} {funlike_under : Addr} {fdunlike_under : FuncData} (F : Fun K "fits" "fits" sfits f fd) (B : Bl mg) (Dunlike_under : Dn P w K mg base "unlike_under" 1 ["seed", "likes", "place"] (spunlike_under K) funlike_under fdunlike_under) : FnOk P w K mg base CX0 2 f fd ["seed", "likes", "place"] (spfits K) := by
  refine F.ok scfits (fun vs H Q E h => ?_) (fun cdv A outer s H vs Q E hr h => ?_)
  · first
      | (obtain ⟨_, rfl, _⟩ := h; rfl)
      | (obtain ⟨_, _, rfl, _⟩ := h; rfl)
      | (obtain ⟨_, _, _, rfl, _⟩ := h; rfl)
      | (obtain ⟨_, _, _, _, rfl, _⟩ := h; rfl)
      | (obtain ⟨_, _, _, _, _, rfl, _⟩ := h; rfl)
      | (obtain ⟨_, _, _, _, _, _, rfl, _⟩ := h; rfl)
      | (obtain ⟨_, _, _, _, _, _, _, rfl, _⟩ := h; rfl)
      | (obtain ⟨_, _, _, _, _, _, _, _, rfl, _⟩ := h; rfl)
      | (obtain ⟨_, _, _, _, _, _, _, _, _, rfl, _⟩ := h; rfl)
      | (obtain ⟨_, _, _, _, _, _, _, _, _, _, rfl, _⟩ := h; rfl)
      | (obtain ⟨_, _, _, _, _, _, _, _, _, _, _, rfl, _⟩ := h; rfl)
      | (obtain ⟨_, _, _, _, _, _, _, _, _, _, _, _, rfl, _⟩ := h; rfl)
      | (obtain ⟨_, _, _, _, _, _, _, _, _, _, _, _, _, rfl, _⟩ := h; rfl)
      | (obtain ⟨_, _, _, _, _, _, _, _, _, _, _, _, _, _, rfl, _⟩ := h; rfl)
      | (obtain ⟨_, _, _, _, _, _, _, _, _, _, _, _, _, _, _, rfl, _⟩ := h; rfl)
      | (obtain ⟨_, _, _, _, _, _, _, _, _, _, _, _, _, _, _, _, rfl, _⟩ := h; rfl)
      | (obtain ⟨_, _, _, _, _, _, _, _, _, _, _, _, _, _, _, _, _, rfl, _⟩ := h; rfl)
  · obtain ⟨sd, z, p, rfl, hsd, hLk, h3, q⟩ := h
    have h1 := hsd.one
    have h8 := hsd.most
    have es : ((S sd).length : Int) = sd.length := by rw [len_S]
    have ez : ((S z).length : Int) = z.length := by rw [len_S]
    have ls : (S sd).length ≤ sizeLine := hp_sz (by rw [len_S]; omega)
    have lz : (S z).length ≤ sizeLine := hp_sz (by rw [len_S]; omega)
    refine ⟨_, 
  (pss_cons (ps_if (PW.pt (pw_or (pt_cmpR op_lt (pv 2) pe_int (nomark _)) (pw_or1 (pt_cmpR op_gt (pe_op op_add (pv 2) (pe_callB call_len_str (by rfl) B.m_len PySem.boot_len (pa_cons (pv 0) pa_nil))) (pe_callB call_len_str (by rfl) B.m_len PySem.boot_len (pa_cons (pv 1) pa_nil)) (nomark _))))) 
    (pss_one (ps_ret pe_bl)) pss_nil) 
  (pss_one (ps_ret (pe_notT (pe_call Dunlike_under.ok hr (by rfl) Dunlike_under.g Dunlike_under.kp Dunlike_under.b .nil pass0 (pa_cons (pv 0) (pa_cons (pv 1) (pa_cons (pv 2) pa_nil)))))))), ?_⟩
    walk_at "vc"
    have no : ¬ (0 ≤ p ∧ p + sd.length ≤ z.length) → fitsB sd z p = false := fun hn => by
      cases hb : fitsB sd z p with
      | false => rfl
      | true =>
        have := (fitsB_iff h1).mp hb
        omega
    by_cases hp0 : p < 0
    · rw [decide_eq_true hp0]
      walk_at "vc"
      have := q H (Same.refl _)
      rw [no (by omega)] at this
      exact this
    rw [decide_eq_false hp0]
    walk_at "vc"
    by_cases hp1 : ((S z).length : Int) < p + ((S sd).length : Int)
    · rw [decide_eq_true hp1]
      walk_at "vc"
      have := q H (Same.refl _)
      rw [no (by omega)] at this
      exact this
    rw [decide_eq_false hp1]
    walk_at "vc"
    have ep : p = ((p.toNat : Nat) : Int) := by omega
    refine x_notT ?_
    walk_at "vc"
    refine ⟨sd, z, p.toNat, by rw [← ep]; rfl, by omega, by omega, by omega, fun D H' sm _ hD => ?_⟩
    refine ⟨!(ulL sd z p.toNat).isEmpty, .inl ⟨_, SqL.of hD, by rw [isEmpty_map]⟩, ?_⟩
    rw [Bool.not_not, ulL_fits h1 (by omega) (by omega)]
    exact q _ sm


theorem ok_tail {f : Addr} {fd : FuncData} {uFEWEST_LETTERS uMOST_LETTERS uALPHABET uLONGEST_ROW uLEAST_WEIGHT uMOST_WEIGHT uLIKE uUNLIKE uSHORTEST_SEED uLONGEST_SEED uPICK uGAP uFEWEST_SEEDS uMOST_SEEDS uBAR uENDLESS : Value} (F : Fun K "_tail" "_tail" s_tail f fd) (B : Bl mg) (C : Cs mg uFEWEST_LETTERS uMOST_LETTERS uALPHABET uLONGEST_ROW uLEAST_WEIGHT uMOST_WEIGHT uLIKE uUNLIKE uSHORTEST_SEED uLONGEST_SEED uPICK uGAP uFEWEST_SEEDS uMOST_SEEDS uBAR uENDLESS) : FnOk P w K mg base CX0 1 f fd ["likes", "keep"] (sp_tail K) := by
  refine F.ok sc_tail (fun vs H Q E h => ?_) (fun cdv A outer s H vs Q E hr h => ?_)
  · first
      | (obtain ⟨_, rfl, _⟩ := h; rfl)
      | (obtain ⟨_, _, rfl, _⟩ := h; rfl)
      | (obtain ⟨_, _, _, rfl, _⟩ := h; rfl)
      | (obtain ⟨_, _, _, _, rfl, _⟩ := h; rfl)
      | (obtain ⟨_, _, _, _, _, rfl, _⟩ := h; rfl)
      | (obtain ⟨_, _, _, _, _, _, rfl, _⟩ := h; rfl)
      | (obtain ⟨_, _, _, _, _, _, _, rfl, _⟩ := h; rfl)
      | (obtain ⟨_, _, _, _, _, _, _, _, rfl, _⟩ := h; rfl)
      | (obtain ⟨_, _, _, _, _, _, _, _, _, rfl, _⟩ := h; rfl)
      | (obtain ⟨_, _, _, _, _, _, _, _, _, _, rfl, _⟩ := h; rfl)
      | (obtain ⟨_, _, _, _, _, _, _, _, _, _, _, rfl, _⟩ := h; rfl)
      | (obtain ⟨_, _, _, _, _, _, _, _, _, _, _, _, rfl, _⟩ := h; rfl)
      | (obtain ⟨_, _, _, _, _, _, _, _, _, _, _, _, _, rfl, _⟩ := h; rfl)
      | (obtain ⟨_, _, _, _, _, _, _, _, _, _, _, _, _, _, rfl, _⟩ := h; rfl)
      | (obtain ⟨_, _, _, _, _, _, _, _, _, _, _, _, _, _, _, rfl, _⟩ := h; rfl)
      | (obtain ⟨_, _, _, _, _, _, _, _, _, _, _, _, _, _, _, _, rfl, _⟩ := h; rfl)
      | (obtain ⟨_, _, _, _, _, _, _, _, _, _, _, _, _, _, _, _, _, rfl, _⟩ := h; rfl)
  · obtain ⟨z, k, rfl, h1, h2, q⟩ := h
    have ez : ((S z).length : Int) = z.length := by rw [len_S]
    have lz : (S z).length ≤ sizeLine := hp_sz (by rw [len_S]; omega)
    refine ⟨_, 
  (pss_one (ps_ret (pe_m1 PySem.F.slot_str_lstrip PySem.F.type_str_lstrip mt_lstripChars (pe_slice sl_str (pv 0) (po_some (pe_callB (call_max2 rfl) (by rfl) B.m_max (by decide +kernel) (pa_cons pe_int (pa_cons (pe_op op_sub (pe_callB call_len_str (by rfl) B.m_len PySem.boot_len (pa_cons (pv 0) pa_nil)) (pv 1)) pa_nil)))) po_none) (pe_glob rfl C.c_UNLIKE.2 C.c_UNLIKE.1)))), ?_⟩
    walk_at "vc"
    refine x_slS lz ?_
    have e : (if ((S z).length : Int) - (k : Int) > 0 then ((S z).length : Int) - (k : Int) else 0) = ((z.length - k : Nat) : Int) := by rw [ez]; split <;> omega
    rw [e, cutS_drop]
    walk_at "vc"
    refine ⟨hp_sz (by rw [len_S, List.length_drop]; omega), ?_⟩
    show Q (.str (Txt.lstripChars (S (z.drop (z.length - k))) (S [47]))) H
    rw [lstrip_S]
    exact q


def stpsU (sds : List (List Nat)) (k : Nat) (t : List Nat) (i : Nat) : List (Nat × List Nat) := ((([61, 47] : List Nat).take i).filter fun c => okS sds t c).map fun c => (c, tlK k (t ++ [c]))
theorem stpsU_yes {sds : List (List Nat)} {k : Nat} {t : List Nat} {i c : Nat} (hi : i < 2) (hc : c = if i = 0 then 61 else 47) (h : okS sds t c = true) : stpsU sds k t (i + 1) = stpsU sds k t i ++ [(c, tlK k (t ++ [c]))] := by
  unfold stpsU
  have : ([61, 47] : List Nat).take (i + 1) = ([61, 47] : List Nat).take i ++ [c] := by
    have : i = 0 ∨ i = 1 := by omega
    rcases this with e | e <;> subst e <;> subst hc <;> rfl
  rw [this, List.filter_append, List.filter_cons, if_pos h, List.map_append]
  rfl
theorem stpsU_no {sds : List (List Nat)} {k : Nat} {t : List Nat} {i c : Nat} (hi : i < 2) (hc : c = if i = 0 then 61 else 47) (h : ¬ okS sds t c = true) : stpsU sds k t (i + 1) = stpsU sds k t i := by
  unfold stpsU
  have : ([61, 47] : List Nat).take (i + 1) = ([61, 47] : List Nat).take i ++ [c] := by
    have : i = 0 ∨ i = 1 := by omega
    rcases this with e | e <;> subst e <;> subst hc <;> rfl
  rw [this, List.filter_append, List.filter_cons, if_neg h, List.filter_nil, List.append_nil]
theorem stpsU_new {sds : List (List Nat)} {k : Nat} {t : List Nat} {i c : Nat} (hi : i < 2) (hc : c = if i = 0 then 61 else 47) : valV (stepKV (stpsU sds k t i)) (Sum.inr (S [c])) = none := by
  have : i = 0 ∨ i = 1 := by omega
  rcases this with e | e
  · subst e
    rfl
  · subst e
    subst hc
    unfold stpsU
    show valV (stepKV ((([61] : List Nat).filter fun c => okS sds t c).map _)) (Sum.inr (S [47])) = none
    rw [List.filter_cons]
    split
    · show valV [(Sum.inr (S [61]), _)] _ = none
      rw [valV_neg (fun q => by have := (List.cons.inj (inr_S q)).1; omega)]
      rfl
    · rfl
theorem stpsU_len (sds : List (List Nat)) (k : Nat) (t : List Nat) (i : Nat) : (stepKV (stpsU sds k t i)).length ≤ 2 := by
  unfold stepKV stpsU
  rw [List.length_map, List.length_map]
  refine Nat.le_trans (List.length_filter_le _ _) ?_
  rw [List.length_take]
  exact Nat.min_le_right _ _
theorem take_map_succ {α β : Type} (f : α → β) {l : List α} {j : Nat} (h : j < l.length) : (l.take (j + 1)).map f = (l.take j).map f ++ [f l[j]] := by
  rw [List.take_succ_eq_append_getElem h, List.map_append]
  rfl
theorem ok_steps_from {f : Addr} {fd : FuncData} {uFEWEST_LETTERS uMOST_LETTERS uALPHABET uLONGEST_ROW uLEAST_WEIGHT uMOST_WEIGHT uLIKE uUNLIKE uSHORTEST_SEED uLONGEST_SEED uPICK uGAP uFEWEST_SEEDS uMOST_SEEDS uBAR uENDLESS : Value} {f_tail : Addr} {fd_tail : FuncData} {ffits : Addr} {fdfits : FuncData} (F : Fun K "_steps_from" "_steps_from" s_steps_from f fd) (B : Bl mg) (C : Cs mg uFEWEST_LETTERS uMOST_LETTERS uALPHABET uLONGEST_ROW uLEAST_WEIGHT uMOST_WEIGHT uLIKE uUNLIKE uSHORTEST_SEED uLONGEST_SEED uPICK uGAP uFEWEST_SEEDS uMOST_SEEDS uBAR uENDLESS) (D_tail : Dn P w K mg base "_tail" 1 ["likes", "keep"] (sp_tail K) f_tail fd_tail) (Dfits : Dn P w K mg base "fits" 2 ["seed", "likes", "place"] (spfits K) ffits fdfits) : FnOk P w K mg base CX0 3 f fd ["tail", "seeds"] (sp_steps_from K) := by
  refine F.ok sc_steps_from (fun vs H Q E h => ?_) (fun cdv A outer s H vs Q E hr h => ?_)
  · first
      | (obtain ⟨_, rfl, _⟩ := h; rfl)
      | (obtain ⟨_, _, rfl, _⟩ := h; rfl)
      | (obtain ⟨_, _, _, rfl, _⟩ := h; rfl)
      | (obtain ⟨_, _, _, _, rfl, _⟩ := h; rfl)
      | (obtain ⟨_, _, _, _, _, rfl, _⟩ := h; rfl)
      | (obtain ⟨_, _, _, _, _, _, rfl, _⟩ := h; rfl)
      | (obtain ⟨_, _, _, _, _, _, _, rfl, _⟩ := h; rfl)
      | (obtain ⟨_, _, _, _, _, _, _, _, rfl, _⟩ := h; rfl)
      | (obtain ⟨_, _, _, _, _, _, _, _, _, rfl, _⟩ := h; rfl)
      | (obtain ⟨_, _, _, _, _, _, _, _, _, _, rfl, _⟩ := h; rfl)
      | (obtain ⟨_, _, _, _, _, _, _, _, _, _, _, rfl, _⟩ := h; rfl)
      | (obtain ⟨_, _, _, _, _, _, _, _, _, _, _, _, rfl, _⟩ := h; rfl)
      | (obtain ⟨_, _, _, _, _, _, _, _, _, _, _, _, _, rfl, _⟩ := h; rfl)
      | (obtain ⟨_, _, _, _, _, _, _, _, _, _, _, _, _, _, rfl, _⟩ := h; rfl)
      | (obtain ⟨_, _, _, _, _, _, _, _, _, _, _, _, _, _, _, rfl, _⟩ := h; rfl)
      | (obtain ⟨_, _, _, _, _, _, _, _, _, _, _, _, _, _, _, _, rfl, _⟩ := h; rfl)
      | (obtain ⟨_, _, _, _, _, _, _, _, _, _, _, _, _, _, _, _, _, rfl, _⟩ := h; rfl)
  · obtain ⟨sp, sds, t, rfl, hsp, hsd, l1, l3, hLk, ht, q⟩ := h
    have hl : ∀ sd ∈ sds, (S sd).length ≤ sizeLine := fun sd hs => hp_sz (by rw [len_S]; have := (hsd sd hs).most; omega)
    refine ⟨_, 
  (pss_cons (ps_set (i := 2) sc_steps_from.nd rfl (.inl rfl) (pe_op op_sub (pe_callBK (cr_maxD rfl hr.units) (by rfl) B.m_max (by decide +kernel) (pa_cons (pe_lc (own := [("seed", 6)]) (g := gName 6) (tt := tYes) rfl sc_steps_from.nd (pi_list (pv 1)) (blkOk_by (N := n_steps_from) (sc := defScope s_steps_from) (by decide +kernel)) (fun _ _ _ _ _ => (pg_name (i := 6) sc_steps_from.nd rfl (.inl rfl))) (fun _ _ _ _ _ => pts_nil) (fun _ _ _ _ _ => (pe_callB call_len_str (by rfl) B.m_len PySem.boot_len (pa_cons (pv 6) pa_nil)))) pa_nil) (pk_cons pe_int pk_nil)) pe_int)) 
  (pss_cons (ps_set (i := 3) sc_steps_from.nd rfl (.inl rfl) pe_dnewK) 
  (pss_cons (ps_for PassesOwn.never rfl (pi_tup (pe_tup (pa_cons (pe_glob rfl C.c_LIKE.2 C.c_LIKE.1) (pa_cons (pe_glob rfl C.c_UNLIKE.2 C.c_UNLIKE.1) pa_nil)))) (pg_name (i := 4) sc_steps_from.nd rfl (.inl rfl)) 
    (pss_cons (ps_set (i := 5) sc_steps_from.nd rfl (.inr rfl) (pe_op op_add_str (pv 0) (pv 4))) 
    (pss_one (ps_if (pt_not (pt_val (pe_callB (cr_any rfl) (by rfl) B.m_any (by decide +kernel) (pa_cons (pe_lc (own := [("seed", 6)]) (g := gName 6) (tt := tYes) rfl sc_steps_from.nd (pi_list (pv 1)) (blkOk_by (N := n_steps_from) (sc := defScope s_steps_from) (by decide +kernel)) (fun _ _ _ _ _ => (pg_name (i := 6) sc_steps_from.nd rfl (.inl rfl))) (fun _ _ _ _ _ => pts_nil) (fun _ _ _ _ _ => (pe_call Dfits.ok hr (by rfl) Dfits.g Dfits.kp Dfits.b .nil pass0 (pa_cons (pv 6) (pa_cons (pv 5) (pa_cons (pe_op op_sub (pe_callB call_len_str (by rfl) B.m_len PySem.boot_len (pa_cons (pv 5) pa_nil)) (pe_callB call_len_str (by rfl) B.m_len PySem.boot_len (pa_cons (pv 6) pa_nil))) pa_nil)))))) pa_nil)))) 
      (pss_one (ps_dput (hu_of hr) (pv 3) (pv 4) (pe_call D_tail.ok (hr.mono (by decide)) (by rfl) D_tail.g D_tail.kp D_tail.b .nil pass0 (pa_cons (pv 5) (pa_cons (pv 2) pa_nil))) rfl)) pss_nil)))) 
  (pss_one (ps_ret (pv 3)))))), ?_⟩
    walk_at "vc"
    refine x_iListi hsp ?_
    intro D hD
    refine lc_list (K := K) (a := sp) (xs := sds.map strV) (fun j H' => Same H H' ∧ H' D = some (.lst ((sds.take j).map fun sd => V.int ((sd.length : Nat) : Int)))) ⟨same_upd hD, upd_same⟩ (fun j H' _ h => h.1.seq hsp) (fun j x H' hx h => ?_) (fun H1 h => ?_)
    · have hj : j < sds.length := by
        have := (List.getElem?_eq_some_iff.mp hx).1
        rw [List.length_map] at this
        exact this
      have ex : x = V.str (S sds[j]) := by
        rw [List.getElem?_map, List.getElem?_eq_getElem hj] at hx
        exact (Option.some.inj hx).symm
      subst ex
      have hlj := hl _ (List.getElem_mem hj)
      walk_at "vc"
      refine ⟨rfl, ?_⟩
      walk_at "vc"
      refine ⟨_, h.2, by rw [List.length_map, List.length_take]; exact Nat.lt_of_le_of_lt (by omega : _ ≤ 1000) (by decide), h.1.putN hD, ?_⟩
      rw [upd_same, take_map_succ _ hj, len_S]
    · obtain ⟨sm1, hD1⟩ := h
      rw [List.length_map, List.take_length] at hD1
      walk_at "vc"
      refine ⟨D, (sds.map List.length).map fun n => ((n : Nat) : Int), 1, rfl, rfl, SqL.of (by rw [hD1, List.map_map, List.map_map]; rfl), fun z => ?_, fun m hm hge => ?_⟩
      · have := congrArg List.length z
        rw [List.length_map, List.length_map] at this
        have : sds.length = 0 := this
        omega
      have em := mxL_of hm hge
      subst em
      have h1 : 1 ≤ mxL (sds.map List.length) := by
        cases sds with
        | nil => simp at l1
        | cons sd r => exact Nat.le_trans (hsd sd List.mem_cons_self).one (mxL_ge (List.mem_map.mpr ⟨sd, List.mem_cons_self, rfl⟩))
      have hk7 := kM_le hsd
      have ek : ((mxL (sds.map List.length) : Nat) : Int) - 1 = ((kM sds : Nat) : Int) := by
        show _ = ((mxL (sds.map List.length) - 1 : Nat) : Int)
        omega
      walk_at "vc"
      rw [ek]
      intro d hd
      have nd : H d = none := sm1.free hd
      have sm2 : Same H (upd H1 d (.dK [])) := sm1.trans (same_upd hd)
      have hd2 : upd H1 d (.dK []) d = some (.dK []) := upd_same
      generalize upd H1 d (.dK []) = H2 at sm2 hd2
      walk_at "vc"
      refine ⟨by decide, fun tp htp => ?_⟩
      have sm3 := sm2.trans (same_upd (o := .tup [.str (Str.ofString "="), .str (Str.ofString "/")]) htp)
      have hd3 : upd H2 tp (.tup [.str (Str.ofString "="), .str (Str.ofString "/")]) d = _ := (upd_ne (ne_of_none hd2 htp)).trans hd2
      have htp3 : upd H2 tp (.tup [.str (Str.ofString "="), .str (Str.ofString "/")]) tp = _ := upd_same
      generalize upd H2 tp (.tup [.str (Str.ofString "="), .str (Str.ofString "/")]) = H3 at sm3 hd3 htp3
      refine ⟨tp, rfl, ⟨_, SqT.of htp3⟩, ?_⟩
      refine for_it (walk_tup (xs := [.str (Str.ofString "="), .str (Str.ofString "/")])) (fun i σ H' => (∃ y4 y5 y6, σ = [some (.str (S t)), some (.ref sp), some (.int ((kM sds : Nat) : Int)), some (.ref d), y4, y5, y6]) ∧ Same H H' ∧ H' tp = some (.tup [.str (Str.ofString "="), .str (Str.ofString "/")]) ∧ H' d = some (.dK (stepKV (stpsU sds (kM sds) t i)))) ⟨⟨_, _, _, rfl⟩, sm3, htp3, hd3⟩ (fun i σ H' _ h => SqT.of h.2.2.1) ?_ ?_
      · rintro i x σ H4 H4' hi ⟨⟨y4, y5, y6, rfl⟩, sm4, htp4, hd4⟩ ⟨rfl, hx⟩
        have hi2 : i < 2 := hi
        obtain ⟨c, ec, ex⟩ : ∃ c : Nat, (c = if i = 0 then 61 else 47) ∧ x = .str (S [c]) := by
          have : i = 0 ∨ i = 1 := by omega
          rcases this with e | e
          · subst e; exact ⟨61, rfl, (Option.some.inj hx).symm⟩
          · subst e; exact ⟨47, rfl, (Option.some.inj hx).symm⟩
        subst ex
        have hcc : c = 61 ∨ c = 47 := by rw [ec]; split <;> simp
        have hlk' : Lk (t ++ [c]) := hLk.app fun d hd => by rw [List.mem_singleton.mp hd]; exact hcc
        have hyl : (t ++ [c]).length = t.length + 1 := by rw [List.length_append]; rfl
        have lS : (S (t ++ [c])).length ≤ sizeLine := hp_sz (by rw [len_S]; omega)
        walk_at "vc"
        refine ⟨S t, S [c], rfl, rfl, hp_sz (by rw [len_S, len_S]; show t.length + 1 ≤ _; omega), ?_⟩
        rw [S_app]
        walk_at "vc"
        refine x_iListi (sm4.seq hsp) ?_
        intro E hE
        refine lc_list (K := K) (a := sp) (xs := sds.map strV) (fun j H' => Same H4' H' ∧ H' E = some (.lst ((sds.take j).map fun sd => V.bl (fitsB sd (t ++ [c]) (((t ++ [c]).length : Int) - (sd.length : Int)))))) ⟨same_upd hE, upd_same⟩ (fun j H' _ h => (sm4.trans h.1).seq hsp) (fun j x H' hx h => ?_) (fun H5 h => ?_)
        · have hj : j < sds.length := by
            have := (List.getElem?_eq_some_iff.mp hx).1
            rw [List.length_map] at this
            exact this
          have ex : x = V.str (S sds[j]) := by
            rw [List.getElem?_map, List.getElem?_eq_getElem hj] at hx
            exact (Option.some.inj hx).symm
          subst ex
          have hlj := hl _ (List.getElem_mem hj)
          walk_at "vc"
          refine ⟨rfl, ?_⟩
          walk_at "vc"
          have ep : ((S (t ++ [c])).length : Int) - ((S sds[j]).length : Int) = ((t ++ [c]).length : Int) - (sds[j].length : Int) := by rw [len_S, len_S]
          rw [ep]
          refine ⟨sds[j], t ++ [c], _, rfl, hsd _ (List.getElem_mem hj), hlk', by omega, fun H6 sm6 => ?_⟩
          refine ⟨_, sm6 _ _ h.2, by rw [List.length_map, List.length_take]; exact Nat.lt_of_le_of_lt (by omega : _ ≤ 1000) (by decide), (h.1.trans sm6).putN hE, ?_⟩
          rw [upd_same, take_map_succ _ hj]
        · obtain ⟨sm5, hE5⟩ := h
          rw [List.length_map, List.take_length] at hE5
          walk_at "vc"
          refine ⟨E, sds.map fun sd => fitsB sd (t ++ [c]) (((t ++ [c]).length : Int) - (sd.length : Int)), rfl, SqL.of (by rw [hE5, List.map_map]; rfl), ?_⟩
          have ea : ((sds.map fun sd => fitsB sd (t ++ [c]) (((t ++ [c]).length : Int) - (sd.length : Int))).any id) = !okS sds t c := by
            unfold okS
            rw [Bool.not_not, List.any_map]
            rfl
          rw [ea]
          have hd5 := sm5 _ _ hd4
          walk_at "vc"
          rw [Bool.not_not]
          refine ite2 (fun e => ?_) (fun e => ?_)
          · walk_at "vc"
            refine ⟨t ++ [c], kM sds, rfl, by omega, by omega, ?_⟩
            walk_at "vc"
            refine x_putS hd5 (Nat.lt_of_le_of_lt (stpsU_len sds (kM sds) t i) (by decide)) ?_
            rw [putK_new _ (stpsU_new hi2 ec)]
            refine ⟨⟨_, _, _, rfl⟩, (sm4.trans sm5).putN nd, ?_, ?_⟩
            · rw [upd_ne (ne_of (sm5 _ _ htp4) hd5 (fun z => nomatch z))]
              exact sm5 _ _ htp4
            · rw [upd_same, stpsU_yes hi2 ec e]
              unfold stepKV
              rw [List.map_append]
              rfl
          · walk_at "vc"
            refine ⟨⟨_, _, _, rfl⟩, sm4.trans sm5, sm5 _ _ htp4, ?_⟩
            rw [stpsU_no hi2 ec e]
            exact hd5
      · rintro σ H4 ⟨⟨y4, y5, y6, rfl⟩, sm4, htp4, hd4⟩
        walk_at "vc"
        exact q d H4 sm4 nd hd4


theorem map_dropLast' {α β : Type} (f : α → β) (l : List α) : (l.map f).dropLast = l.dropLast.map f := by rw [List.map_dropLast]
theorem getLast_strV {w : List (List Nat)} {t : List Nat} (h : w.getLast? = some t) : (w.map strV)[(w.map strV).length - 1]? = some (V.str (S t)) := by
  rw [← List.getLast?_eq_getElem?, List.getLast?_map, h]
  rfl
theorem ok_steps {f : Addr} {fd : FuncData} {f_steps_from : Addr} {fd_steps_from : FuncData} (F : Fun K "_steps" "_steps" s_steps f fd) (B : Bl mg) (D_steps_from : Dn P w K mg base "_steps_from" 3 ["tail", "seeds"] (sp_steps_from K) f_steps_from fd_steps_from) : FnOk P w K mg base CX0 4 f fd ["seeds"] (sp_steps K) := by
  refine F.ok sc_steps (fun vs H Q E h => ?_) (fun cdv A outer s H vs Q E hr h => ?_)
  · first
      | (obtain ⟨_, rfl, _⟩ := h; rfl)
      | (obtain ⟨_, _, rfl, _⟩ := h; rfl)
      | (obtain ⟨_, _, _, rfl, _⟩ := h; rfl)
      | (obtain ⟨_, _, _, _, rfl, _⟩ := h; rfl)
      | (obtain ⟨_, _, _, _, _, rfl, _⟩ := h; rfl)
      | (obtain ⟨_, _, _, _, _, _, rfl, _⟩ := h; rfl)
      | (obtain ⟨_, _, _, _, _, _, _, rfl, _⟩ := h; rfl)
      | (obtain ⟨_, _, _, _, _, _, _, _, rfl, _⟩ := h; rfl)
      | (obtain ⟨_, _, _, _, _, _, _, _, _, rfl, _⟩ := h; rfl)
      | (obtain ⟨_, _, _, _, _, _, _, _, _, _, rfl, _⟩ := h; rfl)
      | (obtain ⟨_, _, _, _, _, _, _, _, _, _, _, rfl, _⟩ := h; rfl)
      | (obtain ⟨_, _, _, _, _, _, _, _, _, _, _, _, rfl, _⟩ := h; rfl)
      | (obtain ⟨_, _, _, _, _, _, _, _, _, _, _, _, _, rfl, _⟩ := h; rfl)
      | (obtain ⟨_, _, _, _, _, _, _, _, _, _, _, _, _, _, rfl, _⟩ := h; rfl)
      | (obtain ⟨_, _, _, _, _, _, _, _, _, _, _, _, _, _, _, rfl, _⟩ := h; rfl)
      | (obtain ⟨_, _, _, _, _, _, _, _, _, _, _, _, _, _, _, _, rfl, _⟩ := h; rfl)
      | (obtain ⟨_, _, _, _, _, _, _, _, _, _, _, _, _, _, _, _, _, rfl, _⟩ := h; rfl)
  · obtain ⟨sp, sds, rfl, hsp, hsd, l1, l3, q⟩ := h
    have hk7 := kM_le hsd
    refine ⟨_, 
  (pss_cons (ps_set (i := 1) sc_steps.nd rfl (.inl rfl) pe_dnewK) 
  (pss_cons (ps_set (i := 2) sc_steps.nd rfl (.inl rfl) (pe_lst (pa_cons pe_str pa_nil))) 
  (pss_cons (ps_while PassesOwn.never (pt_truth (pv 2) (by intro _; rfl)) 
    (pss_cons (ps_set (i := 3) sc_steps.nd rfl (.inl rfl) (pe_bm0 PySem.F.plainAttrs_list PySem.F.slot_list_pop PySem.F.type_list_pop mt_pop (pv 2))) 
    (pss_one (ps_if (pt_cmp (pc_dnotin (hu_of hr) (pv 3) (pv 1))) 
      (pss_cons (ps_dput (hu_of hr) (pv 1) (pv 3) (pe_call D_steps_from.ok hr (by rfl) D_steps_from.g D_steps_from.kp D_steps_from.b .nil pass0 (pa_cons (pv 3) (pa_cons (pv 0) pa_nil))) rfl) 
      (pss_one (ps_expr (pe_bm PySem.F.plainAttrs_list PySem.F.slot_list_extend PySem.F.type_list_extend mt_extend (pv 2) (pa_cons (pe_listVals rfl (pe_dget (hu_of hr) (pv 1) (pv 3) (fun _ _ => rfl)) (by rfl) B.m_list (by decide +kernel)) pa_nil))))) pss_nil)))) 
  (pss_one (ps_ret (pv 1)))))), ?_⟩
    walk_at "vc"
    intro d hd
    have sm1 : Same H (upd H d (.dK [])) := same_upd hd
    have hd1 : upd H d (.dK []) d = some (.dK []) := upd_same
    generalize upd H d (.dK []) = H1 at sm1 hd1
    walk_at "vc"
    refine ⟨by decide, fun wp hwp => ?_⟩
    have nwp : H wp = none := sm1.free hwp
    have sm2 : Same H (upd H1 wp (.lst [.str (Str.ofString "")])) := sm1.trans (same_upd hwp)
    have hwp2 : upd H1 wp (.lst [.str (Str.ofString "")]) wp = some (.lst (([[]] : List (List Nat)).map strV)) := upd_same
    have hd2 : upd H1 wp (.lst [.str (Str.ofString "")]) d = some (.dK (stKV [] [])) := (upd_ne (ne_of_none hd1 hwp)).trans hd1
    generalize upd H1 wp (.lst [.str (Str.ofString "")]) = H2 at sm2 hwp2 hd2
    walk_at "vc"
    refine ⟨fun m σ H' => ∃ (ks w : List (List Nat)) (ds : List Addr) (y : Option V) (n : Nat), m = msr ks w ∧ σ = [some (.ref sp), some (.ref d), some (.ref wp), y] ∧ Same H H' ∧ StAt H' d sds (kM sds) ks ds ∧ H' d = some (.dK (stKV ks ds)) ∧ H' wp = some (.lst (w.map strV)) ∧ StpI sds (kM sds) ks w ∧ msr ks w < n ∧ msr ks w ≤ 513 ∧ stp sds (kM sds) n ks w = keys sds (kM sds),
      ⟨_, [], [[]], [], none, 1000, rfl, rfl, sm2, ⟨rfl, .inl hd2, fun i t d h => by simp at h⟩, hd2, hwp2, StpI.start _ _, by decide, by decide, rfl⟩, ?_⟩
    rintro m σ H3 ⟨ks, w, ds, y, n, rfl, rfl, sm3, hSt, hd3, hwp3, hI, hm, hmm, hstp⟩
    obtain ⟨n, rfl⟩ : ∃ n', n = n' + 1 := ⟨n - 1, by omega⟩
    walk_at "vc"
    refine ⟨!(w.map strV).isEmpty, .inl ⟨_, SqL.of hwp3, rfl⟩, ?_⟩
    cases hl : w.getLast? with
    | none =>
      have ew : w = [] := List.getLast?_eq_none_iff.mp hl
      subst ew
      have ek : ks = keys sds (kM sds) := by
        rw [← hstp]
        rfl
      walk_at "vc"
      show if (!true) = true then _ else _
      walk_at "vc"
      rw [ek] at hSt hd3
      exact q d ds H3 sm3 hd hd3 hSt
    | some t =>
      have ew := snoc_of hl
      have hne : (!(w.map strV).isEmpty) = true := by
        rw [ew]
        simp
      rw [hne]
      have ht0 : t ∈ w := by rw [ew]; exact List.mem_append_right _ (List.mem_singleton.mpr rfl)
      have hTl := hI.wtl t ht0
      have hwl : w.length ≤ 513 := by
        unfold msr at hmm
        omega
      unfold stp at hstp
      rw [hl] at hstp
      have hstp : (if t ∈ ks then stp sds (kM sds) n ks w.dropLast else stp sds (kM sds) n (ks ++ [t]) (w.dropLast ++ goals sds (kM sds) t)) = keys sds (kM sds) := hstp
      have hdl : (w.map strV).dropLast = w.dropLast.map strV := by rw [List.map_dropLast]
      have nwd : wp ≠ d := ne_of hwp3 hd3 (fun z => nomatch z)
      walk_at "vc"
      by_cases ht : t ∈ ks
      · rw [if_pos ht] at hstp
        refine ⟨fun σ' H' => σ' = [some (.ref sp), some (.ref d), some (.ref wp), some (.str (S t))] ∧ H' = upd H3 wp (.lst (w.dropLast.map strV)), fun σ' H' h => ?_, ?_⟩
        · obtain ⟨rfl, rfl⟩ := h
          have hlt := msr_old (ks := ks) hl
          have sm4 : Same H (upd H3 wp (.lst (w.dropLast.map strV))) := sm3.putN nwp
          refine ⟨_, hlt, ks, w.dropLast, ds, _, n, rfl, rfl, sm4, ⟨hSt.len, .inl ((upd_ne nwd.symm).trans hd3), fun i u e h1 h2 => ?_⟩, (upd_ne nwd.symm).trans hd3, upd_same, hI.old hl ht, by omega, by omega, hstp⟩
          have := hSt.each i u e h1 h2
          rw [upd_ne (ne_of this hwp3 (fun z => nomatch z))]
          exact this
        · walk_at "vc"
          refine ⟨.inl ⟨rfl, _, SqL.of hwp3⟩, ?_⟩
          refine ⟨wp, w.map strV, V.str (S t), rfl, rfl, hwp3, getLast_strV hl, ?_⟩
          rw [hdl]
          walk_at "vc"
          refine x_askS (.inl ((upd_ne nwd.symm).trans hd3)) ?_
          obtain ⟨i, e, h1, h2, h3⟩ := stKV_in hSt.len ht
          rw [h3]
          refine ⟨false, rfl, ?_⟩
          walk_at "vc"
          exact ⟨rfl, rfl⟩
      · rw [if_neg ht] at hstp
        have hlt := msr_new hk7 hI hl ht
        have hI2 := hI.new hl ht
        have htl7 := hTl.len
        have hkl := tails_le hk7 hI2.nodup hI2.tl
        rw [List.length_append] at hkl
        have hgl := goals_len sds (kM sds) t
        refine ⟨fun σ' H' => ∃ e : Addr, σ' = [some (.ref sp), some (.ref d), some (.ref wp), some (.str (S t))] ∧ Same H H' ∧ H' d = some (.dK (stKV (ks ++ [t]) (ds ++ [e]))) ∧ StAt H' d sds (kM sds) (ks ++ [t]) (ds ++ [e]) ∧ H' wp = some (.lst ((w.dropLast ++ goals sds (kM sds) t).map strV)), fun σ' H' h => ?_, ?_⟩
        · obtain ⟨e, rfl, sm4, hd4, hSt4, hwp4⟩ := h
          exact ⟨_, hlt, ks ++ [t], w.dropLast ++ goals sds (kM sds) t, ds ++ [e], _, n, rfl, rfl, sm4, hSt4, hd4, hwp4, hI2, by omega, by omega, hstp⟩
        · walk_at "vc"
          refine ⟨.inl ⟨rfl, _, SqL.of hwp3⟩, ?_⟩
          refine ⟨wp, w.map strV, V.str (S t), rfl, rfl, hwp3, getLast_strV hl, ?_⟩
          rw [hdl]
          have sm4 : Same H (upd H3 wp (.lst (w.dropLast.map strV))) := sm3.putN nwp
          have hd4 : upd H3 wp (.lst (w.dropLast.map strV)) d = _ := (upd_ne nwd.symm).trans hd3
          have hwp4 : upd H3 wp (.lst (w.dropLast.map strV)) wp = some (.lst (w.dropLast.map strV)) := upd_same
          have each4 : ∀ (i : Nat) u e, ks[i]? = some u → ds[i]? = some e → upd H3 wp (.lst (w.dropLast.map strV)) e = some (.dK (stepKV (stps sds (kM sds) u))) := fun i u e h1 h2 => by
            have := hSt.each i u e h1 h2
            rw [upd_ne (ne_of this hwp3 (fun z => nomatch z))]
            exact this
          generalize upd H3 wp (.lst (w.dropLast.map strV)) = H4 at sm4 hd4 hwp4 each4
          walk_at "vc"
          refine x_askS (.inl hd4) ?_
          rw [stKV_out ht]
          refine ⟨true, rfl, ?_⟩
          walk_at "vc"
          refine ⟨sp, sds, t, rfl, sm4.seq hsp, hsd, l1, l3, hTl.lk, by omega, fun e H5 sm5 ne5 he5 => ?_⟩
          have hd5 := sm5 _ _ hd4
          have hwp5 := sm5 _ _ hwp4
          have ned : e ≠ d := fun z => by rw [z, hd4] at ne5; cases ne5
          walk_at "vc"
          refine x_putS hd5 (by rw [stKV_len hSt.len]; exact Nat.lt_of_le_of_lt (by omega : _ ≤ 1000) (by decide)) ?_
          rw [putK_new _ (stKV_out ht), ← stKV_snoc hSt.len]
          have sm6 : Same H (upd H5 d (.dK (stKV (ks ++ [t]) (ds ++ [e])))) := (sm4.trans sm5).putN hd
          have hd6 : upd H5 d (.dK (stKV (ks ++ [t]) (ds ++ [e]))) d = some (.dK (stKV (ks ++ [t]) (ds ++ [e]))) := upd_same
          have hwp6 : upd H5 d (.dK (stKV (ks ++ [t]) (ds ++ [e]))) wp = some (.lst (w.dropLast.map strV)) := (upd_ne nwd).trans hwp5
          have he6 : upd H5 d (.dK (stKV (ks ++ [t]) (ds ++ [e]))) e = some (.dK (stepKV (stps sds (kM sds) t))) := (upd_ne ned).trans he5
          have hlen' : (ds ++ [e]).length = (ks ++ [t]).length := by rw [List.length_append, List.length_append, hSt.len]; rfl
          have each6 : ∀ (i : Nat) u e', (ks ++ [t])[i]? = some u → (ds ++ [e])[i]? = some e' → upd H5 d (.dK (stKV (ks ++ [t]) (ds ++ [e]))) e' = some (.dK (stepKV (stps sds (kM sds) u))) := fun i u e' h1 h2 => by
            by_cases hi : i < ks.length
            · rw [List.getElem?_append_left hi] at h1
              rw [List.getElem?_append_left (by rw [hSt.len]; exact hi)] at h2
              have h4 := each4 i u e' h1 h2
              have h5 := sm5 _ _ h4
              rw [upd_ne (fun z => ?_)]
              · exact h5
              · rw [z] at h4
                have h6 := hSt.each i u e' h1 h2
                rw [z, hd3] at h6
                exact step_ne h1 h2 (HO.dK.inj (Option.some.inj h6)).symm
            · have hi2 := (List.getElem?_eq_some_iff.mp h1).1
              rw [List.length_append] at hi2
              have hi3 : i = ks.length := by simp only [List.length_cons, List.length_nil] at hi2; omega
              subst hi3
              rw [List.getElem?_append_right (Nat.le_refl _), Nat.sub_self] at h1
              rw [List.getElem?_append_right (by rw [hSt.len]; exact Nat.le_refl _), hSt.len, Nat.sub_self] at h2
              cases h1
              cases h2
              exact he6
          generalize upd H5 d (.dK (stKV (ks ++ [t]) (ds ++ [e]))) = H6 at sm6 hd6 hwp6 he6 each6
          walk_at "vc"
          refine ⟨.inl ⟨rfl, _, SqL.of hwp6⟩, ?_⟩
          walk_at "vc"
          obtain ⟨i0, e0, h1, h2, h3⟩ := stKV_in (t := t) hlen' (List.mem_append_right _ (List.mem_singleton.mpr rfl))
          refine x_getS (.inl hd6) h3 ?_
          refine x_valsD (each6 i0 t e0 h1 h2) fun vp hvp => ?_
          rw [stepKV_vals]
          have nvw : vp ≠ wp := fun z => by rw [z, hwp6] at hvp; cases hvp
          walk_at "vc"
          refine ⟨wp, vp, w.dropLast.map strV, (goals sds (kM sds) t).map strV, rfl, rfl, (upd_ne nvw.symm).trans hwp6, upd_same, ?_, ?_⟩
          · rw [List.length_map, List.length_map, List.length_dropLast]
            exact hp_sz (by omega)
          · have nvp : H vp = none := sm6.free hvp
            refine ⟨e, rfl, ?_, ?_, ⟨hlen', .inl ?_, fun i u e' h1 h2 => ?_⟩, ?_⟩
            · exact (sm6.putN nvp).putN nwp
            · rw [upd_ne nwd.symm, upd_ne (ne_of_none hd6 hvp)]
              exact hd6
            · rw [upd_ne nwd.symm, upd_ne (ne_of_none hd6 hvp)]
              exact hd6
            · have h6 := each6 i u e' h1 h2
              rw [upd_ne (ne_of h6 hwp6 (fun z => nomatch z)), upd_ne (ne_of_none h6 hvp)]
              exact h6
            · rw [upd_same, List.map_append]


/-- the dict of the tails come by, each with its place -/
def viKV (vis : List (List Nat)) : List (Key × V) := vis.zipIdx.map fun p => (Sum.inr (S p.1), V.int ((p.2 : Nat) : Int))
theorem viKV_len (vis : List (List Nat)) : (viKV vis).length = vis.length := by unfold viKV; rw [List.length_map, List.length_zipIdx]
theorem viKV_snoc (vis : List (List Nat)) (t : List Nat) : viKV (vis ++ [t]) = viKV vis ++ [(Sum.inr (S t), V.int ((vis.length : Nat) : Int))] := by
  unfold viKV
  rw [List.zipIdx_append, List.map_append]
  simp
theorem viKV_aux {t : List Nat} : ∀ (vis : List (List Nat)) (n : Nat), valV ((vis.zipIdx n).map fun p => ((Sum.inr (S p.1) : Key), V.int ((p.2 : Nat) : Int))) (Sum.inr (S t)) = if t ∈ vis then some (V.int ((n + vis.idxOf t : Nat) : Int)) else none
  | [], n => rfl
  | u :: vis, n => by
    rw [List.zipIdx_cons, List.map_cons]
    by_cases h : u = t
    · subst h
      rw [valV_pos rfl, if_pos List.mem_cons_self, List.idxOf_cons_self]
      rfl
    · rw [valV_neg (fun q => h (inr_S q)), viKV_aux vis (n + 1)]
      by_cases hm : t ∈ vis
      · have e : (u :: vis).idxOf t = vis.idxOf t + 1 := by
          rw [List.idxOf_cons, show (u == t) = false by simpa using h]
          rfl
        rw [if_pos hm, if_pos (List.mem_cons_of_mem _ hm), e]
        congr 2
        omega
      · rw [if_neg hm, if_neg (fun q => by
          rcases List.mem_cons.mp q with q | q
          · exact h q.symm
          · exact hm q)]
theorem rgo_cons (k : Nat) (vis : List (List Nat)) (t don : List Nat) (c : Nat) (z : List Nat) : rgo k vis t don (c :: z) = if tlK k (t ++ [c]) ∈ vis then (don ++ [c]).drop (vis.idxOf (tlK k (t ++ [c]))) else rgo k (vis ++ [tlK k (t ++ [c])]) (tlK k (t ++ [c])) (don ++ [c]) z := rfl
theorem viKV_get (vis : List (List Nat)) (t : List Nat) : valV (viKV vis) (Sum.inr (S t)) = if t ∈ vis then some (V.int ((vis.idxOf t : Nat) : Int)) else none := by
  have := viKV_aux (t := t) vis 0
  rw [Nat.zero_add] at this
  exact this
theorem ok_ring {f : Addr} {fd : FuncData} (F : Fun K "_ring" "_ring" s_ring f fd) (B : Bl mg) : FnOk P w K mg base CX0 1 f fd ["steps", "tail", "likes"] (sp_ring K) := by
  refine F.ok sc_ring (fun vs H Q E h => ?_) (fun cdv A outer s H vs Q E hr h => ?_)
  · first
      | (obtain ⟨_, rfl, _⟩ := h; rfl)
      | (obtain ⟨_, _, rfl, _⟩ := h; rfl)
      | (obtain ⟨_, _, _, rfl, _⟩ := h; rfl)
      | (obtain ⟨_, _, _, _, rfl, _⟩ := h; rfl)
      | (obtain ⟨_, _, _, _, _, rfl, _⟩ := h; rfl)
      | (obtain ⟨_, _, _, _, _, _, rfl, _⟩ := h; rfl)
      | (obtain ⟨_, _, _, _, _, _, _, rfl, _⟩ := h; rfl)
      | (obtain ⟨_, _, _, _, _, _, _, _, rfl, _⟩ := h; rfl)
      | (obtain ⟨_, _, _, _, _, _, _, _, _, rfl, _⟩ := h; rfl)
      | (obtain ⟨_, _, _, _, _, _, _, _, _, _, rfl, _⟩ := h; rfl)
      | (obtain ⟨_, _, _, _, _, _, _, _, _, _, _, rfl, _⟩ := h; rfl)
      | (obtain ⟨_, _, _, _, _, _, _, _, _, _, _, _, rfl, _⟩ := h; rfl)
      | (obtain ⟨_, _, _, _, _, _, _, _, _, _, _, _, _, rfl, _⟩ := h; rfl)
      | (obtain ⟨_, _, _, _, _, _, _, _, _, _, _, _, _, _, rfl, _⟩ := h; rfl)
      | (obtain ⟨_, _, _, _, _, _, _, _, _, _, _, _, _, _, _, rfl, _⟩ := h; rfl)
      | (obtain ⟨_, _, _, _, _, _, _, _, _, _, _, _, _, _, _, _, rfl, _⟩ := h; rfl)
      | (obtain ⟨_, _, _, _, _, _, _, _, _, _, _, _, _, _, _, _, _, rfl, _⟩ := h; rfl)
  · obtain ⟨sp, sds, k, ks, ds, t0, z0, rfl, hSt, hKI, ht0, hz0, hr0, hl0, q⟩ := h
    have lz : (S z0).length ≤ sizeLine := hp_sz (by rw [len_S]; omega)
    have hk255 := hKI.len
    refine ⟨_, 
  (pss_cons (ps_set (i := 3) sc_ring.nd rfl (.inl rfl) (pe_disp (pps_cons (pv 1) pe_int pps_nil) (by rfl) (by rfl) (fun z => by cases z) (by decide))) 
  (pss_cons (ps_for PassesOwn.never rfl (pi_enumS (by rfl) B.m_enumerate (pa_cons (pv 2) pa_nil)) (pg_tup rfl (pgs_cons (pg_name (i := 4) sc_ring.nd rfl (.inl rfl)) (pgs_cons (pg_name (i := 5) sc_ring.nd rfl (.inl rfl)) pgs_nil))) 
    (pss_cons (ps_set (i := 1) sc_ring.nd rfl (.inl rfl) (pe_dget (hu_of hr) (pe_dget (hu_of hr) (pv 0) (pv 1) (fun _ _ => rfl)) (pv 5) (fun _ _ => rfl))) 
    (pss_cons (ps_if (pt_cmp (pc_din (hu_of hr) (pv 1) (pv 3))) 
      (pss_one (ps_ret (pe_slice sl_str (pv 2) (po_some (pe_dget (hu_of hr) (pv 3) (pv 1) (fun _ _ => rfl))) (po_some (pe_op op_add (pv 4) pe_int))))) pss_nil) 
    (pss_one (ps_dput (hu_of hr) (pv 3) (pv 1) (pe_op op_add (pv 4) pe_int) rfl))))) 
  (pss_one (ps_ret pe_str)))), ?_⟩
    walk_at "vc"
    intro vp hvp
    show tVar 1 _ _ _
    walk_at "vc"
    refine ⟨upd_same, [(Sum.inr (S t0), .int 0)], rfl, (show 1 ≤ 15 by decide), ?_⟩
    walk_at "vc"
    have sm1 : Same H (upd (upd H vp (.dK [])) vp (.dK (mergeK [] [(Sum.inr (S t0), .int 0)]))) := by rw [upd_upd]; exact same_upd hvp
    have hvp1 : upd (upd H vp (.dK [])) vp (.dK (mergeK [] [(Sum.inr (S t0), .int 0)])) vp = some (.dK (viKV [t0])) := upd_same
    generalize upd (upd H vp (.dK [])) vp (.dK (mergeK [] [(Sum.inr (S t0), .int 0)])) = H1 at sm1 hvp1
    walk_at "vc"
    refine for_it (walk_enumS (x := S z0)) (fun i σ H' => ∃ (vis : List (List Nat)) (t : List Nat) (y4 y5 : Option V), σ = [some (.ref sp), some (.str (S t)), some (.str (S z0)), some (.ref vp), y4, y5] ∧ Same H H' ∧ H' vp = some (.dK (viKV vis)) ∧ RgI sds k ks t0 vis t (z0.take i) ∧ rgo k vis t (z0.take i) (z0.drop i) = rgo k [t0] t0 [] z0)
      ⟨[t0], t0, none, none, rfl, sm1, hvp1, by rw [List.take_zero]; exact RgI.start ht0, by rw [List.take_zero, List.drop_zero]⟩ (fun _ _ _ _ _ => trivial) ?_ ?_
    · rintro i x σ H2 H3 hi ⟨vis, t, y4, y5, rfl, sm2, hvp2, hR, hg⟩ ⟨T, c, rfl, hTn, hc, rfl⟩
      have hi' : i < z0.length := hi
      have ec : z0[i] = c := by
        have : z0[i]? = some c := by simpa [S] using hc
        rw [List.getElem?_eq_getElem hi'] at this
        exact Option.some.inj this
      have hcc : c = 61 ∨ c = 47 := by rw [← ec]; exact hz0 _ (List.getElem_mem hi')
      have ed : z0.drop i = c :: z0.drop (i + 1) := by rw [List.drop_eq_getElem_cons hi', ec]
      have et : z0.take (i + 1) = z0.take i ++ [c] := by rw [List.take_succ_eq_append_getElem hi', ec]
      have hok : okS sds t c = true := by
        have h2 := hr0
        rw [← List.take_append_drop i z0, run_app, hR.here, ed] at h2
        have h3 : (run sds k t (c :: z0.drop (i + 1))).isSome = true := h2
        rw [run_cons] at h3
        refine Classical.byContradiction fun e => ?_
        rw [if_neg e] at h3
        simp at h3
      have htk : t ∈ ks := hR.mem t hR.last
      have sm3 : Same H2 (upd H2 T (.tup [.int (i : Nat), .str ⟨#[c]⟩])) := same_upd hTn
      have hTT : upd H2 T (.tup [.int (i : Nat), .str ⟨#[c]⟩]) T = some (.tup [.int (i : Nat), .str ⟨#[c]⟩]) := upd_same
      have hvp3 := sm3 _ _ hvp2
      have smA := sm2.trans sm3
      generalize upd H2 T (.tup [.int (i : Nat), .str ⟨#[c]⟩]) = H3 at sm3 hTT hvp3 smA
      have hSt3 := hSt.same smA
      obtain ⟨d, hd1, hd2⟩ := hSt3.get htk
      refine x_gTup (SqT.of hTT) rfl ?_
      walk_at "vc"
      refine x_getS hSt3.at_ hd1 ?_
      walk_at "vc"
      refine x_getS (z := S [c]) (.inl hd2) (stepKV_go hcc hok) ?_
      walk_at "vc"
      refine x_askS (.inl hvp3) ?_
      rw [viKV_get]
      rw [ed] at hg
      rw [rgo_cons] at hg
      by_cases hm : tlK k (t ++ [c]) ∈ vis
      · rw [if_pos hm] at hg
        rw [if_pos hm]
        refine ⟨true, rfl, ?_⟩
        walk_at "vc"
        refine x_getS (.inl hvp3) (by rw [viKV_get, if_pos hm]) ?_
        walk_at "vc"
        refine x_slS lz ?_
        have e1 : ((i : Nat) : Int) + 1 = ((i + 1 : Nat) : Int) := by omega
        rw [e1, cutS_cut _ _ (i + 1) (by omega), ← List.drop_take, et, hg]
        exact q _ smA
      · rw [if_neg hm] at hg
        rw [if_neg hm]
        refine ⟨false, rfl, ?_⟩
        walk_at "vc"
        have hR2 := hR.step hKI hcc hok hm
        have hvl := hR.len
        rw [List.length_take, Nat.min_eq_left (Nat.le_of_lt hi')] at hvl
        refine x_putS hvp3 (by rw [viKV_len, hvl]; exact Nat.lt_of_le_of_lt (by omega : _ ≤ 1001) (by decide)) ?_
        have e1 : ((i : Nat) : Int) + 1 = ((vis.length : Nat) : Int) := by omega
        rw [putK_new _ (by rw [viKV_get, if_neg hm]), e1, ← viKV_snoc]
        exact ⟨_, _, _, _, rfl, smA.putN hvp, upd_same, by rw [et]; exact hR2, by rw [et]; exact hg⟩
    · rintro σ H2 ⟨vis, t, y4, y5, rfl, sm2, hvp2, hR, hg⟩
      have hsz : (S z0).cps.size = z0.length := len_S z0
      rw [hsz, List.drop_length] at hg
      walk_at "vc"
      have e0 : (Str.ofString "" : Str) = S [] := rfl
      rw [e0]
      have e1 : ([] : List Nat) = rgo k [t0] t0 [] z0 := hg
      rw [e1]
      exact q _ sm2


abbrev lamE : Expr := match s_best_behind with
  | .FunctionDef _ _ body _ _ _ _ _ _ _ => match body.getD 2 (.Pass ⟨0, 0, 0, 0⟩) with
    | .Return (some (.Call _ _ [⟨_, e, _⟩] _)) _ => e
    | _ => .Constant .none 0 ⟨0, 0, 0, 0⟩
  | _ => .Constant .none 0 ⟨0, 0, 0, 0⟩
abbrev lamPar : Arguments := match lamE with
  | .Lambda a _ _ _ => a
  | _ => defArgs s_best_behind
abbrev lamBody : Expr := match lamE with
  | .Lambda _ b _ _ => b
  | _ => .Constant .none 0 ⟨0, 0, 0, 0⟩
abbrev lamSc : Scope := match lamE with
  | .Lambda _ _ sc _ => sc
  | _ => defScope s_best_behind
theorem scLam_best_behind : FnScope ["choice"] ["choice"] lamSc := ⟨rfl, rfl, rfl, by decide +kernel, rfl, by decide +kernel, by decide +kernel⟩
theorem lamKey_best_behind {K : PySem.W.Frag} (t : Addr) (p : Int × List Nat) (H : Hp) (Q : VK) (hm : MxIt H t p) (q : ∀ kp H', Same H H' → H kp = none → H' kp = some (keyT p) → Q (.ref kp) H') :
    tTup (tCons (tOp (rIxT K) (tVar 0) (tC (.int 0))) (tCons (tUn (rU fun i => V.int (-i)) (tCB (fun xs H Q => ∃ z, xs = [V.str z] ∧ z.length ≤ sizeLine ∧ Q (.int (z.length : Nat)) H) (tCons (tOp (rIxT K) (tVar 0) (tC (.int 1))) tNil))) tNil)) (L2.start ["choice"] [.ref t]) H Q := by
  obtain ⟨hm1, hm2⟩ := hm
  refine x_tup ?_
  refine x_cons ?_
  refine x_op (x_var (v := .ref t) rfl (x_c ?_))
  refine x_ixT (SqT.of hm1) (atI_nat (j := 0) rfl) ?_
  refine x_cons ?_
  refine x_un (x_cb (x_cons ?_))
  refine x_op (x_var (v := .ref t) rfl (x_c ?_))
  refine x_ixT (SqT.of hm1) (atI_nat (j := 1) rfl) ?_
  refine x_nil ?_
  refine ⟨_, rfl, hp_sz (by rw [len_S]; omega), ?_⟩
  refine x_rU ?_
  refine x_nil ?_
  refine ⟨(show 2 ≤ sizeLine by decide), fun kp hkp => q kp _ (same_upd hkp) hkp ?_⟩
  rw [upd_same, len_S]
  rfl
theorem ok_best_behind {f cc PT : Addr} {oc kV doc pm ct : Value} {od an : Option Addr} {osl : Array (Option Value)} (lk : K.lookup f = some ⟨oc, od, .func (PySem.W.fnOf "_best_behind" "_best_behind" (defArgs s_best_behind) (defBody s_best_behind) (defScope s_best_behind) .none kV doc pm an (.ref cc) ct), osl⟩) (hcd : PySem.W.codeIn K (.ref cc) "_best_behind" = true) (TB : LamX.TabB base mg cc PT) (B : Bl mg) : FnOk P w K mg base CX0 3 f (PySem.W.fnOf "_best_behind" "_best_behind" (defArgs s_best_behind) (defBody s_best_behind) (defScope s_best_behind) .none kV doc pm an (.ref cc) ct) ["steps", "best", "weights"] (sp_best_behind K PT) := by
  refine fn_okL lk hcd sc_best_behind (fun vs H Q E h => ?_) (fun A outer s H vs Q E hr h => ?_)
  · first
      | (obtain ⟨_, rfl, _⟩ := h; rfl)
      | (obtain ⟨_, _, rfl, _⟩ := h; rfl)
      | (obtain ⟨_, _, _, rfl, _⟩ := h; rfl)
      | (obtain ⟨_, _, _, _, rfl, _⟩ := h; rfl)
      | (obtain ⟨_, _, _, _, _, rfl, _⟩ := h; rfl)
      | (obtain ⟨_, _, _, _, _, _, rfl, _⟩ := h; rfl)
      | (obtain ⟨_, _, _, _, _, _, _, rfl, _⟩ := h; rfl)
      | (obtain ⟨_, _, _, _, _, _, _, _, rfl, _⟩ := h; rfl)
      | (obtain ⟨_, _, _, _, _, _, _, _, _, rfl, _⟩ := h; rfl)
      | (obtain ⟨_, _, _, _, _, _, _, _, _, _, rfl, _⟩ := h; rfl)
      | (obtain ⟨_, _, _, _, _, _, _, _, _, _, _, rfl, _⟩ := h; rfl)
      | (obtain ⟨_, _, _, _, _, _, _, _, _, _, _, _, rfl, _⟩ := h; rfl)
      | (obtain ⟨_, _, _, _, _, _, _, _, _, _, _, _, _, rfl, _⟩ := h; rfl)
      | (obtain ⟨_, _, _, _, _, _, _, _, _, _, _, _, _, _, rfl, _⟩ := h; rfl)
      | (obtain ⟨_, _, _, _, _, _, _, _, _, _, _, _, _, _, _, rfl, _⟩ := h; rfl)
      | (obtain ⟨_, _, _, _, _, _, _, _, _, _, _, _, _, _, _, _, rfl, _⟩ := h; rfl)
      | (obtain ⟨_, _, _, _, _, _, _, _, _, _, _, _, _, _, _, _, _, rfl, _⟩ := h; rfl)
  · obtain ⟨d, bp, wp, ps, ks, as, f, g, l, rfl, hd, hps2, hps, hpu, hB, hfl, hw, nbd, nwd, hT, q⟩ := h
    refine ⟨_, 
  (pss_cons (ps_set (i := 3) sc_best_behind.nd rfl (.inl rfl) (pe_lst (pa_cons (pe_tup (pa_cons pe_int (pa_cons pe_str pa_nil))) pa_nil))) 
  (pss_cons (ps_lock (ps_for PassesOwn.never rfl (pi_keys (pv 0)) (pg_name (i := 4) sc_best_behind.nd rfl (.inl rfl)) 
    (pss_cons (ps_asg (pe_dget (hu_of hr) (pv 1) (pe_dget (hu_of hr) (pv 0) (pv 4) (fun _ _ => rfl)) (fun _ _ => rfl)) (pg_tup rfl (pgs_cons (pg_name (i := 5) sc_best_behind.nd rfl (.inl rfl)) (pgs_cons (pg_name (i := 6) sc_best_behind.nd rfl (.inl rfl)) pgs_nil)))) 
    (pss_one (ps_expr (pe_bm PySem.F.plainAttrs_list PySem.F.slot_list_append PySem.F.type_list_append mt_append (pv 3) (pa_cons (pe_tup (pa_cons (pe_op op_add (pe_dget (hu_of hr) (pv 2) (pv 4) (fun _ _ => rfl)) (pv 5)) (pa_cons (pe_op op_add_str (pv 4) (pv 6)) pa_nil))) pa_nil))))))) 
  (pss_one (ps_ret (pe_callBK (cr_maxKey (q := qL) (params := lamPar) (body := lamBody) (scope := lamSc) rfl hr scLam_best_behind (fun _ _ _ _ => rfl) (fun _ _ _ _ _ _ _ => (pe_tup (pa_cons (pe_ix (show IxR _ (rIxT K) from ix_tup) (pv 0) pe_int (fun _ _ => rfl)) (pa_cons (pe_un un_neg (pe_callB call_len_str (by rfl) B.m_len PySem.boot_len (pa_cons (pe_ix (show IxR _ (rIxT K) from ix_tup) (pv 0) pe_int (fun _ _ => rfl)) pa_nil))) pa_nil)))) lamKey_best_behind) (by rfl) B.m_max (by decide +kernel) (pa_cons (pv 3) pa_nil) (pk_cons (pe_lamF TB rfl rfl rfl) pk_nil)))))), ?_⟩
    walk_at "vc"
    refine ⟨(show 2 ≤ sizeLine by decide), fun t0 ht0 => ?_⟩
    rw [show (Str.ofString "" : Str) = S [] from rfl]
    have sm1 : Same H (upd H t0 (.tup [.int 0, .str (S [])])) := same_upd ht0
    have ht1 : upd H t0 (.tup [.int 0, .str (S [])]) t0 = some (.tup [.int 0, .str (S [])]) := upd_same
    generalize upd H t0 (.tup [.int 0, .str (S [])]) = H1 at sm1 ht1
    walk_at "vc"
    refine ⟨(show 1 ≤ sizeLine by decide), fun cp hcp => ?_⟩
    have ncp : H cp = none := sm1.free hcp
    have sm2 : Same H (upd H1 cp (.lst [.ref t0])) := sm1.trans (same_upd hcp)
    have hcp2 : upd H1 cp (.lst [.ref t0]) cp = some (.lst [.ref t0]) := upd_same
    have ht2 : upd H1 cp (.lst [.ref t0]) t0 = _ := (upd_ne (ne_of_none ht1 hcp)).trans ht1
    generalize upd H1 cp (.lst [.ref t0]) = H2 at sm2 hcp2 ht2
    walk_at "vc"
    have hd2 := sm2 _ _ hd
    refine x_lock hd2 trivial fun od => ?_
    have ncd : cp ≠ d := ne_of hcp2 hd2 (fun z => nomatch z)
    have ntd : t0 ≠ d := ne_of ht2 hd2 (fun z => nomatch z)
    walk_at "vc"
    refine ⟨d, od, rfl, .inl ⟨stepKV ps, upd_same, ?_⟩⟩
    refine for_it (walk_keys (d := d) (o := od) (kvs := stepKV ps)) (fun i σ H' => ∃ (ts : List Addr) (y4 y5 y6 : Option V), σ = [some (.ref d), some (.ref bp), some (.ref wp), some (.ref cp), y4, y5, y6] ∧ (∀ b o, b ≠ d → H b = some o → H' b = some o) ∧ H' d = some (.frz od (.dK (stepKV ps))) ∧ H' cp = some (.lst (ts.map V.ref)) ∧ ts.length = i + 1 ∧ ∀ (j : Nat) t p, ts[j]? = some t → ((0, []) :: (ps.take i).map (cand g l f))[j]? = some p → MxIt H' t p)
      ⟨[t0], none, none, none, rfl, fun b o nb e => by rw [upd_ne nb]; exact sm2 b o e, upd_same, by rw [upd_ne ncd]; exact hcp2, rfl, fun j t p h1 h2 => ?_⟩ (fun i σ H' _ h => by obtain ⟨_, _, _, _, _, _, h, _⟩ := h; exact h) ?_ ?_
    · have hj : j = 0 := by
        have := (List.getElem?_eq_some_iff.mp h1).1
        simp at this
        omega
      subst hj
      cases h1
      cases h2
      exact ⟨by rw [upd_ne ntd]; exact ht2, by decide⟩
    · rintro i x σ H3 H3' hi ⟨ts, y4, y5, y6, rfl, kp3, hd3, hcp3, hlen3, hit3⟩ ⟨rfl, k, v, hkv, rfl⟩
      have hi' : i < ps.length := by unfold stepKV at hi; rw [List.length_map] at hi; exact hi
      obtain ⟨c, u, hp⟩ : ∃ c u, ps[i] = (c, u) := ⟨_, _, rfl⟩
      have hpi : ps[i]? = some (c, u) := by rw [List.getElem?_eq_getElem hi', hp]
      have hmem : (c, u) ∈ ps := List.mem_of_getElem? hpi
      have hk : k = Sum.inr (S [c]) := by
        unfold stepKV at hkv
        rw [List.getElem?_map, hpi] at hkv
        exact (congrArg Prod.fst (Option.some.inj hkv)).symm
      subst hk
      obtain ⟨hcc, huk⟩ := hps _ hmem
      have hgo : valV (stepKV ps) (Sum.inr (S [c])) = some (.str (S u)) := stepKV_in hmem fun p hp e => hpu p hp _ hmem e
      have hbp3 := kp3 _ _ nbd hB.at_
      have hwp3 := kp3 _ _ nwd hw
      obtain ⟨a, ha1, ha2⟩ := hB.get huk
      have ha3 : H3' a = some (.tup [.int (f u).1, .str (S (f u).2)]) := kp3 _ _ (ne_of ha2.1 hd (fun z => nomatch z)) ha2.1
      have hful := hfl u huk
      rw [show L2.kV (Sum.inr (S [c])) = V.str (S [c]) from rfl]
      walk_at "vc"
      refine x_getS (.inr ⟨od, hd3⟩) hgo ?_
      refine x_getS (.inl hbp3) ha1 ?_
      refine x_gTup (SqT.of ha3) rfl ?_
      walk_at "vc"
      refine ⟨.inl ⟨rfl, _, SqL.of hcp3⟩, ?_⟩
      walk_at "vc"
      refine x_getS (.inl hwp3) (wKV_get hcc) ?_
      walk_at "vc"
      refine ⟨S [c], S (f u).2, rfl, rfl, hp_sz (by rw [len_S, len_S]; show 1 + _ ≤ _; omega), ?_⟩
      rw [S_app]
      walk_at "vc"
      refine ⟨(show 2 ≤ sizeLine by decide), fun tn htn => ?_⟩
      have nts : tn ∉ ts := fun hm => by
        obtain ⟨j, hj⟩ := List.getElem?_of_mem hm
        have hjl := (List.getElem?_eq_some_iff.mp hj).1
        have := (hit3 j tn _ hj (List.getElem?_eq_getElem (by rw [List.length_cons, List.length_map, List.length_take]; omega))).1
        rw [htn] at this
        cases this
      have ntc : tn ≠ cp := fun z => by rw [z, hcp3] at htn; cases htn
      walk_at "vc"
      refine x_append (by rw [upd_ne ntc.symm]; exact hcp3) (by rw [List.length_map, hlen3]; exact Nat.lt_of_le_of_lt (by omega : _ ≤ 10) (by decide)) ?_
      refine ⟨ts ++ [tn], _, _, _, rfl, fun b o nb e => ?_, ?_, ?_, by rw [List.length_append, hlen3]; rfl, fun j t p h1 h2 => ?_⟩
      · rw [upd_ne (ne_of_none e ncp), upd_ne (fun z => by rw [← z, kp3 b o nb e] at htn; cases htn)]
        exact kp3 b o nb e
      · rw [upd_ne ncd.symm, upd_ne (fun z => by rw [← z, hd3] at htn; cases htn)]
        exact hd3
      · rw [upd_same, List.map_append]
        rfl
      · rw [List.take_succ_eq_append_getElem hi', List.map_append] at h2
        have hLl : ((0, []) :: (ps.take i).map (cand g l f) : List (Int × List Nat)).length = i + 1 := by rw [List.length_cons, List.length_map, List.length_take]; omega
        by_cases hj : j < i + 1
        · rw [List.getElem?_append_left (by rw [hlen3]; exact hj)] at h1
          rw [← List.cons_append, List.getElem?_append_left (by rw [hLl]; exact hj)] at h2
          have := hit3 j t p h1 h2
          refine ⟨?_, this.2⟩
          rw [upd_ne (ne_of this.1 hcp3 (fun z => nomatch z)), upd_ne (fun z => nts (by rw [← z]; exact List.mem_of_getElem? h1))]
          exact this.1
        · have hjl := (List.getElem?_eq_some_iff.mp h1).1
          rw [List.length_append, hlen3] at hjl
          have hji : j = i + 1 := by simp only [List.length_cons, List.length_nil] at hjl; omega
          subst hji
          rw [List.getElem?_append_right (by omega), hlen3, Nat.sub_self] at h1
          rw [← List.cons_append, List.getElem?_append_right (by omega), hLl, Nat.sub_self, hp] at h2
          cases h1
          cases h2
          refine ⟨?_, ?_⟩
          · rw [upd_ne ntc, upd_same]
            rfl
          · show (c :: (f u).2).length ≤ _
            rw [List.length_cons]
            omega
    · rintro σ H3 ⟨ts, y4, y5, y6, rfl, kp3, hd3, hcp3, hlen3, hit3⟩
      refine ⟨hd3, ?_⟩
      have hsl : (stepKV ps).length = ps.length := by unfold stepKV; rw [List.length_map]
      rw [hsl] at hlen3 hit3
      rw [List.take_length] at hit3
      have sm4 : Same H (upd H3 d (.dK (stepKV ps))) := fun b o e => by
        by_cases hb : b = d
        · rw [hb, hd] at e
          rw [hb, upd_same]
          exact e
        · rw [upd_ne hb]
          exact kp3 b o hb e
      have hcp4 : upd H3 d (.dK (stepKV ps)) cp = some (.lst (ts.map V.ref)) := by rw [upd_ne ncd]; exact hcp3
      have hit4 : ∀ (j : Nat) t p, ts[j]? = some t → ((0, []) :: ps.map (cand g l f))[j]? = some p → MxIt (upd H3 d (.dK (stepKV ps))) t p := fun j t p h1 h2 => by
        have := hit3 j t p h1 h2
        refine ⟨?_, this.2⟩
        rw [upd_ne (ne_of this.1 hd3 (fun z => nomatch z))]
        exact this.1
      generalize upd H3 d (.dK (stepKV ps)) = H4 at sm4 hcp4 hit4
      walk_at "vc"
      refine ⟨hT.ext sm4, fun lf c' H5 sm5 nlf hlf hc' => ?_⟩
      walk_at "vc"
      refine ⟨cp, lf, c', ts, (0, []), ps.map (cand g l f), rfl, rfl, SqL.of (sm5.lst hcp4), hlf, hc', by rw [List.length_map]; exact hlen3, fun j t p h1 h2 => ?_, fun j t H6 h1 h2 sm6 => ?_⟩
      · have := hit4 j t p h1 h2
        exact ⟨sm5.tup this.1, this.2⟩
      · have := hit4 j t _ h1 h2
        exact q t H6 ((SmT.of sm4).trans (sm5.trans (SmT.of sm6))) ⟨sm6 _ _ (sm5.tup this.1), this.2⟩


theorem stKV_take {ks : List (List Nat)} {as : List Addr} {i : Nat} {t : List Nat} {a : Addr} (hi : ks[i]? = some t) (hl : as.length = i) : stKV (ks.take (i + 1)) (as ++ [a]) = stKV (ks.take i) as ++ [(Sum.inr (S t), V.ref a)] := by
  obtain ⟨hlt, e⟩ := List.getElem?_eq_some_iff.mp hi
  rw [List.take_succ_eq_append_getElem hlt, stKV_snoc (by rw [List.length_take]; omega), e]
theorem take_notin {ks : List (List Nat)} (hn : ks.Nodup) {i : Nat} {t : List Nat} (hi : ks[i]? = some t) : t ∉ ks.take i := fun h => by
  obtain ⟨j, hj⟩ := List.getElem?_of_mem h
  have hjl := (List.getElem?_eq_some_iff.mp hj).1
  rw [List.length_take] at hjl
  rw [List.getElem?_take, if_pos (by omega)] at hj
  have hil := (List.getElem?_eq_some_iff.mp hi).1
  have := (List.getElem?_inj (by omega) hn).mp (hj.trans hi.symm)
  omega
theorem key_at {ks : List (List Nat)} {ds : List Addr} {i : Nat} {k : Key} {v : V} (hl : ds.length = ks.length) (h : (stKV ks ds)[i]? = some (k, v)) : ∃ t d, ks[i]? = some t ∧ ds[i]? = some d ∧ k = Sum.inr (S t) := by
  have hi := (List.getElem?_eq_some_iff.mp h).1
  rw [stKV_len hl] at hi
  have h1 : ks[i]? = some ks[i] := List.getElem?_eq_getElem hi
  have h2 : ds[i]? = some (ds[i]'(by omega)) := List.getElem?_eq_getElem (by omega)
  have := stKV_get h1 h2
  rw [h] at this
  exact ⟨_, _, h1, h2, congrArg Prod.fst (Option.some.inj this)⟩
theorem w_ne {l : List (Nat × List Nat)} {g ll : Int} (h : stepKV l = wKV g ll) : False := by
  cases l with
  | nil => cases h
  | cons p l =>
    have h1 := congrArg Prod.snd (List.cons.inj h).1
    cases h1
theorem st_ne_w {ks : List (List Nat)} {ds : List Addr} {g l : Int} {i : Nat} {t : List Nat} {d : Addr} (h1 : ks[i]? = some t) (h2 : ds[i]? = some d) (h : stKV ks ds = wKV g l) : False := by
  have e := stKV_get h1 h2
  rw [h] at e
  cases i with
  | zero => cases congrArg Prod.snd (Option.some.inj e)
  | succ i =>
    cases i with
    | zero => cases congrArg Prod.snd (Option.some.inj e)
    | succ i => cases e
theorem bs_ne_st {H : Hp} {bp sa : Addr} {ks : List (List Nat)} {as ds : List Addr} {f : List Nat → Int × List Nat} {sds : List (List Nat)} {k : Nat} (hB : BsAt H bp ks f as) (hS : StAt H sa sds k ks ds) (hs : H sa = some (.dK (stKV ks ds))) (h0 : [] ∈ ks) : bp ≠ sa := fun e => by
  have h := hB.at_
  rw [e, hs] at h
  have h1 : stKV ks ds = stKV ks as := HO.dK.inj (Option.some.inj h)
  obtain ⟨i, d, hi, hd, _⟩ := stKV_in hS.len h0
  have hil := (List.getElem?_eq_some_iff.mp hi).1
  have ha : as[i]? = some (as[i]'(by rw [hB.len]; exact hil)) := List.getElem?_eq_getElem _
  have e1 := stKV_get hi hd
  have e2 := stKV_get hi ha
  rw [h1, e2] at e1
  have e3 : V.ref _ = V.ref d := congrArg Prod.snd (Option.some.inj e1)
  have e4 := V.ref.inj e3
  rw [e4] at ha
  have h2 := (hB.each i _ _ hi ha).1
  rw [hS.each i _ _ hi hd] at h2
  cases h2
def isD (p : Int × List Nat) : PyData := .tuple [.int p.1, .str (S p.2)]
theorem isD_eqv (p q : Int × List Nat) : PyData.eqv (isD p) (isD q) = decide (p = q) := by
  unfold isD
  simp only [PyData.eqv, PyData.eqvAll, Bool.and_true]
  rw [Bool.eq_iff_iff]
  simp only [Bool.and_eq_true, decide_eq_true_eq, beq_iff_eq]
  constructor
  · rintro ⟨h1, h2⟩
    exact Prod.ext h1 (S_inj h2)
  · intro h
    rw [h]
    exact ⟨rfl, rfl⟩
theorem isD_shaped {p : Int × List Nat} (h : Lk p.2) : SeqAt.shaped (isD p) = true := by
  have h2 := strOk_S h.cd
  unfold SeqAt.shaped isD
  rw [Bool.and_eq_true]
  refine ⟨?_, decide_eq_true ?_⟩
  · simp only [PyData.canLayAll0, PyData.canLay0, Bool.and_eq_true, Bool.true_and]
    exact ⟨h2, trivial⟩
  · simp only [PyData.depth, PyData.depthAll]
    omega
theorem isD_ne {K : PySem.W.Frag} {H : Hp} {a b : Addr} {p q : Int × List Nat} (hp : Lk p.2) (hq : Lk q.2) (ha : MxIt H a p) (hb : MxIt H b q) {Q : VK} (h : Q (.bl (decide (p ≠ q))) H) : rNeD K (.ref a) (.ref b) H Q :=
  ⟨isD p, isD q, .tup (SqT.of ha.1) (.cons (.int _) (.cons (.str _) .nil)), .tup (SqT.of hb.1) (.cons (.int _) (.cons (.str _) .nil)), isD_shaped hp, isD_shaped hq, by
    rw [isD_eqv]
    have e : (!decide (p = q)) = decide (p ≠ q) := by simp
    rw [e]
    exact h⟩
theorem optS_bound {sds : List (List Nat)} {k : Nat} {g l : Int} (r : Nat) (t : List Nat) : (optS sds k g l r t).2.length ≤ r := (optS_is r t).len
theorem okbar {f : Addr} {fd : FuncData} {PT : Addr} {uFEWEST_LETTERS uMOST_LETTERS uALPHABET uLONGEST_ROW uLEAST_WEIGHT uMOST_WEIGHT uLIKE uUNLIKE uSHORTEST_SEED uLONGEST_SEED uPICK uGAP uFEWEST_SEEDS uMOST_SEEDS uBAR uENDLESS : Value} {f_steps : Addr} {fd_steps : FuncData} {fworth_of : Addr} {fdworth_of : FuncData} {f_ring : Addr} {fd_ring : FuncData} {f_best_behind : Addr} {fd_best_behind : FuncData} (F : Fun K "bar" "bar" sbar f fd) (B : Bl mg) (C : Cs mg uFEWEST_LETTERS uMOST_LETTERS uALPHABET uLONGEST_ROW uLEAST_WEIGHT uMOST_WEIGHT uLIKE uUNLIKE uSHORTEST_SEED uLONGEST_SEED uPICK uGAP uFEWEST_SEEDS uMOST_SEEDS uBAR uENDLESS) (D_steps : Dn P w K mg base "_steps" 4 ["seeds"] (sp_steps K) f_steps fd_steps) (Dworth_of : Dn P w K mg base "worth_of" 1 ["likes", "scale"] (spworth_of K) fworth_of fdworth_of) (D_ring : Dn P w K mg base "_ring" 1 ["steps", "tail", "likes"] (sp_ring K) f_ring fd_ring) (D_best_behind : Dn P w K mg base "_best_behind" 3 ["steps", "best", "weights"] (sp_best_behind K PT) f_best_behind fd_best_behind) : FnOk P w K mg base CX0 5 f fd ["seeds", "scale"] (spbar K PT) := by
  refine F.ok scbar (fun vs H Q E h => ?_) (fun cdv A outer s H vs Q E hr h => ?_)
  · first
      | (obtain ⟨_, rfl, _⟩ := h; rfl)
      | (obtain ⟨_, _, rfl, _⟩ := h; rfl)
      | (obtain ⟨_, _, _, rfl, _⟩ := h; rfl)
      | (obtain ⟨_, _, _, _, rfl, _⟩ := h; rfl)
      | (obtain ⟨_, _, _, _, _, rfl, _⟩ := h; rfl)
      | (obtain ⟨_, _, _, _, _, _, rfl, _⟩ := h; rfl)
      | (obtain ⟨_, _, _, _, _, _, _, rfl, _⟩ := h; rfl)
      | (obtain ⟨_, _, _, _, _, _, _, _, rfl, _⟩ := h; rfl)
      | (obtain ⟨_, _, _, _, _, _, _, _, _, rfl, _⟩ := h; rfl)
      | (obtain ⟨_, _, _, _, _, _, _, _, _, _, rfl, _⟩ := h; rfl)
      | (obtain ⟨_, _, _, _, _, _, _, _, _, _, _, rfl, _⟩ := h; rfl)
      | (obtain ⟨_, _, _, _, _, _, _, _, _, _, _, _, rfl, _⟩ := h; rfl)
      | (obtain ⟨_, _, _, _, _, _, _, _, _, _, _, _, _, rfl, _⟩ := h; rfl)
      | (obtain ⟨_, _, _, _, _, _, _, _, _, _, _, _, _, _, rfl, _⟩ := h; rfl)
      | (obtain ⟨_, _, _, _, _, _, _, _, _, _, _, _, _, _, _, rfl, _⟩ := h; rfl)
      | (obtain ⟨_, _, _, _, _, _, _, _, _, _, _, _, _, _, _, _, rfl, _⟩ := h; rfl)
      | (obtain ⟨_, _, _, _, _, _, _, _, _, _, _, _, _, _, _, _, _, rfl, _⟩ := h; rfl)
  · obtain ⟨sp, ps, sds, g, l, rfl, hsp, hps, hsd, l1, l3, hg1, hg2, hl1, hl2, hT, q⟩ := h
    have hk7 := kM_le hsd
    have hKI : KeysI sds (kM sds) (keys sds (kM sds)) := keys_is hk7
    have hok : BarOk sds g l (barM sds g l) := barM_ok hsd
    refine ⟨_, 
  (pss_cons (ps_set (i := 2) scbar.nd rfl (.inr rfl) (pe_call D_steps.ok hr (by rfl) D_steps.g D_steps.kp D_steps.b .nil pass0 (pa_cons (pv 0) pa_nil))) 
  (pss_cons (ps_set (i := 3) scbar.nd rfl (.inr rfl) (pe_dc (own := [("pair", 10)]) (g := gName 10) (tt := tYes) rfl scbar.nd (pi_tup (pe_tup (pa_cons (pe_glob rfl C.c_LIKE.2 C.c_LIKE.1) (pa_cons (pe_glob rfl C.c_UNLIKE.2 C.c_UNLIKE.1) pa_nil)))) (blkOk_by (N := nbar) (sc := defScope sbar) (by decide +kernel)) (fun _ _ _ _ _ => (pg_name (i := 10) scbar.nd rfl (.inl rfl))) (fun _ _ _ _ _ => pts_nil) (fun _ _ _ _ _ => (pv 10)) (fun _ _ _ _ _ => (pe_call Dworth_of.ok (hr.mono (by decide)) (by rfl) Dworth_of.g Dworth_of.kp Dworth_of.b .nil pass0 (pa_cons (pv 10) (pa_cons (pv 1) pa_nil)))))) 
  (pss_cons (ps_lock (ps_set (i := 4) scbar.nd rfl (.inr rfl) (pe_dc (own := [("tail", 11)]) (g := gName 11) (tt := tYes) rfl scbar.nd (pi_keys (pv 2)) (blkOk_by (N := nbar) (sc := defScope sbar) (by decide +kernel)) (fun _ _ _ _ _ => (pg_name (i := 11) scbar.nd rfl (.inl rfl))) (fun _ _ _ _ _ => pts_nil) (fun _ _ _ _ _ => (pv 11)) (fun _ _ _ _ _ => (pe_tup (pa_cons pe_int (pa_cons pe_str pa_nil))))))) 
  (pss_one (ps_while PassesOwn.never (pt_val pe_bl) 
    (pss_cons (ps_lock (ps_set (i := 5) scbar.nd rfl (.inr rfl) (pe_dc (own := [("tail", 11)]) (g := gName 11) (tt := tYes) rfl scbar.nd (pi_keys (pv 2)) (blkOk_by (N := nbar) (sc := defScope sbar) (by decide +kernel)) (fun _ _ _ _ _ => (pg_name (i := 11) scbar.nd rfl (.inl rfl))) (fun _ _ _ _ _ => pts_nil) (fun _ _ _ _ _ => (pv 11)) (fun _ _ _ _ _ => (pe_call D_best_behind.ok (hr.mono (by decide)) (by rfl) D_best_behind.g D_best_behind.kp D_best_behind.b .nil pass0 (pa_cons (pe_dget (hu_of hr) (pv 2) (pv 11) (fun _ _ => rfl)) (pa_cons (pv 4) (pa_cons (pv 3) pa_nil)))))))) 
    (pss_cons (ps_lock (ps_setLc (i := 6) (own := [("tail", 11)]) (g := gName 11) rfl scbar.nd rfl rfl (sw_true rfl rfl rfl (by decide +kernel)) (pi_keys (pv 2)) (blkOk_by (N := nbar) (sc := defScope sbar) (by decide +kernel)) (fun _ _ _ _ _ => (pg_name (i := 11) scbar.nd rfl (.inl rfl))) (fun _ _ _ _ _ => pts_one (pt_cmpR (show OpR _ (compareOp .NotEq) (rNeD K) from op_neD hr.units) (pe_dget (hu_of hr) (pv 5) (pv 11) (fun _ _ => rfl)) (pe_dget (hu_of hr) (pv 4) (pv 11) (fun _ _ => rfl)) (nomark _))) (fun _ _ _ _ _ => (pv 11)))) 
    (pss_cons (ps_if (pt_not (pt_truth (pv 6) (by intro _; rfl))) 
      (pss_cons (ps_asg (pe_dget (hu_of hr) (pv 4) pe_str (fun _ _ => rfl)) (pg_tup rfl (pgs_cons (pg_name (i := 7) scbar.nd rfl (.inl rfl)) (pgs_cons (pg_name (i := 8) scbar.nd rfl (.inl rfl)) pgs_nil)))) 
      (pss_one (ps_ret (pe_tup (pa_cons (pe_glob rfl C.c_BAR.2 C.c_BAR.1) (pa_cons (pv 7) (pa_cons (pv 8) pa_nil))))))) pss_nil) 
    (pss_cons (ps_set (i := 9) scbar.nd rfl (.inl rfl) (pe_call D_ring.ok (hr.mono (by decide)) (by rfl) D_ring.g D_ring.kp D_ring.b .nil pass0 (pa_cons (pv 2) (pa_cons (pe_ix ix_list (pv 6) pe_int (fun _ _ => rfl)) (pa_cons (pe_ix ix_tup (pe_dget (hu_of hr) (pv 5) (pe_ix ix_list (pv 6) pe_int (fun _ _ => rfl)) (fun _ _ => rfl)) pe_int (fun _ _ => rfl)) pa_nil))))) 
    (pss_cons (ps_if (pt_truth (pv 9) (by intro _; rfl)) 
      (pss_one (ps_ret (pe_tup (pa_cons (pe_glob rfl C.c_ENDLESS.2 C.c_ENDLESS.1) (pa_cons pe_str (pa_cons (pv 9) pa_nil)))))) pss_nil) 
    (pss_one (ps_set (i := 4) scbar.nd rfl (.inr rfl) (pv 5))))))))))))), ?_⟩
    walk_at "vc"
    refine ⟨sp, sds, rfl, hsp, hsd, l1, l3, fun sa ds H1 sm1 nsa hsa1 hSt1 => ?_⟩
    have hbar : barGo sds (kM sds) g l (keys sds (kM sds)) 300 0 = barM sds g l := rfl
    generalize keys sds (kM sds) = ks at hKI hsa1 hSt1 hbar
    have hk255 := hKI.len
    walk_at "vc"
    refine ⟨(show 2 ≤ sizeLine by decide), fun tp htp => ?_⟩
    have sm2 := sm1.trans (same_upd (o := .tup [.str (Str.ofString "="), .str (Str.ofString "/")]) htp)
    have hsa2 : upd H1 tp (.tup [.str (Str.ofString "="), .str (Str.ofString "/")]) sa = _ := (upd_ne (ne_of_none hsa1 htp)).trans hsa1
    have hSt2 := hSt1.same (same_upd (o := .tup [.str (Str.ofString "="), .str (Str.ofString "/")]) htp)
    have htp2 : upd H1 tp (.tup [.str (Str.ofString "="), .str (Str.ofString "/")]) tp = some (.tup [.str (S [61]), .str (S [47])]) := upd_same
    generalize upd H1 tp (.tup [.str (Str.ofString "="), .str (Str.ofString "/")]) = H2 at sm2 hsa2 hSt2 htp2
    refine ⟨tp, rfl, ⟨_, SqT.of htp2⟩, ?_⟩
    intro wp hwp
    have nwp : H wp = none := sm2.free hwp
    refine dc_it (walk_tup (xs := [.str (S [61]), .str (S [47])])) (fun i H' => Same H2 H' ∧ H' wp = some (.dK ((wKV g l).take i))) ⟨same_upd hwp, upd_same⟩ (fun i H' _ h => SqT.of (h.1 _ _ htp2)) ?_ ?_
    · rintro i x H3 H3' hi ⟨sm3, hwp3⟩ ⟨rfl, hx⟩
      have hi2 : i < 2 := hi
      obtain ⟨c, ec, ex⟩ : ∃ c : Nat, (c = if i = 0 then 61 else 47) ∧ x = .str (S [c]) := by
        have : i = 0 ∨ i = 1 := by omega
        rcases this with e | e
        · subst e; exact ⟨61, rfl, (Option.some.inj hx).symm⟩
        · subst e; exact ⟨47, rfl, (Option.some.inj hx).symm⟩
      subst ex
      have hcc : c = 61 ∨ c = 47 := by rw [ec]; split <;> simp
      walk_at "vc"
      refine ⟨rfl, ?_⟩
      walk_at "vc"
      refine ⟨[c], ps, g, l, rfl, SqT_same (sm2.trans sm3) hps, fun d hd => by rw [List.mem_singleton.mp hd]; exact hcc, by omega, by omega, by omega, by omega, ?_⟩
      refine ⟨_, Sum.inr (S [c]), rfl, hwp3, by rw [List.length_take]; exact Nat.lt_of_le_of_lt (by omega : _ ≤ 2) (by decide), sm3.putN hwp, ?_⟩
      rw [upd_same]
      have : i = 0 ∨ i = 1 := by omega
      rcases this with e | e
      · subst e
        subst ec
        show some (HO.dK (putK [] (Sum.inr (S [61])) (V.int (wor g l [61])))) = _
        rw [putK_new _ rfl]
        show some (HO.dK [(Sum.inr (S [61]), V.int (g + 0))]) = _
        rw [Int.add_zero]
        rfl
      · subst e
        subst ec
        show some (HO.dK (putK [(Sum.inr (S [61]), V.int g)] (Sum.inr (S [47])) (V.int (wor g l [47])))) = _
        rw [putK_new _ (by rw [valV_neg (fun q => by have := (List.cons.inj (inr_S q)).1; omega)]; rfl)]
        show some (HO.dK [(Sum.inr (S [61]), V.int g), (Sum.inr (S [47]), V.int (-l + 0))]) = _
        rw [Int.add_zero]
        rfl
    · rintro H3 ⟨sm3, hwp3⟩
      have hwp3 : H3 wp = some (.dK (wKV g l)) := hwp3
      have sm3' := sm2.trans sm3
      have hsa3 := sm3 _ _ hsa2
      have hSt3 := hSt2.same sm3
      clear hsa2 hSt2 hsa1 hSt1 htp2 hwp sm3 sm2
      walk_at "vc"
      -- best
      refine x_lock hsa3 trivial fun od => ?_
      walk_at "vc"
      refine ⟨sa, od, rfl, .inl ⟨stKV ks ds, upd_same, ?_⟩⟩
      intro bp hbp
      have nbs : bp ≠ sa := fun z => by rw [z, upd_same] at hbp; cases hbp
      have nbp3 : H3 bp = none := by rw [upd_ne nbs] at hbp; exact hbp
      have nbp : H bp = none := sm3'.free nbp3
      refine dc_it (walk_keys (d := sa) (o := od) (kvs := stKV ks ds)) (fun i H' => ∃ as : List Addr, (∀ b o, b ≠ sa → H3 b = some o → H' b = some o) ∧ H' sa = some (.frz od (.dK (stKV ks ds))) ∧ as.length = i ∧ H' bp = some (.dK (stKV (ks.take i) as)) ∧ ∀ a ∈ as, MxIt H' a (0, []))
        ⟨[], fun b o nb e => by rw [upd_ne (ne_of_none e nbp3), upd_ne nb]; exact e, by rw [upd_ne nbs.symm, upd_same], rfl, upd_same, fun a h => by simp at h⟩ (fun i H' _ h => by obtain ⟨_, _, h, _⟩ := h; exact h) ?_ ?_
      · rintro i x H4 H4' hi ⟨as, kp4, hsa4, hal, hbp4, hit4⟩ ⟨rfl, k, v, hkv, rfl⟩
        obtain ⟨t, d, ht, hd, rfl⟩ := key_at hSt3.len hkv
        have hil := (List.getElem?_eq_some_iff.mp ht).1
        rw [show L2.kV (Sum.inr (S t)) = V.str (S t) from rfl]
        walk_at "vc"
        refine ⟨rfl, ?_⟩
        walk_at "vc"
        refine ⟨(show 2 ≤ sizeLine by decide), fun tn htn => ?_⟩
        have ntb : tn ≠ bp := fun z => by rw [z, hbp4] at htn; cases htn
        have nts : tn ≠ sa := fun z => by rw [z, hsa4] at htn; cases htn
        refine ⟨_, Sum.inr (S t), rfl, by rw [upd_ne ntb.symm]; exact hbp4, by rw [stKV_len (by rw [hal, List.length_take]; omega), List.length_take]; exact Nat.lt_of_le_of_lt (by omega : _ ≤ 1000) (by decide), as ++ [tn], fun b o nb e => ?_, ?_, by rw [List.length_append, hal]; rfl, ?_, fun a ha => ?_⟩
        · rw [upd_ne (ne_of_none e nbp3), upd_ne (ne_of_none (kp4 b o nb e) htn)]
          exact kp4 b o nb e
        · rw [upd_ne nbs.symm, upd_ne nts.symm]
          exact hsa4
        · rw [upd_same, putK_new _ (stKV_out (take_notin hKI.nodup ht)), stKV_take ht hal]
        · rcases List.mem_append.mp ha with z | z
          · have := hit4 a z
            refine ⟨?_, this.2⟩
            rw [upd_ne (ne_of this.1 hbp4 (fun z => nomatch z)), upd_ne (ne_of_none this.1 htn)]
            exact this.1
          · rw [List.mem_singleton.mp z]
            refine ⟨?_, by decide⟩
            rw [upd_ne ntb, upd_same]
            rfl
      · rintro H4 ⟨as, kp4, hsa4, hal, hbp4, hit4⟩
        rw [stKV_len hSt3.len] at hal hbp4
        rw [List.take_length] at hbp4
        walk_at "vc"
        refine ⟨hsa4, ?_⟩
        have sm5 : Same H3 (upd H4 sa (.dK (stKV ks ds))) := fun b o e => by
          by_cases hb : b = sa
          · rw [hb, hsa3] at e
            rw [hb, upd_same]
            exact e
          · rw [upd_ne hb]
            exact kp4 b o hb e
        have hBs5 : BsAt (upd H4 sa (.dK (stKV ks ds))) bp ks (optS sds (kM sds) g l 0) as := ⟨hal, by rw [upd_ne nbs]; exact hbp4, fun i t a _ ha => by
          have := hit4 a (List.mem_of_getElem? ha)
          refine ⟨?_, this.2⟩
          rw [upd_ne (ne_of this.1 hsa4 (fun z => nomatch z))]
          exact this.1⟩
        have hT5 := hT.ext (sm3'.trans sm5)
        have smT5 : SmT PT qL H (upd H4 sa (.dK (stKV ks ds))) := SmT.of (sm3'.trans sm5)
        have hwp5 := sm5 _ _ hwp3
        have hsa5 : upd H4 sa (.dK (stKV ks ds)) sa = some (.dK (stKV ks ds)) := upd_same
        have hSt5 := hSt3.same sm5
        generalize upd H4 sa (.dK (stKV ks ds)) = H5 at hBs5 hT5 smT5 hwp5 hsa5 hSt5
        clear kp4 hsa4 hal hbp4 hit4 sm5 hSt3 hsa3 hwp3 sm3'
        walk_at "vc"
        refine ⟨fun m σ H' => ∃ (r : Nat) (bp : Addr) (as : List Addr) (y5 y6 y7 y8 y9 y10 y11 : Option V), σ = [some (.ref sp), some (.ref ps), some (.ref sa), some (.ref wp), some (.ref bp), y5, y6, y7, y8, y9, y10, y11] ∧ SmT PT qL H H' ∧ H' sa = some (.dK (stKV ks ds)) ∧ StAt H' sa sds (kM sds) ks ds ∧ H' wp = some (.dK (wKV g l)) ∧ BsAt H' bp ks (optS sds (kM sds) g l r) as ∧ barGo sds (kM sds) g l ks m r = barM sds g l ∧ m + r = 300 ∧ r ≤ 256,
          ⟨300, 0, bp, as, _, _, _, _, _, _, _, rfl, smT5, hsa5, hSt5, hwp5, hBs5, hbar, rfl, by decide⟩, ?_⟩
        clear hBs5 hT5 smT5 hwp5 hsa5 hSt5 hbar nbp nbp3 hbp nbs
        rintro m σ H6 ⟨r, bp, as, y5, y6, y7, y8, y9, y10, y11, rfl, sm6, hsa6, hSt6, hwp6, hB6, hgo, hmr, hr256⟩
        obtain ⟨m, rfl⟩ : ∃ m', m = m' + 1 := ⟨m - 1, by omega⟩
        have lkO : ∀ n t, Lk (optS sds (kM sds) g l n t).2 := fun n t => (optS_is n t).lk
        have nbs : bp ≠ sa := bs_ne_st hB6 hSt6 hsa6 hKI.root
        obtain ⟨i0, d0, hi0, hd0, _⟩ := stKV_in hSt6.len hKI.root
        have nws : wp ≠ sa := fun e => by
          rw [e, hsa6] at hwp6
          exact st_ne_w hi0 hd0 (HO.dK.inj (Option.some.inj hwp6))
        have hT6 := sm6.t hT
        walk_at "vc"
        refine ⟨fun σ' H' => ∃ (bp : Addr) (as : List Addr) (y5 y6 y7 y8 y9 y10 y11 : Option V), σ' = [some (.ref sp), some (.ref ps), some (.ref sa), some (.ref wp), some (.ref bp), y5, y6, y7, y8, y9, y10, y11] ∧ SmT PT qL H H' ∧ H' sa = some (.dK (stKV ks ds)) ∧ StAt H' sa sds (kM sds) ks ds ∧ H' wp = some (.dK (wKV g l)) ∧ BsAt H' bp ks (optS sds (kM sds) g l (r + 1)) as ∧ barGo sds (kM sds) g l ks m (r + 1) = barM sds g l ∧ r + 1 ≤ 256, fun σ' H' h => ?_, ?_⟩
        · obtain ⟨bp, as, z5, z6, z7, z8, z9, z10, z11, e, h1, h2, h3, h4, h5, h6, h7⟩ := h
          exact ⟨m, Nat.lt_succ_self m, r + 1, bp, as, z5, z6, z7, z8, z9, z10, z11, e, h1, h2, h3, h4, h5, h6, by omega, h7⟩
        walk_at "vc"
        refine x_lock hsa6 trivial fun od2 => ?_
        walk_at "vc"
        refine ⟨sa, od2, rfl, .inl ⟨stKV ks ds, upd_same, ?_⟩⟩
        intro lp hlp
        have nls : lp ≠ sa := fun z => by rw [z, upd_same] at hlp; cases hlp
        have nlp6 : H6 lp = none := by rw [upd_ne nls] at hlp; exact hlp
        refine dc_it (walk_keys (d := sa) (o := od2) (kvs := stKV ks ds)) (fun i H' => ∃ as' : List Addr, SmT PT qL (upd H6 sa (.frz od2 (.dK (stKV ks ds)))) H' ∧ as'.length = i ∧ H' lp = some (.dK (stKV (ks.take i) as')) ∧ ∀ (j : Nat) t a, ks[j]? = some t → as'[j]? = some a → MxIt H' a (optS sds (kM sds) g l (r + 1) t))
          ⟨[], SmT.new hlp, rfl, upd_same, fun j t a _ h => by simp at h⟩ (fun i H' _ h => by obtain ⟨_, h, _⟩ := h; exact h.frz upd_same) ?_ ?_
        · rintro i x H7 H7' hi ⟨as', sm7, hal, hlp7, hit7⟩ ⟨rfl, k, v, hkv, rfl⟩
          obtain ⟨t, d, ht, hd, rfl⟩ := key_at hSt6.len hkv
          have hil := (List.getElem?_eq_some_iff.mp ht).1
          have htk : t ∈ ks := List.mem_of_getElem? ht
          obtain ⟨d, hdv, hd6⟩ := hSt6.get htk
          have nds : d ≠ sa := fun e => by
            rw [e, hsa6] at hd6
            exact step_ne hi0 hd0 (HO.dK.inj (Option.some.inj hd6)).symm
          have nbd : bp ≠ d := fun e => by
            have h := hB6.at_
            rw [e, hd6] at h
            have hb0 : as[i0]? = some (as[i0]'(by rw [hB6.len]; exact (List.getElem?_eq_some_iff.mp hi0).1)) := List.getElem?_eq_getElem _
            exact step_ne hi0 hb0 (HO.dK.inj (Option.some.inj h))
          have nwd : wp ≠ d := fun e => by
            rw [e, hd6] at hwp6
            exact w_ne (HO.dK.inj (Option.some.inj hwp6))
          have hB7 : BsAt H7' bp ks (optS sds (kM sds) g l r) as := ⟨hB6.len, sm7.dK (by rw [upd_ne nbs]; exact hB6.at_), fun j u a h1 h2 => by
            have := hB6.each j u a h1 h2
            exact ⟨sm7.tup (by rw [upd_ne (ne_of this.1 hsa6 (fun z => nomatch z))]; exact this.1), this.2⟩⟩
          have hsa7 : H7' sa = some (.frz od2 (.dK (stKV ks ds))) := sm7.frz upd_same
          rw [show L2.kV (Sum.inr (S t)) = V.str (S t) from rfl]
          walk_at "vc"
          refine ⟨rfl, ?_⟩
          walk_at "vc"
          refine x_getS (.inr ⟨od2, hsa7⟩) hdv ?_
          walk_at "vc"
          refine ⟨d, bp, wp, stps sds (kM sds) t, ks, as, optS sds (kM sds) g l r, g, l, rfl, sm7.dK (by rw [upd_ne nds]; exact hd6), ?_, fun p hp => ?_, fun p hp p' hp' e => ?_, hB7, fun u _ => Nat.le_trans (optS_bound r u) (by omega), sm7.dK (by rw [upd_ne nws]; exact hwp6), nbd, nwd, sm7.t (tabS_upd hT6 (fun _ z => by rw [hsa6] at z; cases z) fun _ z => by rw [hsa6] at z; cases z), fun p H8 sm8 hm8 => ?_⟩
          · have := goals_len sds (kM sds) t
            unfold goals at this
            rw [List.length_map] at this
            exact this
          · obtain ⟨h1, h2, h3⟩ := mem_stps.mp hp
            exact ⟨h1, hKI.closed t htk _ (by unfold goals; exact List.mem_map.mpr ⟨p, hp, rfl⟩)⟩
          · rw [(mem_stps.mp hp).2.2, (mem_stps.mp hp').2.2, e]
          · have hlp8 := sm8.dK hlp7
            have nas : ∀ a ∈ as' ++ [p], a ≠ lp := fun a ha z => by
              rcases List.mem_append.mp ha with y | y
              · obtain ⟨j, hj⟩ := List.getElem?_of_mem y
                have hjl := (List.getElem?_eq_some_iff.mp hj).1
                have := sm8.tup (hit7 j _ a (List.getElem?_eq_getElem (by omega)) hj).1
                rw [z, hlp8] at this
                cases this
              · rw [List.mem_singleton.mp y] at z
                have := hm8.1
                rw [z, hlp8] at this
                cases this
            refine ⟨_, Sum.inr (S t), rfl, hlp8, by rw [stKV_len (by rw [hal, List.length_take]; omega), List.length_take]; exact Nat.lt_of_le_of_lt (by omega : _ ≤ 1000) (by decide), as' ++ [p], (sm7.trans sm8).putD hlp hlp8, by rw [List.length_append, hal]; rfl, ?_, fun j u a hj ha => ?_⟩
            · rw [upd_same, putK_new _ (stKV_out (take_notin hKI.nodup ht)), stKV_take ht hal]
            · have na := nas a (List.mem_of_getElem? ha)
              by_cases hji : j < as'.length
              · rw [List.getElem?_append_left hji] at ha
                have := hit7 j u a hj ha
                exact ⟨by rw [upd_ne na]; exact sm8.tup this.1, this.2⟩
              · have hjl := (List.getElem?_eq_some_iff.mp ha).1
                rw [List.length_append] at hjl
                have e : j = as'.length := by simp only [List.length_cons, List.length_nil] at hjl; omega
                subst e
                rw [List.getElem?_append_right (Nat.le_refl _), Nat.sub_self] at ha
                cases ha
                rw [hal, ht] at hj
                cases hj
                exact ⟨by rw [upd_ne na]; exact hm8.1, hm8.2⟩
        · rintro H7 ⟨as', sm7, hal, hlp7, hit7⟩
          rw [stKV_len hSt6.len] at hal hlp7
          rw [List.take_length] at hlp7
          walk_at "vc"
          have hsa7 : H7 sa = some (.frz od2 (.dK (stKV ks ds))) := sm7.frz upd_same
          refine ⟨hsa7, ?_⟩
          have sm8 := SmT.lock hsa6 sm7
          have hsa8 : upd H7 sa (.dK (stKV ks ds)) sa = some (.dK (stKV ks ds)) := upd_same
          have hL8 : BsAt (upd H7 sa (.dK (stKV ks ds))) lp ks (optS sds (kM sds) g l (r + 1)) as' := ⟨hal, by rw [upd_ne nls]; exact hlp7, fun j u a h1 h2 => by
            have := hit7 j u a h1 h2
            exact ⟨by rw [upd_ne (ne_of this.1 hsa7 (fun z => nomatch z))]; exact this.1, this.2⟩⟩
          have hB8 := hB6.smT sm8
          have hSt8 := hSt6.smT sm8
          have hwp8 := sm8.dK hwp6
          have smA := sm6.trans sm8
          generalize upd H7 sa (.dK (stKV ks ds)) = H8 at sm8 hsa8 hL8 hB8 hSt8 hwp8 smA
          clear hlp hlp7 hit7 hsa7 sm7 hal nlp6 sm6 hT6 hsa6 hSt6 hwp6 hB6
          walk_at "vc"
          -- bettered
          refine x_lock hsa8 trivial fun od3 => ?_
          have nbs8 : bp ≠ sa := nbs
          walk_at "vc"
          refine ⟨sa, od3, rfl, .inl ⟨stKV ks ds, upd_same, ?_⟩⟩
          intro ep hep
          have nes : ep ≠ sa := fun z => by rw [z, upd_same] at hep; cases hep
          have nep8 : H8 ep = none := by rw [upd_ne nes] at hep; exact hep
          refine lc_it (walk_keys (d := sa) (o := od3) (kvs := stKV ks ds)) (fun i H' => Same (upd H8 sa (.frz od3 (.dK (stKV ks ds)))) H' ∧ H' ep = some (.lst (((ks.take i).filter fun t => decide (optS sds (kM sds) g l (r + 1) t ≠ optS sds (kM sds) g l r t)).map strV))) ⟨same_upd hep, upd_same⟩ (fun i H' _ h => h.1 _ _ upd_same) ?_ ?_
          · rintro i x H9 H9' hi ⟨sm9, hep9⟩ ⟨rfl, k, v, hkv, rfl⟩
            obtain ⟨t, d, ht, hd, rfl⟩ := key_at hSt8.len hkv
            obtain ⟨hil, hiT⟩ := List.getElem?_eq_some_iff.mp ht
            have htk : t ∈ ks := List.mem_of_getElem? ht
            obtain ⟨a', hav', ha'⟩ := hL8.get htk
            obtain ⟨a, hav, ha⟩ := hB8.get htk
            have hlp9 : H9' lp = some (.dK (stKV ks as')) := sm9 _ _ (by rw [upd_ne nls]; exact hL8.at_)
            have hbp9 : H9' bp = some (.dK (stKV ks as)) := sm9 _ _ (by rw [upd_ne nbs]; exact hB8.at_)
            have ha9' : MxIt H9' a' (optS sds (kM sds) g l (r + 1) t) := ⟨sm9 _ _ (by rw [upd_ne (ne_of ha'.1 hsa8 (fun z => nomatch z))]; exact ha'.1), ha'.2⟩
            have ha9 : MxIt H9' a (optS sds (kM sds) g l r t) := ⟨sm9 _ _ (by rw [upd_ne (ne_of ha.1 hsa8 (fun z => nomatch z))]; exact ha.1), ha.2⟩
            rw [show L2.kV (Sum.inr (S t)) = V.str (S t) from rfl]
            walk_at "vc"
            refine ⟨rfl, ?_⟩
            walk_at "vc"
            refine x_getS (.inl hlp9) hav' ?_
            walk_at "vc"
            refine x_getS (.inl hbp9) hav ?_
            refine isD_ne (lkO _ _) (lkO _ _) ha9' ha9 ?_
            walk_at "vc"
            refine ite2 (fun e => ?_) (fun e => ?_)
            · walk_at "vc"
              refine ⟨_, hep9, ?_, sm9.putN hep, ?_⟩
              · rw [List.length_map]
                exact Nat.lt_of_le_of_lt (Nat.le_trans (List.length_filter_le _ _) (by rw [List.length_take]; omega : _ ≤ 1000)) (by decide)
              · rw [upd_same, List.take_succ_eq_append_getElem hil, hiT, List.filter_append, List.map_append, List.filter_cons, if_pos e]
                rfl
            · refine ⟨sm9, ?_⟩
              rw [List.take_succ_eq_append_getElem hil, hiT, List.filter_append, List.filter_cons, if_neg e, List.filter_nil, List.append_nil]
              exact hep9
          · rintro H9 ⟨sm9, hep9⟩
            rw [stKV_len hSt8.len, List.take_length] at hep9
            have hep9 : H9 ep = some (.lst ((betd sds (kM sds) g l ks r).map strV)) := hep9
            walk_at "vc"
            have hsa9 : H9 sa = some (.frz od3 (.dK (stKV ks ds))) := sm9 _ _ upd_same
            refine ⟨hsa9, ?_⟩
            have sm10 : Same H8 (upd H9 sa (.dK (stKV ks ds))) := Same.lockD hsa8 sm9
            have hsa10 : upd H9 sa (.dK (stKV ks ds)) sa = some (.dK (stKV ks ds)) := upd_same
            have hep10 : upd H9 sa (.dK (stKV ks ds)) ep = some (.lst ((betd sds (kM sds) g l ks r).map strV)) := by rw [upd_ne nes]; exact hep9
            generalize upd H9 sa (.dK (stKV ks ds)) = H10 at sm10 hsa10 hep10
            have hL10 := hL8.same sm10
            have hB10 := hB8.same sm10
            have hSt10 := hSt8.same sm10
            have hwp10 := sm10 _ _ hwp8
            have smB := smA.trans (SmT.of sm10)
            clear hep9 sm9 hsa9 nep8 hep hL8 hB8 hSt8 hwp8 smA sm8 hsa8 sm10
            walk_at "vc"
            refine ⟨!((betd sds (kM sds) g l ks r).map strV).isEmpty, .inl ⟨_, SqL.of hep10, rfl⟩, ?_⟩
            unfold barGo at hgo
            cases hbt : betd sds (kM sds) g l ks r with
            | nil =>
              rw [hbt] at hgo
              have hgo : BarR.bar (optS sds (kM sds) g l r []).1 (optS sds (kM sds) g l r []).2 = barM sds g l := hgo
              show if true = true then _ else _
              walk_at "vc"
              obtain ⟨a, hav, ha⟩ := hB10.get hKI.root
              refine x_getS (z := S []) (.inl hB10.at_) hav ?_
              refine x_gTup (SqT.of ha.1) rfl ?_
              walk_at "vc"
              refine ⟨(show 3 ≤ sizeLine by decide), fun p hp => ?_⟩
              rw [← hgo] at q hok
              exact q p _ (smB.trans (SmT.new hp)) (smB.free hT hp) upd_same hok
            | cons t rest =>
              rw [hbt] at hgo hep10
              have hgo : (if rgo (kM sds) [t] t [] (optS sds (kM sds) g l (r + 1) t).2 = [] then barGo sds (kM sds) g l ks m (r + 1) else BarR.ring [] (rgo (kM sds) [t] t [] (optS sds (kM sds) g l (r + 1) t).2)) = barM sds g l := hgo
              show if false = true then _ else _
              have hm : t ∈ betd sds (kM sds) g l ks r := by rw [hbt]; exact List.mem_cons_self
              obtain ⟨htk, hne⟩ := List.mem_filter.mp hm
              have hne := of_decide_eq_true hne
              have hlen := optS_len hne
              have ho := optS_is (sds := sds) (k := kM sds) (g := g) (l := l) (r + 1) t
              have hrg := rgo_is hKI (optS sds (kM sds) g l (r + 1) t).2 [t] t [] (RgI.start htk) ho.lk ho.ok
              obtain ⟨a', hav', ha'⟩ := hL10.get htk
              walk_at "vc"
              refine x_ixL (v := V.str (S t)) (SqL.of hep10) (atI_nat (j := 0) rfl) ?_
              walk_at "vc"
              refine x_ixL (v := V.str (S t)) (SqL.of hep10) (atI_nat (j := 0) rfl) ?_
              refine x_getS (.inl hL10.at_) hav' ?_
              walk_at "vc"
              refine x_ixT (SqT.of ha'.1) (atI_nat (j := 1) rfl) ?_
              walk_at "vc"
              refine ⟨sa, sds, kM sds, ks, ds, t, (optS sds (kM sds) g l (r + 1) t).2, rfl, hSt10, hKI, htk, ho.lk, ho.ok, by omega, fun H11 sm11 => ?_⟩
              have hrl : (rgo (kM sds) [t] t [] (optS sds (kM sds) g l (r + 1) t).2).length ≤ 1000 := by
                rcases hrg with ⟨a, q', b, u, e1, e2, _⟩ | ⟨e1, _⟩
                · rw [e2]
                  have := congrArg List.length e1
                  simp only [List.length_append, List.length_nil] at this
                  omega
                · rw [e1]
                  exact Nat.zero_le _
              walk_at "vc"
              refine ⟨_, ⟨hp_sz (by rw [len_S]; omega), rfl⟩, ?_⟩
              by_cases hrn : rgo (kM sds) [t] t [] (optS sds (kM sds) g l (r + 1) t).2 = []
              · rw [if_pos hrn] at hgo
                rw [hrn]
                show if false = true then _ else _
                walk_at "vc"
                have hr2 : r + 1 ≤ 256 := by
                  rcases hrg with ⟨a, q', b, u, e1, e2, e3, _⟩ | ⟨_, e2⟩
                  · exact absurd (e2.symm.trans hrn) e3
                  · rw [hlen, List.length_nil] at e2
                    omega
                exact ⟨lp, as', _, _, _, _, _, _, _, rfl, smB.trans (SmT.of sm11), sm11 _ _ hsa10, hSt10.same sm11, sm11 _ _ hwp10, hL10.same sm11, hgo, hr2⟩
              · rw [if_neg hrn] at hgo
                have hb : (((S (rgo (kM sds) [t] t [] (optS sds (kM sds) g l (r + 1) t).2)).length : Int) != 0) = true := by
                  rw [len_S, bne_iff_ne]
                  intro e
                  exact hrn (List.length_eq_zero_iff.mp (by omega))
                rw [hb]
                walk_at "vc"
                refine ⟨(show 3 ≤ sizeLine by decide), fun p hp => ?_⟩
                have smC := smB.trans (SmT.of sm11)
                rw [← hgo] at q hok
                exact q p _ (smC.trans (SmT.new hp)) (smC.free hT hp) upd_same hok


theorem okneed_above {f : Addr} {fd : FuncData} {aTooLow : Addr} {fTooLow : Addr} {fdTooLow : FuncData} {uFEWEST_LETTERS uMOST_LETTERS uALPHABET uLONGEST_ROW uLEAST_WEIGHT uMOST_WEIGHT uLIKE uUNLIKE uSHORTEST_SEED uLONGEST_SEED uPICK uGAP uFEWEST_SEEDS uMOST_SEEDS uBAR uENDLESS : Value} (F : Fun K "need_above" "need_above" sneed_above f fd) (B : Bl mg) (XTooLow : XoF P w K mg base "TooLow" aTooLow fTooLow fdTooLow) (C : Cs mg uFEWEST_LETTERS uMOST_LETTERS uALPHABET uLONGEST_ROW uLEAST_WEIGHT uMOST_WEIGHT uLIKE uUNLIKE uSHORTEST_SEED uLONGEST_SEED uPICK uGAP uFEWEST_SEEDS uMOST_SEEDS uBAR uENDLESS) : FnOk P w K mg base (L2.CX P w) 3 f fd ["told", "limit"] (spneed_above K aTooLow) := by
  refine F.okX scneed_above (fun vs H Q E h => ?_) (fun cdv A outer s H vs Q E hr h => ?_)
  · first
      | (obtain ⟨_, rfl, _⟩ := h; rfl)
      | (obtain ⟨_, _, rfl, _⟩ := h; rfl)
      | (obtain ⟨_, _, _, rfl, _⟩ := h; rfl)
      | (obtain ⟨_, _, _, _, rfl, _⟩ := h; rfl)
      | (obtain ⟨_, _, _, _, _, rfl, _⟩ := h; rfl)
      | (obtain ⟨_, _, _, _, _, _, rfl, _⟩ := h; rfl)
      | (obtain ⟨_, _, _, _, _, _, _, rfl, _⟩ := h; rfl)
      | (obtain ⟨_, _, _, _, _, _, _, _, rfl, _⟩ := h; rfl)
      | (obtain ⟨_, _, _, _, _, _, _, _, _, rfl, _⟩ := h; rfl)
      | (obtain ⟨_, _, _, _, _, _, _, _, _, _, rfl, _⟩ := h; rfl)
      | (obtain ⟨_, _, _, _, _, _, _, _, _, _, _, rfl, _⟩ := h; rfl)
      | (obtain ⟨_, _, _, _, _, _, _, _, _, _, _, _, rfl, _⟩ := h; rfl)
      | (obtain ⟨_, _, _, _, _, _, _, _, _, _, _, _, _, rfl, _⟩ := h; rfl)
      | (obtain ⟨_, _, _, _, _, _, _, _, _, _, _, _, _, _, rfl, _⟩ := h; rfl)
      | (obtain ⟨_, _, _, _, _, _, _, _, _, _, _, _, _, _, _, rfl, _⟩ := h; rfl)
      | (obtain ⟨_, _, _, _, _, _, _, _, _, _, _, _, _, _, _, _, rfl, _⟩ := h; rfl)
      | (obtain ⟨_, _, _, _, _, _, _, _, _, _, _, _, _, _, _, _, _, rfl, _⟩ := h; rfl)
  · obtain ⟨told, lp, r, rfl, hlp, q, qe⟩ := h
    refine ⟨_, 
  (pss_one (ps_if (PW.pt (pw_or (pt_cmpR op_eq (pe_ix ix_tup (pv 1) pe_int (fun _ _ => rfl)) (pe_glob rfl C.c_ENDLESS.2 C.c_ENDLESS.1) (nomark _)) (pw_or1 (pt_cmpR op_le (pv 0) (pe_ix ix_tup (pv 1) pe_int (fun _ _ => rfl)) (nomark _))))) 
    (pss_one (ps_raise rfl (takes_of rfl rfl rfl rfl) (pmk_oex XTooLow.oex XTooLow.iC XTooLow.tI XTooLow.ok hr XTooLow.b .nil pass0 rfl XTooLow.gP (pa_cons (pv 1) pa_nil)))) pss_nil)), ?_⟩
    cases r with
    | bar m z =>
      have hlp' : SqT K H lp [.str "bar", .int m, .str (S z)] := hlp
      walk_at "vc"
      rw [decide_eq_false (show ¬ V.str (Str.ofString "bar") = V.str (Str.ofString "endless") by intro h; exact absurd (V.str.inj h) (by decide +kernel))]
      walk_at "vc"
      refine ite2 (fun e => ?_) (fun e => ?_)
      · have e1 : told ≤ m := of_decide_eq_true e
        walk_at "vc"
        refine x_mkO ?_
        walk_at "vc"
        exact tl_made (σ := []) (Q := E) fun d H' k hd => qe (fun ⟨m', z', h1, h2⟩ => by cases h1; omega) d H' k hd
      · have e1 : ¬ told ≤ m := fun h => e (decide_eq_true h)
        walk_at "vc"
        exact q ⟨m, z, rfl, by omega⟩
    | ring za zr =>
      have hlp' : SqT K H lp [.str "endless", .str (S za), .str (S zr)] := hlp
      walk_at "vc"
      rw [decide_eq_true rfl]
      walk_at "vc"
      refine x_mkO ?_
      walk_at "vc"
      exact tl_made (σ := []) (Q := E) fun d H' k hd => qe (fun ⟨m', z', h1, h2⟩ => by cases h1) d H' k hd


theorem okShelf___init__ {f : Addr} {fd : FuncData} {PT : Addr} {cShelf fiShelf : Addr} {fneed_letters : Addr} {fdneed_letters : FuncData} {fneed_scale : Addr} {fdneed_scale : FuncData} {fneed_seeds : Addr} {fdneed_seeds : FuncData} {fbar : Addr} {fdbar : FuncData} (F : Fun K "__init__" "Shelf.__init__" sShelf___init__ f fd) (B : Bl mg) (TShelf : KlShelf K mg cShelf fiShelf) (Dneed_letters : Dn P w K mg base "need_letters" 1 ["letters"] (spneed_letters K) fneed_letters fdneed_letters) (Dneed_scale : Dn P w K mg base "need_scale" 1 ["scale"] (spneed_scale K) fneed_scale fdneed_scale) (Dneed_seeds : Dn P w K mg base "need_seeds" 2 ["seeds"] (spneed_seeds K) fneed_seeds fdneed_seeds) (Dbar : Dn P w K mg base "bar" 5 ["seeds", "scale"] (spbar K PT) fbar fdbar) : FnOk P w K mg base CX0 6 f fd ["self", "letters", "scale", "seeds"] (spShelf___init__ K PT cShelf) := by
  refine F.ok scShelf___init__ (fun vs H Q E h => ?_) (fun cdv A outer s H vs Q E hr h => ?_)
  · first
      | (obtain ⟨_, rfl, _⟩ := h; rfl)
      | (obtain ⟨_, _, rfl, _⟩ := h; rfl)
      | (obtain ⟨_, _, _, rfl, _⟩ := h; rfl)
      | (obtain ⟨_, _, _, _, rfl, _⟩ := h; rfl)
      | (obtain ⟨_, _, _, _, _, rfl, _⟩ := h; rfl)
      | (obtain ⟨_, _, _, _, _, _, rfl, _⟩ := h; rfl)
      | (obtain ⟨_, _, _, _, _, _, _, rfl, _⟩ := h; rfl)
      | (obtain ⟨_, _, _, _, _, _, _, _, rfl, _⟩ := h; rfl)
      | (obtain ⟨_, _, _, _, _, _, _, _, _, rfl, _⟩ := h; rfl)
      | (obtain ⟨_, _, _, _, _, _, _, _, _, _, rfl, _⟩ := h; rfl)
      | (obtain ⟨_, _, _, _, _, _, _, _, _, _, _, rfl, _⟩ := h; rfl)
      | (obtain ⟨_, _, _, _, _, _, _, _, _, _, _, _, rfl, _⟩ := h; rfl)
      | (obtain ⟨_, _, _, _, _, _, _, _, _, _, _, _, _, rfl, _⟩ := h; rfl)
      | (obtain ⟨_, _, _, _, _, _, _, _, _, _, _, _, _, _, rfl, _⟩ := h; rfl)
      | (obtain ⟨_, _, _, _, _, _, _, _, _, _, _, _, _, _, _, rfl, _⟩ := h; rfl)
      | (obtain ⟨_, _, _, _, _, _, _, _, _, _, _, _, _, _, _, _, rfl, _⟩ := h; rfl)
      | (obtain ⟨_, _, _, _, _, _, _, _, _, _, _, _, _, _, _, _, _, rfl, _⟩ := h; rfl)
  · obtain ⟨p, dx, sc, sp, lets, g, l, sds, rfl, hp, hlets, hsc, g1, g2, l1, l2, hsp, hsd, h1, h3, hT, q⟩ := h
    obtain ⟨z1, z2, z3, z4⟩ := letL_ok hlets
    refine ⟨_, 
  (pss_cons (ps_expr (pe_call Dneed_letters.ok (hr.mono (by decide)) (by rfl) Dneed_letters.g Dneed_letters.kp Dneed_letters.b .nil pass0 (pa_cons (pv 1) pa_nil))) 
  (pss_cons (ps_expr (pe_call Dneed_scale.ok (hr.mono (by decide)) (by rfl) Dneed_scale.g Dneed_scale.kp Dneed_scale.b .nil pass0 (pa_cons (pv 2) pa_nil))) 
  (pss_cons (ps_expr (pe_call Dneed_seeds.ok (hr.mono (by decide)) (by rfl) Dneed_seeds.g Dneed_seeds.kp Dneed_seeds.b .nil pass0 (pa_cons (pv 3) pa_nil))) 
  (pss_cons (ps_fld (pv 0) (pv 1) rfl) 
  (pss_cons (ps_fld (pv 0) (pv 2) rfl) 
  (pss_cons (ps_fld (pv 0) (pe_callTy call_list_of (by rfl) B.m_list (by decide +kernel) (pa_cons (pv 3) pa_nil)) rfl) 
  (pss_cons (ps_fld (pv 0) (pe_call Dbar.ok hr (by rfl) Dbar.g Dbar.kp Dbar.b .nil pass0 (pa_cons (pe_fld (pv 0) rfl) (pa_cons (pv 2) pa_nil))) rfl) 
  (pss_one (ps_fld (pv 0) (pe_lst pa_nil) rfl))))))))), ?_⟩
    walk_at "vc"
    refine ⟨lets, rfl, z1, z2, z3, z4, ?_⟩
    walk_at "vc"
    refine ⟨sc, g, l, rfl, SqT.of hsc, g1, g2, l1, l2, fun H1 sm1 => ?_⟩
    have hp1 := sm1 _ _ hp
    have hsc1 := sm1 _ _ hsc
    have hsp1 := sm1 _ _ hsp
    have hT1 := hT.ext sm1
    walk_at "vc"
    refine ⟨sp, sds, rfl, SqL.of hsp1, hsd, h1, h3, ?_⟩
    walk_at "vc"
    refine ⟨p, cShelf, dx, [], rfl, hp1, TShelf.cl, TShelf.n_letters, by simp, ?_⟩
    rw [fl5_put1]
    have X2 : SmX p PT qL H (upd H1 p (.ins cShelf dx [("letters", .str (S lets))])) := (SmX.of sm1).put hp1
    have hp2 : upd H1 p (.ins cShelf dx [("letters", .str (S lets))]) p = some (.ins cShelf dx [("letters", .str (S lets))]) := upd_same
    have back2 : ∀ b, upd H1 p (.ins cShelf dx [("letters", .str (S lets))]) b = none → H b = none := fun b e => by
      have nb : b ≠ p := fun z => by rw [z, upd_same] at e; cases e
      rw [upd_ne nb] at e
      cases h : H b with
      | none => rfl
      | some o => rw [sm1 b o h] at e; cases e
    generalize upd H1 p (.ins cShelf dx [("letters", .str (S lets))]) = H2 at X2 hp2 back2
    walk_at "vc"
    refine ⟨p, cShelf, dx, _, rfl, hp2, TShelf.cl, TShelf.n_scale, by simp, ?_⟩
    rw [fl5_put2]
    have X3 : SmX p PT qL H (upd H2 p (.ins cShelf dx [("letters", .str (S lets)), ("scale", .ref sc)])) := X2.put hp2
    have hp3 : upd H2 p (.ins cShelf dx [("letters", .str (S lets)), ("scale", .ref sc)]) p = some (.ins cShelf dx [("letters", .str (S lets)), ("scale", .ref sc)]) := upd_same
    have back3 : ∀ b, upd H2 p (.ins cShelf dx [("letters", .str (S lets)), ("scale", .ref sc)]) b = none → H b = none := fun b e => by
      have nb : b ≠ p := fun z => by rw [z, upd_same] at e; cases e
      rw [upd_ne nb] at e
      exact back2 b e
    generalize upd H2 p (.ins cShelf dx [("letters", .str (S lets)), ("scale", .ref sc)]) = H3 at X3 hp3 back3
    have hsp3 : H3 sp = some (.lst (sds.map strV)) := X3.k _ _ (fun z => by rw [z, hp] at hsp; cases hsp) hsp (fun _ z => nomatch z)
    have hsc3 : H3 sc = some (.tup [.int g, .int l]) := X3.k _ _ (fun z => by rw [z, hp] at hsc; cases hsc) hsc (fun _ z => nomatch z)
    walk_at "vc"
    intro sq hsq
    have nq : sq ≠ p := fun z => by rw [z, hp3] at hsq; cases hsq
    have hq4 : upd H3 sq (.lst (sds.map strV)) sq = some (.lst (sds.map strV)) := upd_same
    have sm4 : Same H3 (upd H3 sq (.lst (sds.map strV))) := same_upd hsq
    have X4 := X3.smT (SmT.of sm4)
    have hp4 := sm4 _ _ hp3
    have hsc4 := sm4 _ _ hsc3
    have back4 : ∀ b, upd H3 sq (.lst (sds.map strV)) b = none → H b = none := fun b e => by
      have nb : b ≠ sq := fun z => by rw [z, upd_same] at e; cases e
      rw [upd_ne nb] at e
      exact back3 b e
    have hq0 := back3 _ hsq
    generalize upd H3 sq (.lst (sds.map strV)) = H4 at hq4 X4 hp4 hsc4 back4
    walk_at "vc"
    refine ⟨p, cShelf, dx, _, rfl, hp4, TShelf.cl, TShelf.n_seeds, by simp, ?_⟩
    rw [fl5_put3]
    have X5 : SmX p PT qL H (upd H4 p (.ins cShelf dx [("letters", .str (S lets)), ("scale", .ref sc), ("seeds", .ref sq)])) := X4.put hp4
    have hp5 : upd H4 p (.ins cShelf dx [("letters", .str (S lets)), ("scale", .ref sc), ("seeds", .ref sq)]) p = some (.ins cShelf dx [("letters", .str (S lets)), ("scale", .ref sc), ("seeds", .ref sq)]) := upd_same
    have back5 : ∀ b, upd H4 p (.ins cShelf dx [("letters", .str (S lets)), ("scale", .ref sc), ("seeds", .ref sq)]) b = none → H b = none := fun b e => by
      have nb : b ≠ p := fun z => by rw [z, upd_same] at e; cases e
      rw [upd_ne nb] at e
      exact back4 b e
    have hq5 : upd H4 p (.ins cShelf dx [("letters", .str (S lets)), ("scale", .ref sc), ("seeds", .ref sq)]) sq = _ := (upd_ne nq).trans hq4
    have hsc5 : upd H4 p (.ins cShelf dx [("letters", .str (S lets)), ("scale", .ref sc), ("seeds", .ref sq)]) sc = _ := (upd_ne (fun z => by rw [z, hp] at hsc; cases hsc)).trans hsc4
    generalize upd H4 p (.ins cShelf dx [("letters", .str (S lets)), ("scale", .ref sc), ("seeds", .ref sq)]) = H5 at X5 hp5 back5 hq5 hsc5
    have hT5 := X5.t hT
    walk_at "vc"
    refine ⟨p, _, dx, _, _, rfl, hp5, TShelf.cl, TShelf.n_seeds, fl5_get3 _ _ _, ?_⟩
    walk_at "vc"
    refine ⟨sq, sc, sds, g, l, rfl, SqL.of hq5, SqT.of hsc5, hsd, h1, h3, g1, g2, l1, l2, hT5, fun lp H6 st lp0 hlp _ => ?_⟩
    have X6 := X5.smT st
    have hp6 := st.k _ _ hp5 (fun _ z => nomatch z)
    have hq6 := st.lst hq5
    have hsc6 := st.tup hsc5
    have nlp : lp ≠ p := fun z => by rw [z, hp5] at lp0; cases lp0
    have back6 : ∀ b, H6 b = none → H b = none := fun b e => back5 b (st.free hT5 e)
    walk_at "vc"
    refine ⟨p, cShelf, dx, _, rfl, hp6, TShelf.cl, TShelf.n_limit, by simp, ?_⟩
    rw [fl5_put4]
    have X7 : SmX p PT qL H (upd H6 p (.ins cShelf dx [("letters", .str (S lets)), ("scale", .ref sc), ("seeds", .ref sq), ("limit", .ref lp)])) := X6.put hp6
    have hp7 : upd H6 p (.ins cShelf dx [("letters", .str (S lets)), ("scale", .ref sc), ("seeds", .ref sq), ("limit", .ref lp)]) p = some (.ins cShelf dx [("letters", .str (S lets)), ("scale", .ref sc), ("seeds", .ref sq), ("limit", .ref lp)]) := upd_same
    have back7 : ∀ b, upd H6 p (.ins cShelf dx [("letters", .str (S lets)), ("scale", .ref sc), ("seeds", .ref sq), ("limit", .ref lp)]) b = none → H b = none := fun b e => by
      have nb : b ≠ p := fun z => by rw [z, upd_same] at e; cases e
      rw [upd_ne nb] at e
      exact back6 b e
    have hq7 : upd H6 p (.ins cShelf dx [("letters", .str (S lets)), ("scale", .ref sc), ("seeds", .ref sq), ("limit", .ref lp)]) sq = _ := (upd_ne nq).trans hq6
    have hsc7 : upd H6 p (.ins cShelf dx [("letters", .str (S lets)), ("scale", .ref sc), ("seeds", .ref sq), ("limit", .ref lp)]) sc = _ := (upd_ne (fun z => by rw [z, hp] at hsc; cases hsc)).trans hsc6
    have hlp7 : upd H6 p (.ins cShelf dx [("letters", .str (S lets)), ("scale", .ref sc), ("seeds", .ref sq), ("limit", .ref lp)]) lp = _ := (upd_ne nlp).trans hlp
    generalize upd H6 p (.ins cShelf dx [("letters", .str (S lets)), ("scale", .ref sc), ("seeds", .ref sq), ("limit", .ref lp)]) = H7 at X7 hp7 back7 hq7 hsc7 hlp7
    walk_at "vc"
    refine ⟨by decide, fun kp hkp => ?_⟩
    walk_at "vc"
    have sm8 : Same H7 (upd H7 kp (.lst [])) := same_upd hkp
    have hk8 : upd H7 kp (.lst []) kp = some (.lst []) := upd_same
    have hkp0 := back7 _ hkp
    have nkq : sq ≠ kp := fun z => by rw [← z, hq7] at hkp; cases hkp
    have nkp : kp ≠ p := fun z => by rw [z, hp7] at hkp; cases hkp
    have X8 := X7.smT (SmT.of sm8)
    generalize upd H7 kp (.lst []) = H8 at sm8 hk8 X8
    refine ⟨p, cShelf, dx, _, rfl, sm8 _ _ hp7, TShelf.cl, TShelf.n_laid, by simp, ?_⟩
    rw [fl5_put5]
    have ne : ∀ b o, H8 b = some o → b ≠ p → upd H8 p (.ins cShelf dx (fl5 (.str (S lets)) (.ref sc) (.ref sq) (.ref lp) (.ref kp))) b = some o := fun b o e n => (upd_ne n).trans e
    exact q [p, sq, kp] _ ⟨⟨g1, g2, l1, l2, hsd, h1, h3⟩, dx, sc, sq, lp, kp, upd_same, rfl, nkq, ne _ _ (sm8 _ _ hsc7) (fun z => by rw [z, hp] at hsc; cases hsc), ne _ _ (sm8 _ _ hq7) nq, ne _ _ (sm8 _ _ hlp7) nlp, ne _ _ hk8 nkp⟩ (fun b hb => by
      simp only [List.mem_cons, List.not_mem_nil, or_false] at hb
      rcases hb with e | e | e
      · exact .inl e
      · rw [e]; exact .inr hq0
      · rw [e]; exact .inr hkp0) (X8.put (sm8 _ _ hp7))


theorem okShelf_lay {f : Addr} {fd : FuncData} {aBadRow : Addr} {cShelf fiShelf : Addr} {fneed_row : Addr} {fdneed_row : FuncData} (F : Fun K "lay" "Shelf.lay" sShelf_lay f fd) (B : Bl mg) (TShelf : KlShelf K mg cShelf fiShelf) (Dneed_row : DnX P w K mg base "need_row" 1 ["row", "letters"] (spneed_row K aBadRow) fneed_row fdneed_row) : FnOk P w K mg base (L2.CX P w) 2 f fd ["self", "row"] (spShelf_lay K aBadRow cShelf) := by
  refine F.okX scShelf_lay (fun vs H Q E h => ?_) (fun cdv A outer s H vs Q E hr h => ?_)
  · first
      | (obtain ⟨_, rfl, _⟩ := h; rfl)
      | (obtain ⟨_, _, rfl, _⟩ := h; rfl)
      | (obtain ⟨_, _, _, rfl, _⟩ := h; rfl)
      | (obtain ⟨_, _, _, _, rfl, _⟩ := h; rfl)
      | (obtain ⟨_, _, _, _, _, rfl, _⟩ := h; rfl)
      | (obtain ⟨_, _, _, _, _, _, rfl, _⟩ := h; rfl)
      | (obtain ⟨_, _, _, _, _, _, _, rfl, _⟩ := h; rfl)
      | (obtain ⟨_, _, _, _, _, _, _, _, rfl, _⟩ := h; rfl)
      | (obtain ⟨_, _, _, _, _, _, _, _, _, rfl, _⟩ := h; rfl)
      | (obtain ⟨_, _, _, _, _, _, _, _, _, _, rfl, _⟩ := h; rfl)
      | (obtain ⟨_, _, _, _, _, _, _, _, _, _, _, rfl, _⟩ := h; rfl)
      | (obtain ⟨_, _, _, _, _, _, _, _, _, _, _, _, rfl, _⟩ := h; rfl)
      | (obtain ⟨_, _, _, _, _, _, _, _, _, _, _, _, _, rfl, _⟩ := h; rfl)
      | (obtain ⟨_, _, _, _, _, _, _, _, _, _, _, _, _, _, rfl, _⟩ := h; rfl)
      | (obtain ⟨_, _, _, _, _, _, _, _, _, _, _, _, _, _, _, rfl, _⟩ := h; rfl)
      | (obtain ⟨_, _, _, _, _, _, _, _, _, _, _, _, _, _, _, _, rfl, _⟩ := h; rfl)
      | (obtain ⟨_, _, _, _, _, _, _, _, _, _, _, _, _, _, _, _, _, rfl, _⟩ := h; rfl)
  · obtain ⟨p, foot, s, z, rfl, hs, hlets, hrl, hz1, qr, q0⟩ := h
    obtain ⟨dx, sc, sq, lp, kp, e1, rfl, n, e2, e3, e4, e5⟩ := hs.ob
    have nkp : kp ≠ p := fun e => by rw [e, e1] at e5; cases e5
    refine ⟨_, 
  (pss_cons (ps_expr (pe_call Dneed_row.ok hr (by rfl) Dneed_row.g Dneed_row.kp Dneed_row.b .nil (passes_call (takes_of rfl rfl rfl rfl) (fun _ _ _ _ h => h)) (pa_cons (pv 1) (pa_cons (pe_fld (pv 0) rfl) pa_nil)))) (PSs.nox 
  (pss_cons (ps_expr (pe_bm PySem.F.plainAttrs_list PySem.F.slot_list_append PySem.F.type_list_append mt_append (pe_fld (pv 0) rfl) (pa_cons (pv 1) pa_nil))) 
  (pss_one (ps_ret (pe_op op_sub (pe_callB call_len_seq (by rfl) B.m_len PySem.boot_len (pa_cons (pe_fld (pv 0) rfl) pa_nil)) pe_int)))))), ?_⟩
    walk_at "vc"
    refine ⟨p, _, dx, _, _, rfl, e1, TShelf.cl, TShelf.n_letters, fl5_letters _ _ _ _ _, ?_⟩
    walk_at "vc"
    refine ⟨z, s.lets, rfl, hz1, fun hok2 => ?_, qr⟩
    have q := q0 hok2
    walk_at "vc"
    refine ⟨p, _, dx, _, _, rfl, e1, TShelf.cl, TShelf.n_laid, fl5_laid _ _ _ _ _, ?_⟩
    refine ⟨.inl ⟨rfl, _, SqL.of e5⟩, ?_⟩
    walk_at "vc"
    refine x_append e5 (by rw [List.length_map]; exact Nat.lt_of_le_of_lt hrl (by decide)) ?_
    have u1 : upd H kp (.lst (s.rows.map strV ++ [.str (S z)])) p = _ := (upd_ne nkp.symm).trans e1
    have u5 : upd H kp (.lst (s.rows.map strV ++ [.str (S z)])) kp = some (.lst ((s.rows ++ [z]).map strV)) := by rw [upd_same, List.map_append]; rfl
    walk_at "vc"
    refine ⟨p, _, dx, _, _, rfl, u1, TShelf.cl, TShelf.n_laid, fl5_laid _ _ _ _ _, ?_⟩
    walk_at "vc"
    have hlen : ((s.rows ++ [z]).map strV).length = s.rows.length + 1 := by rw [List.length_map, List.length_append]; rfl
    rw [hlen, show (((s.rows.length + 1 : Nat) : Int) - 1) = ((s.rows.length : Nat) : Int) by omega]
    have keep : ∀ b o, H b = some o → b ≠ kp → upd H kp (.lst (s.rows.map strV ++ [.str (S z)])) b = some o := fun b o e ne => by rw [upd_ne ne]; exact e
    have tup : ∀ b xs, H b = some (.tup xs) → upd H kp (.lst (s.rows.map strV ++ [.str (S z)])) b = some (.tup xs) := fun b xs e => keep b _ e fun z => by rw [z, e5] at e; cases e
    exact q [p, sq, kp] _ ⟨⟨hs.ok.g1, hs.ok.g2, hs.ok.l1, hs.ok.l2, hs.ok.sd, hs.ok.one, hs.ok.three⟩, dx, sc, sq, lp, kp, u1, rfl, n, tup _ _ e2, keep _ _ e3 n, tup _ _ e4, u5⟩ ⟨fun b o e hb => keep b o e fun z => hb (by rw [z]; simp), tup⟩ (fun b hb => .inl hb)


theorem okShelf_rows {f : Addr} {fd : FuncData} {cShelf fiShelf : Addr} (F : Fun K "rows" "Shelf.rows" sShelf_rows f fd) (B : Bl mg) (TShelf : KlShelf K mg cShelf fiShelf) : FnOk P w K mg base CX0 1 f fd ["self"] (spShelf_rows K cShelf) := by
  refine F.ok scShelf_rows (fun vs H Q E h => ?_) (fun cdv A outer s H vs Q E hr h => ?_)
  · first
      | (obtain ⟨_, rfl, _⟩ := h; rfl)
      | (obtain ⟨_, _, rfl, _⟩ := h; rfl)
      | (obtain ⟨_, _, _, rfl, _⟩ := h; rfl)
      | (obtain ⟨_, _, _, _, rfl, _⟩ := h; rfl)
      | (obtain ⟨_, _, _, _, _, rfl, _⟩ := h; rfl)
      | (obtain ⟨_, _, _, _, _, _, rfl, _⟩ := h; rfl)
      | (obtain ⟨_, _, _, _, _, _, _, rfl, _⟩ := h; rfl)
      | (obtain ⟨_, _, _, _, _, _, _, _, rfl, _⟩ := h; rfl)
      | (obtain ⟨_, _, _, _, _, _, _, _, _, rfl, _⟩ := h; rfl)
      | (obtain ⟨_, _, _, _, _, _, _, _, _, _, rfl, _⟩ := h; rfl)
      | (obtain ⟨_, _, _, _, _, _, _, _, _, _, _, rfl, _⟩ := h; rfl)
      | (obtain ⟨_, _, _, _, _, _, _, _, _, _, _, _, rfl, _⟩ := h; rfl)
      | (obtain ⟨_, _, _, _, _, _, _, _, _, _, _, _, _, rfl, _⟩ := h; rfl)
      | (obtain ⟨_, _, _, _, _, _, _, _, _, _, _, _, _, _, rfl, _⟩ := h; rfl)
      | (obtain ⟨_, _, _, _, _, _, _, _, _, _, _, _, _, _, _, rfl, _⟩ := h; rfl)
      | (obtain ⟨_, _, _, _, _, _, _, _, _, _, _, _, _, _, _, _, rfl, _⟩ := h; rfl)
      | (obtain ⟨_, _, _, _, _, _, _, _, _, _, _, _, _, _, _, _, _, rfl, _⟩ := h; rfl)
  · obtain ⟨p, foot, s, rfl, hs, hrl, q⟩ := h
    obtain ⟨dx, sc, sq, lp, kp, e1, ef, n, e2, e3, e4, e5⟩ := hs.ob
    refine ⟨_, 
  (pss_one (ps_ret (pe_callTy call_list_of (by rfl) B.m_list (by decide +kernel) (pa_cons (pe_fld (pv 0) rfl) pa_nil)))), ?_⟩
    walk_at "vc"
    refine ⟨p, _, dx, _, _, rfl, e1, TShelf.cl, TShelf.n_laid, fl5_laid _ _ _ _ _, ?_⟩
    walk_at "vc"
    intro r hr
    have sm : Same H (upd H r (.lst (s.rows.map strV))) := same_upd hr
    exact q _ r sm hr upd_same


theorem ok_picked {f : Addr} {fd : FuncData} {uFEWEST_LETTERS uMOST_LETTERS uALPHABET uLONGEST_ROW uLEAST_WEIGHT uMOST_WEIGHT uLIKE uUNLIKE uSHORTEST_SEED uLONGEST_SEED uPICK uGAP uFEWEST_SEEDS uMOST_SEEDS uBAR uENDLESS : Value} (F : Fun K "_picked" "_picked" s_picked f fd) (B : Bl mg) (C : Cs mg uFEWEST_LETTERS uMOST_LETTERS uALPHABET uLONGEST_ROW uLEAST_WEIGHT uMOST_WEIGHT uLIKE uUNLIKE uSHORTEST_SEED uLONGEST_SEED uPICK uGAP uFEWEST_SEEDS uMOST_SEEDS uBAR uENDLESS) : FnOk P w K mg base CX0 1 f fd ["seed", "row", "place"] (sp_picked K) := by
  refine F.ok sc_picked (fun vs H Q E h => ?_) (fun cdv A outer s H vs Q E hr h => ?_)
  · first
      | (obtain ⟨_, rfl, _⟩ := h; rfl)
      | (obtain ⟨_, _, rfl, _⟩ := h; rfl)
      | (obtain ⟨_, _, _, rfl, _⟩ := h; rfl)
      | (obtain ⟨_, _, _, _, rfl, _⟩ := h; rfl)
      | (obtain ⟨_, _, _, _, _, rfl, _⟩ := h; rfl)
      | (obtain ⟨_, _, _, _, _, _, rfl, _⟩ := h; rfl)
      | (obtain ⟨_, _, _, _, _, _, _, rfl, _⟩ := h; rfl)
      | (obtain ⟨_, _, _, _, _, _, _, _, rfl, _⟩ := h; rfl)
      | (obtain ⟨_, _, _, _, _, _, _, _, _, rfl, _⟩ := h; rfl)
      | (obtain ⟨_, _, _, _, _, _, _, _, _, _, rfl, _⟩ := h; rfl)
      | (obtain ⟨_, _, _, _, _, _, _, _, _, _, _, rfl, _⟩ := h; rfl)
      | (obtain ⟨_, _, _, _, _, _, _, _, _, _, _, _, rfl, _⟩ := h; rfl)
      | (obtain ⟨_, _, _, _, _, _, _, _, _, _, _, _, _, rfl, _⟩ := h; rfl)
      | (obtain ⟨_, _, _, _, _, _, _, _, _, _, _, _, _, _, rfl, _⟩ := h; rfl)
      | (obtain ⟨_, _, _, _, _, _, _, _, _, _, _, _, _, _, _, rfl, _⟩ := h; rfl)
      | (obtain ⟨_, _, _, _, _, _, _, _, _, _, _, _, _, _, _, _, rfl, _⟩ := h; rfl)
      | (obtain ⟨_, _, _, _, _, _, _, _, _, _, _, _, _, _, _, _, _, rfl, _⟩ := h; rfl)
  · obtain ⟨sd, r, p, rfl, h1, h2, h3, q⟩ := h
    have lr : (S r).length ≤ sizeLine := hp_sz (by rw [len_S]; omega)
    refine ⟨_, 
  (pss_one (ps_ret (pe_join pe_str (pe_lc (own := [("at", 3), ("sign", 4)]) (g := gTup K 2 (gCons (gName 3) (gCons (gName 4) gNil))) rfl sc_picked.nd (pi_enumS (by rfl) B.m_enumerate (pa_cons (pv 0) pa_nil)) (blkOk_by (N := n_picked) (sc := defScope s_picked) (by decide +kernel)) (fun _ _ _ _ _ => (pg_tup rfl (pgs_cons (pg_name (i := 3) sc_picked.nd rfl (.inl rfl)) (pgs_cons (pg_name (i := 4) sc_picked.nd rfl (.inl rfl)) pgs_nil)))) (fun _ _ _ _ _ => pts_one (pt_cmpR op_eq (pv 4) (pe_glob rfl C.c_PICK.2 C.c_PICK.1) (nomark _))) (fun _ _ _ _ _ => (pe_ix ix_str (pv 1) (pe_op op_add (pv 2) (pv 3)) (fun _ _ => rfl))))))), ?_⟩
    walk_at "vc"
    intro D hD
    refine lc_it (walk_enumS (x := S sd)) (fun i H' => Same H H' ∧ H' D = some (.lst ((pickN sd r p i).map fun c => V.str (sg c)))) ⟨same_upd hD, upd_same⟩ (fun _ _ _ _ => trivial) ?_ ?_
    · rintro i x H1 H2 hi ⟨sm, hD1⟩ ⟨T, c, rfl, hTn, hc, rfl⟩
      have hi' : i < sd.length := hi
      have ec : sd[i]? = some c := by simpa [S] using hc
      have hz : p + i < r.length := by omega
      have sm1 : Same H1 (upd H1 T (.tup [.int (i : Nat), .str ⟨#[c]⟩])) := same_upd hTn
      have hTT : upd H1 T (.tup [.int (i : Nat), .str ⟨#[c]⟩]) T = some (.tup [.int (i : Nat), .str ⟨#[c]⟩]) := upd_same
      have hD2 := sm1 _ _ hD1
      have sm2 := sm.trans sm1
      generalize upd H1 T (.tup [.int (i : Nat), .str ⟨#[c]⟩]) = H3 at sm1 hTT hD2 sm2
      refine x_gTup (SqT.of hTT) rfl ?_
      walk_at "vc"
      refine ⟨rfl, ?_⟩
      walk_at "vc"
      rw [show (⟨#[c]⟩ : Str) = sg c from rfl, eq_sign c 35 (Str.ofString "#") rfl]
      refine ite2 (fun e => ?_) (fun e => ?_)
      · have e35 : c = 35 := of_decide_eq_true e
        walk_at "vc"
        refine x_ixS lr (c := r[p + i]) (atI_of (by omega) (by rw [show (((p : Nat) : Int) + ((i : Nat) : Int)).toNat = p + i by omega]; exact List.getElem?_eq_getElem hz)) ?_
        refine ⟨_, hD2, ?_, sm2.putN hD, ?_⟩
        · rw [List.length_map]
          have := pickN_len sd r p i
          exact Nat.lt_of_le_of_lt (by omega : _ ≤ 1000) (by decide)
        · rw [upd_same, pickN_yes (by rw [ec, e35]) (List.getElem?_eq_getElem hz), List.map_append]
          rfl
      · have e35 : ¬ c = 35 := fun h => e (decide_eq_true h)
        refine ⟨sm2, ?_⟩
        rw [pickN_no (by rw [ec]; simp [e35])]
        exact hD2
    · rintro H1 ⟨sm, hD1⟩
      rw [show (S sd).cps.size = sd.length from len_S sd] at hD1
      have hpn := pickN_len sd r p sd.length
      refine x_join (ys := (pickN sd r p sd.length).map sg) (SqL.of (by rw [lst_map_signs]; exact hD1)) (by have e := signs_len (pickN sd r p sd.length); show ((List.map sg (pickN sd r p sd.length)).map (·.length)).sum + ((pickN sd r p sd.length).map sg).length * ("" : Str).length ≤ _; omega) ?_
      rw [show Txt.join (Str.ofString "") ((pickN sd r p sd.length).map sg) = S (pickW sd r p) from join_signs _]
      exact q H1 sm


theorem ok_windows_of {f : Addr} {fd : FuncData} {f_picked : Addr} {fd_picked : FuncData} (F : Fun K "_windows_of" "_windows_of" s_windows_of f fd) (B : Bl mg) (D_picked : Dn P w K mg base "_picked" 1 ["seed", "row", "place"] (sp_picked K) f_picked fd_picked) : FnOk P w K mg base CX0 2 f fd ["row", "seeds"] (sp_windows_of K) := by
  refine F.ok sc_windows_of (fun vs H Q E h => ?_) (fun cdv A outer s H vs Q E hr h => ?_)
  · first
      | (obtain ⟨_, rfl, _⟩ := h; rfl)
      | (obtain ⟨_, _, rfl, _⟩ := h; rfl)
      | (obtain ⟨_, _, _, rfl, _⟩ := h; rfl)
      | (obtain ⟨_, _, _, _, rfl, _⟩ := h; rfl)
      | (obtain ⟨_, _, _, _, _, rfl, _⟩ := h; rfl)
      | (obtain ⟨_, _, _, _, _, _, rfl, _⟩ := h; rfl)
      | (obtain ⟨_, _, _, _, _, _, _, rfl, _⟩ := h; rfl)
      | (obtain ⟨_, _, _, _, _, _, _, _, rfl, _⟩ := h; rfl)
      | (obtain ⟨_, _, _, _, _, _, _, _, _, rfl, _⟩ := h; rfl)
      | (obtain ⟨_, _, _, _, _, _, _, _, _, _, rfl, _⟩ := h; rfl)
      | (obtain ⟨_, _, _, _, _, _, _, _, _, _, _, rfl, _⟩ := h; rfl)
      | (obtain ⟨_, _, _, _, _, _, _, _, _, _, _, _, rfl, _⟩ := h; rfl)
      | (obtain ⟨_, _, _, _, _, _, _, _, _, _, _, _, _, rfl, _⟩ := h; rfl)
      | (obtain ⟨_, _, _, _, _, _, _, _, _, _, _, _, _, _, rfl, _⟩ := h; rfl)
      | (obtain ⟨_, _, _, _, _, _, _, _, _, _, _, _, _, _, _, rfl, _⟩ := h; rfl)
      | (obtain ⟨_, _, _, _, _, _, _, _, _, _, _, _, _, _, _, _, rfl, _⟩ := h; rfl)
      | (obtain ⟨_, _, _, _, _, _, _, _, _, _, _, _, _, _, _, _, _, rfl, _⟩ := h; rfl)
  · obtain ⟨sp, r, sds, rfl, hsp, hsd, hsl, hrz, q⟩ := h
    have lr : (S r).length = r.length := len_S r
    have zr : (S r).length ≤ sizeLine := hp_sz (by omega)
    refine ⟨_, 
  (pss_cons (ps_set (i := 2) sc_windows_of.nd rfl (.inl rfl) (pe_lst pa_nil)) 
  (pss_cons (ps_for PassesOwn.never rfl (pi_enum (by rfl) B.m_enumerate (pa_cons (pv 1) pa_nil)) (pg_tup rfl (pgs_cons (pg_name (i := 3) sc_windows_of.nd rfl (.inl rfl)) (pgs_cons (pg_name (i := 4) sc_windows_of.nd rfl (.inl rfl)) pgs_nil))) 
    (pss_one (ps_for PassesOwn.never rfl (pi_range1 rfl B.m_range (pa_cons (pe_op op_add (pe_op op_sub (pe_callB call_len_str (by rfl) B.m_len PySem.boot_len (pa_cons (pv 0) pa_nil)) (pe_callB call_len_str (by rfl) B.m_len PySem.boot_len (pa_cons (pv 4) pa_nil))) pe_int) pa_nil)) (pg_name (i := 5) sc_windows_of.nd rfl (.inl rfl)) 
      (pss_one (ps_expr (pe_bm PySem.F.plainAttrs_list PySem.F.slot_list_append PySem.F.type_list_append mt_append (pv 2) (pa_cons (pe_tup (pa_cons (pv 3) (pa_cons (pe_call D_picked.ok hr (by rfl) D_picked.g D_picked.kp D_picked.b .nil pass0 (pa_cons (pv 4) (pa_cons (pv 0) (pa_cons (pv 5) pa_nil)))) (pa_cons (pv 5) pa_nil)))) pa_nil))))))) 
  (pss_one (ps_ret (pv 2))))), ?_⟩
    walk_at "vc"
    refine ⟨by decide, fun fp hfp => ?_⟩
    have sm1 : Same H (upd H fp (.lst [])) := same_upd hfp
    have hfp1 : upd H fp (.lst []) fp = some (.lst []) := upd_same
    generalize upd H fp (.lst []) = H1 at sm1 hfp1
    walk_at "vc"
    refine ⟨sp, _, rfl, sm1.seq hsp, ?_⟩
    refine for_it (walk_enum (xs := sds.map strV)) (fun k σ H' => ∃ (as : List Addr) (y3 y4 y5 : Option V), σ = [some (.str (S r)), some (.ref sp), some (.ref fp), y3, y4, y5] ∧ Same H H' ∧ H' fp = some (.lst (as.map V.ref)) ∧ Tup w3V H' as (wo r sds k)) ⟨[], _, _, _, rfl, sm1, hfp1, Tup.nil⟩ (fun k σ H' _ ⟨_, _, _, _, _, s, _⟩ => s.seq hsp) ?_ ?_
    · rintro k x σ H2 H3 hk ⟨as, y3, y4, y5, rfl, sm2, hfp2, hT2⟩ ⟨T, xa, xb, rfl, hTn, rfl, exa, exb⟩
      rw [List.length_map] at hk
      have hkk : sds[k]? = some sds[k] := List.getElem?_eq_getElem hk
      have hsdk := hsd _ (List.getElem_mem hk)
      obtain rfl : xa = .int (k : Nat) := (Option.some.inj exa).symm
      obtain rfl : xb = .str (S sds[k]) := by
        have exb : (sds.map strV)[k]? = some xb := exb
        rw [List.getElem?_map, hkk] at exb
        exact (Option.some.inj exb).symm
      have sm3 : Same H2 (upd H2 T (.tup [.int (k : Nat), .str (S sds[k])])) := same_upd hTn
      have hTT : upd H2 T (.tup [.int (k : Nat), .str (S sds[k])]) T = some (.tup [.int (k : Nat), .str (S sds[k])]) := upd_same
      have hfp3 := sm3 _ _ hfp2
      have hT3 := hT2.same sm3
      have sm4 := sm2.trans sm3
      generalize upd H2 T (.tup [.int (k : Nat), .str (S sds[k])]) = H3 at sm3 hTT hfp3 hT3 sm4
      rw [wo_succ, hkk]
      show _ ; dsimp only [Option.getD_some]
      have hAl := wo_len (sds := sds) hrz k
      have hk4 : 61 * k ≤ 183 := by omega
      generalize sds[k] = sd at hsdk hTT
      have lsd : (S sd).length = sd.length := len_S sd
      have hs8 := hsdk.most
      have hs1 := hsdk.one
      have zsd : (S sd).length ≤ sizeLine := hp_sz (by omega)
      refine x_gTup (SqT.of hTT) rfl ?_
      walk_at "vc"
      have en3 : (((S r).length : Int) - ((S sd).length : Int) + 1).toNat = plcs sd r := by
        unfold plcs
        rw [lr, lsd]
      rw [en3]
      have hpl := plcs_le sd r
      refine for_range (fun p σ H' => ∃ (as : List Addr) (y5 : Option V), σ = [some (.str (S r)), some (.ref sp), some (.ref fp), some (.int (k : Nat)), some (.str (S sd)), y5] ∧ Same H H' ∧ H' fp = some (.lst (as.map V.ref)) ∧ Tup w3V H' as (wo r sds k ++ woK r k sd p)) ⟨as, _, rfl, sm4, hfp3, by show Tup w3V H3 as (_ ++ []); rw [List.append_nil]; exact hT3⟩ ?_ ?_
      · rintro p σ H4 hp ⟨as, y5, rfl, sm5, hfp5, hT5⟩
        have hp' : p + sd.length ≤ r.length := by
          unfold plcs at hp
          omega
        rw [show (0 : Int) + (p : Int) = ((p : Nat) : Int) from Int.zero_add _]
        walk_at "vc"
        refine ⟨.inl ⟨rfl, _, SqL.of hfp5⟩, ?_⟩
        walk_at "vc"
        refine ⟨sd, r, p, rfl, by omega, by omega, hp', fun H5 sm6 => ?_⟩
        walk_at "vc"
        refine ⟨show 3 ≤ sizeLine by decide, fun t ht => ?_⟩
        have hfp6 := sm6 _ _ hfp5
        have hpush := tup_push (f := w3V) (p := ((k, pickW sd r p, p) : W3)) hfp (sm5.trans sm6) hfp6 (hT5.same sm6) ht
        have hLl : (wo r sds k ++ woK r k sd p).length ≤ 10000 := by
          rw [List.length_append, woK_len]
          omega
        walk_at "vc"
        refine x_append (by rw [upd_ne (ne_of_none hfp6 ht)]; exact hfp6) (by rw [hT5.len]; exact Nat.lt_of_le_of_lt hLl (by decide)) ?_
        refine ⟨as ++ [t], _, rfl, hpush.1, hpush.2.1, ?_⟩
        rw [woK_succ, ← List.append_assoc]
        exact hpush.2.2
      · rintro σ H4 ⟨as, y5, rfl, sm5, hfp5, hT5⟩
        exact ⟨as, _, _, _, rfl, sm5, hfp5, hT5⟩
    · rintro σ H2 ⟨as, y3, y4, y5, rfl, sm2, hfp2, hT2⟩
      rw [List.length_map] at hT2
      walk_at "vc"
      exact q fp as H2 sm2 hfp hfp2 hT2


theorem okShelf_windows {f : Addr} {fd : FuncData} {cShelf fiShelf : Addr} {f_windows_of : Addr} {fd_windows_of : FuncData} (F : Fun K "windows" "Shelf.windows" sShelf_windows f fd) (B : Bl mg) (TShelf : KlShelf K mg cShelf fiShelf) (D_windows_of : Dn P w K mg base "_windows_of" 2 ["row", "seeds"] (sp_windows_of K) f_windows_of fd_windows_of) : FnOk P w K mg base CX0 3 f fd ["self"] (spShelf_windows K cShelf) := by
  refine F.ok scShelf_windows (fun vs H Q E h => ?_) (fun cdv A outer s H vs Q E hr h => ?_)
  · first
      | (obtain ⟨_, rfl, _⟩ := h; rfl)
      | (obtain ⟨_, _, rfl, _⟩ := h; rfl)
      | (obtain ⟨_, _, _, rfl, _⟩ := h; rfl)
      | (obtain ⟨_, _, _, _, rfl, _⟩ := h; rfl)
      | (obtain ⟨_, _, _, _, _, rfl, _⟩ := h; rfl)
      | (obtain ⟨_, _, _, _, _, _, rfl, _⟩ := h; rfl)
      | (obtain ⟨_, _, _, _, _, _, _, rfl, _⟩ := h; rfl)
      | (obtain ⟨_, _, _, _, _, _, _, _, rfl, _⟩ := h; rfl)
      | (obtain ⟨_, _, _, _, _, _, _, _, _, rfl, _⟩ := h; rfl)
      | (obtain ⟨_, _, _, _, _, _, _, _, _, _, rfl, _⟩ := h; rfl)
      | (obtain ⟨_, _, _, _, _, _, _, _, _, _, _, rfl, _⟩ := h; rfl)
      | (obtain ⟨_, _, _, _, _, _, _, _, _, _, _, _, rfl, _⟩ := h; rfl)
      | (obtain ⟨_, _, _, _, _, _, _, _, _, _, _, _, _, rfl, _⟩ := h; rfl)
      | (obtain ⟨_, _, _, _, _, _, _, _, _, _, _, _, _, _, rfl, _⟩ := h; rfl)
      | (obtain ⟨_, _, _, _, _, _, _, _, _, _, _, _, _, _, _, rfl, _⟩ := h; rfl)
      | (obtain ⟨_, _, _, _, _, _, _, _, _, _, _, _, _, _, _, _, rfl, _⟩ := h; rfl)
      | (obtain ⟨_, _, _, _, _, _, _, _, _, _, _, _, _, _, _, _, _, rfl, _⟩ := h; rfl)
  · obtain ⟨p, foot, s, rfl, hs, hrl, hrz, q⟩ := h
    obtain ⟨dx, sc, sq, lp, kp, e1, ef, n, e2, e3, e4, e5⟩ := hs.ob
    have hok := hs.ok
    refine ⟨_, 
  (pss_cons (ps_set (i := 1) scShelf_windows.nd rfl (.inl rfl) (pe_lst pa_nil)) 
  (pss_cons (ps_for PassesOwn.never rfl (pi_enum (by rfl) B.m_enumerate (pa_cons (pe_fld (pv 0) rfl) pa_nil)) (pg_tup rfl (pgs_cons (pg_name (i := 2) scShelf_windows.nd rfl (.inl rfl)) (pgs_cons (pg_name (i := 3) scShelf_windows.nd rfl (.inl rfl)) pgs_nil))) 
    (pss_one (ps_for PassesOwn.never rfl (pi_list (pe_call D_windows_of.ok hr (by rfl) D_windows_of.g D_windows_of.kp D_windows_of.b .nil pass0 (pa_cons (pv 3) (pa_cons (pe_fld (pv 0) rfl) pa_nil)))) (pg_tup rfl (pgs_cons (pg_name (i := 4) scShelf_windows.nd rfl (.inl rfl)) (pgs_cons (pg_name (i := 5) scShelf_windows.nd rfl (.inl rfl)) (pgs_cons (pg_name (i := 6) scShelf_windows.nd rfl (.inl rfl)) pgs_nil)))) 
      (pss_one (ps_expr (pe_bm PySem.F.plainAttrs_list PySem.F.slot_list_append PySem.F.type_list_append mt_append (pv 1) (pa_cons (pe_tup (pa_cons (pv 4) (pa_cons (pv 5) (pa_cons (pv 2) (pa_cons (pv 6) pa_nil))))) pa_nil))))))) 
  (pss_one (ps_ret (pe_callB (cr_sortD hr.units) (by rfl) B.m_sorted (by decide +kernel) (pa_cons (pv 1) pa_nil)))))), ?_⟩
    walk_at "vc"
    refine ⟨by decide, fun fp hfp => ?_⟩
    have sm1 : Same H (upd H fp (.lst [])) := same_upd hfp
    have hfp1 : upd H fp (.lst []) fp = some (.lst []) := upd_same
    generalize upd H fp (.lst []) = H1 at sm1 hfp1
    walk_at "vc"
    refine ⟨p, _, dx, _, _, rfl, sm1 _ _ e1, TShelf.cl, TShelf.n_laid, fl5_laid _ _ _ _ _, ?_⟩
    walk_at "vc"
    refine ⟨kp, _, rfl, SqL.of (sm1 _ _ e5), ?_⟩
    refine for_it (walk_enum (xs := s.rows.map strV)) (fun m σ H' => ∃ (as : List Addr) (y2 y3 y4 y5 y6 : Option V), σ = [some (.ref p), some (.ref fp), y2, y3, y4, y5, y6] ∧ Same H H' ∧ H' fp = some (.lst (as.map V.ref)) ∧ Tup winV H' as (winsM s.sds s.rows m)) ⟨[], _, _, _, _, _, rfl, sm1, hfp1, Tup.nil⟩ (fun k σ H' _ ⟨_, _, _, _, _, _, _, sm, _⟩ => SqL.of (sm _ _ e5)) ?_ ?_
    · rintro m x σ H2 H3 hm ⟨as, y2, y3, y4, y5, y6, rfl, sm2, hfp2, hT2⟩ ⟨T, xa, xb, rfl, hTn, rfl, exa, exb⟩
      rw [List.length_map] at hm
      have hmm : s.rows[m]? = some s.rows[m] := List.getElem?_eq_getElem hm
      have hrm := hrz _ (List.getElem_mem hm)
      obtain rfl : xa = .int (m : Nat) := (Option.some.inj exa).symm
      obtain rfl : xb = .str (S s.rows[m]) := by
        have exb : (s.rows.map strV)[m]? = some xb := exb
        rw [List.getElem?_map, hmm] at exb
        exact (Option.some.inj exb).symm
      have sm3 : Same H2 (upd H2 T (.tup [.int (m : Nat), .str (S s.rows[m])])) := same_upd hTn
      have hTT : upd H2 T (.tup [.int (m : Nat), .str (S s.rows[m])]) T = some (.tup [.int (m : Nat), .str (S s.rows[m])]) := upd_same
      have hfp3 := sm3 _ _ hfp2
      have hT3 := hT2.same sm3
      have sm4 := sm2.trans sm3
      generalize upd H2 T (.tup [.int (m : Nat), .str (S s.rows[m])]) = H3 at sm3 hTT hfp3 hT3 sm4
      rw [winsM_succ, hmm]
      show _ ; dsimp only [Option.getD_some]
      have hAl := winsM_len (sds := s.sds) hrz hok.three m
      have hm4 : 183 * m ≤ 3660 := by omega
      generalize s.rows[m] = r at hrm hTT
      refine x_gTup (SqT.of hTT) rfl ?_
      walk_at "vc"
      refine ⟨p, _, dx, _, _, rfl, sm4 _ _ e1, TShelf.cl, TShelf.n_seeds, fl5_seeds _ _ _ _ _, ?_⟩
      walk_at "vc"
      refine ⟨sq, r, s.sds, rfl, SqL.of (sm4 _ _ e3), hok.sd, hok.three, by omega, fun D as3 H4 sm5 hD hD4 hT4 => ?_⟩
      have hwl : (wo r s.sds s.sds.length).length ≤ 183 := by have := wo_len (sds := s.sds) hrm s.sds.length; have := hok.three; omega
      have sm6 := sm4.trans sm5
      have nDf : D ≠ fp := fun z => by rw [z, hfp3] at hD; cases hD
      have hfp6 := sm5 _ _ hfp3
      have hT6 := hT3.same sm5
      generalize wo r s.sds s.sds.length = W3 at hT4 hwl
      walk_at "vc"
      refine ⟨D, rfl, ⟨_, SqL.of hD4⟩, ?_⟩
      refine for_list (K := K) (a := D) (xs := as3.map V.ref) (fun j σ H' => ∃ (as : List Addr) (y4 y5 y6 : Option V), σ = [some (.ref p), some (.ref fp), some (.int (m : Nat)), some (.str (S r)), y4, y5, y6] ∧ (H' D = some (.lst (as3.map V.ref)) ∧ Tup w3V H' as3 W3) ∧ Same H H' ∧ H' fp = some (.lst (as.map V.ref)) ∧ Tup winV H' as (winsM s.sds s.rows m ++ (W3.take j).map fun q => ⟨q.1, q.2.1, m, q.2.2⟩)) ⟨as, _, _, _, rfl, ⟨hD4, hT4⟩, sm6, hfp6, by show Tup winV H4 as (_ ++ []); rw [List.append_nil]; exact hT6⟩ (fun j σ H' _ ⟨_, _, _, _, _, sm, _⟩ => SqL.of sm.1) ?_ ?_
      · rintro j x σ H5 hx ⟨as5, y4, y5, y6, rfl, ⟨hD5, hT5⟩, sm8, hfp7, hT7⟩
        have hj : j < as3.length := by
          have := (List.getElem?_eq_some_iff.mp hx).1
          rw [List.length_map] at this
          exact this
        have hj3 : j < W3.length := by rw [← hT4.1]; exact hj
        obtain rfl : x = .ref as3[j] := by
          rw [List.getElem?_map, List.getElem?_eq_getElem hj] at hx
          exact (Option.some.inj hx).symm
        have htj := hT5.2 j _ W3[j] (List.getElem?_eq_getElem hj) (List.getElem?_eq_getElem hj3)
        rw [List.take_succ_eq_append_getElem hj3, List.map_append, ← List.append_assoc]
        have hjl : (winsM s.sds s.rows m ++ (W3.take j).map fun q => (⟨q.1, q.2.1, m, q.2.2⟩ : Win)).length ≤ 10000 := by
          rw [List.length_append, List.length_map, List.length_take]
          omega
        generalize W3[j] = qq at htj ⊢
        obtain ⟨k, z, pl⟩ := qq
        have htj : H5 as3[j] = some (.tup [.int (k : Nat), .str (S z), .int (pl : Nat)]) := htj
        refine x_gTup (SqT.of htj) rfl ?_
        walk_at "vc"
        refine ⟨.inl ⟨rfl, _, SqL.of hfp7⟩, ?_⟩
        walk_at "vc"
        refine ⟨show 4 ≤ sizeLine by decide, fun t ht => ?_⟩
        have hpush := tup_push (f := winV) (p := (⟨k, z, m, pl⟩ : Win)) hfp sm8 hfp7 hT7 ht
        walk_at "vc"
        refine x_append (by rw [upd_ne (ne_of_none hfp7 ht)]; exact hfp7) (by rw [hT7.len]; exact Nat.lt_of_le_of_lt hjl (by decide)) ?_
        exact ⟨as5 ++ [t], _, _, _, rfl, ⟨(upd_ne nDf).trans ((upd_ne (ne_of_none hD5 ht)).trans hD5), (hT5.same (same_upd ht)).updL ((upd_ne (ne_of_none hfp7 ht)).trans hfp7)⟩, hpush.1, hpush.2.1, hpush.2.2⟩
      · rintro σ H5 ⟨as5, y4, y5, y6, rfl, sm7, sm8, hfp7, hT7⟩
        have e : as3.length = W3.length := hT4.1
        rw [List.length_map, e, List.take_length] at hT7
        exact ⟨as5, _, _, _, _, _, rfl, sm8, hfp7, hT7⟩
    · rintro σ H2 ⟨as, y2, y3, y4, y5, y6, rfl, sm2, hfp2, hT2⟩
      rw [List.length_map] at hT2
      walk_at "vc"
      refine ⟨Win, fp, as, winsM s.sds s.rows s.rows.length, winV, winD, rfl, SqL.of hfp2, hT2, dp_win, allAlike_wins _, fun p _ h => (nomatch h), fun p _ => depth_win p, fun D2 as2 hD2 hT3 => ?_⟩
      rw [winsM_sort] at hT3
      have hD20 : H D2 = none := by
        cases e : H D2 with
        | none => rfl
        | some o =>
          have := sm2 _ _ e
          rw [hD2] at this
          cases this
      have smF := sm2.trans (same_upd (o := .lst (as2.map V.ref)) hD2)
      exact q _ D2 as2 smF hD20 upd_same (hT3.same (same_upd hD2))


theorem okShelf__seeded_lanes {f : Addr} {fd : FuncData} {cShelf fiShelf : Addr} {f_windows_of : Addr} {fd_windows_of : FuncData} {fShelf_windows : Addr} {fdShelf_windows : FuncData} (F : Fun K "_seeded_lanes" "Shelf._seeded_lanes" sShelf__seeded_lanes f fd) (B : Bl mg) (TShelf : KlShelf K mg cShelf fiShelf) (D_windows_of : Dn P w K mg base "_windows_of" 2 ["row", "seeds"] (sp_windows_of K) f_windows_of fd_windows_of) (DShelf_windows : Dm P w K mg base cShelf "windows" 3 ["self"] (spShelf_windows K cShelf) fShelf_windows fdShelf_windows) : FnOk P w K mg base CX0 4 f fd ["self", "row"] (spShelf__seeded_lanes K cShelf) := by
  refine F.ok scShelf__seeded_lanes (fun vs H Q E h => ?_) (fun cdv A outer s H vs Q E hr h => ?_)
  · first
      | (obtain ⟨_, rfl, _⟩ := h; rfl)
      | (obtain ⟨_, _, rfl, _⟩ := h; rfl)
      | (obtain ⟨_, _, _, rfl, _⟩ := h; rfl)
      | (obtain ⟨_, _, _, _, rfl, _⟩ := h; rfl)
      | (obtain ⟨_, _, _, _, _, rfl, _⟩ := h; rfl)
      | (obtain ⟨_, _, _, _, _, _, rfl, _⟩ := h; rfl)
      | (obtain ⟨_, _, _, _, _, _, _, rfl, _⟩ := h; rfl)
      | (obtain ⟨_, _, _, _, _, _, _, _, rfl, _⟩ := h; rfl)
      | (obtain ⟨_, _, _, _, _, _, _, _, _, rfl, _⟩ := h; rfl)
      | (obtain ⟨_, _, _, _, _, _, _, _, _, _, rfl, _⟩ := h; rfl)
      | (obtain ⟨_, _, _, _, _, _, _, _, _, _, _, rfl, _⟩ := h; rfl)
      | (obtain ⟨_, _, _, _, _, _, _, _, _, _, _, _, rfl, _⟩ := h; rfl)
      | (obtain ⟨_, _, _, _, _, _, _, _, _, _, _, _, _, rfl, _⟩ := h; rfl)
      | (obtain ⟨_, _, _, _, _, _, _, _, _, _, _, _, _, _, rfl, _⟩ := h; rfl)
      | (obtain ⟨_, _, _, _, _, _, _, _, _, _, _, _, _, _, _, rfl, _⟩ := h; rfl)
      | (obtain ⟨_, _, _, _, _, _, _, _, _, _, _, _, _, _, _, _, rfl, _⟩ := h; rfl)
      | (obtain ⟨_, _, _, _, _, _, _, _, _, _, _, _, _, _, _, _, _, rfl, _⟩ := h; rfl)
  · obtain ⟨p, foot, s, o, rfl, hs, hrl, hrz, ho, q⟩ := h
    obtain ⟨dx, sc, sq, lp, kp, e1, ef, n, e2, e3, e4, e5⟩ := hs.ob
    have hok := hs.ok
    refine ⟨_, 
  (pss_cons (ps_set (i := 2) scShelf__seeded_lanes.nd rfl (.inl rfl) pe_dnewT) 
  (pss_cons (ps_for PassesOwn.never rfl (pi_list (pe_meth0 (pv 0) TShelf.cl DShelf_windows.mt DShelf_windows.ok hr DShelf_windows.b .nil pass0)) (pg_tup rfl (pgs_cons (pg_name (i := 3) scShelf__seeded_lanes.nd rfl (.inl rfl)) (pgs_cons (pg_name (i := 4) scShelf__seeded_lanes.nd rfl (.inl rfl)) (pgs_cons (pg_name (i := 5) scShelf__seeded_lanes.nd rfl (.inl rfl)) (pgs_cons (pg_name (i := 6) scShelf__seeded_lanes.nd rfl (.inl rfl)) pgs_nil))))) 
    (pss_one (ps_expr (pe_bm PySem.F.plainAttrs_list PySem.F.slot_list_append PySem.F.type_list_append mt_append (pe_setT hr.units (pv 2) (pe_tup (pa_cons (pv 3) (pa_cons (pv 4) pa_nil))) (pe_lst pa_nil) ⟨rfl, rfl, rfl, rfl⟩) (pa_cons (pe_tup (pa_cons (pv 5) (pa_cons (pv 6) pa_nil))) pa_nil))))) 
  (pss_cons (ps_set (i := 7) scShelf__seeded_lanes.nd rfl (.inl rfl) (pe_callTy0 (show CallR _ (.type "set") (rZ0 P w) from cr_Z0) (by rfl) B.m_set (by decide +kernel))) 
  (pss_cons (ps_for PassesOwn.never rfl (pi_list (pe_call D_windows_of.ok (hr.mono (by decide)) (by rfl) D_windows_of.g D_windows_of.kp D_windows_of.b .nil pass0 (pa_cons (pv 1) (pa_cons (pe_fld (pv 0) rfl) pa_nil)))) (pg_tup rfl (pgs_cons (pg_name (i := 3) scShelf__seeded_lanes.nd rfl (.inl rfl)) (pgs_cons (pg_name (i := 4) scShelf__seeded_lanes.nd rfl (.inl rfl)) (pgs_cons (pg_name (i := 8) scShelf__seeded_lanes.nd rfl (.inl rfl)) pgs_nil)))) 
    (pss_one (ps_for PassesOwn.never rfl (pi_list (pe_dget2 (hu_of hr) (pv 2) (pe_tup (pa_cons (pv 3) (pa_cons (pv 4) pa_nil))) (pe_lst pa_nil) ⟨rfl, rfl, rfl, rfl⟩)) (pg_tup rfl (pgs_cons (pg_name (i := 5) scShelf__seeded_lanes.nd rfl (.inl rfl)) (pgs_cons (pg_name (i := 6) scShelf__seeded_lanes.nd rfl (.inl rfl)) pgs_nil))) 
      (pss_one (ps_expr (show PE _ _ (tZAdd K P w _ _) from pe_zadd hr.units (pv 7) (pa_cons (pe_tup (pa_cons (pv 5) (pa_cons (pe_op op_sub (pv 6) (pv 8)) pa_nil))) pa_nil))))))) 
  (pss_one (ps_ret (pe_callB (show CallR _ (.builtin "sorted") (rZSort K P w) from cr_ZSort rfl hr.units) (by rfl) B.m_sorted (by decide +kernel) (pa_cons (pv 7) pa_nil)))))))), ?_⟩
    walk_at "vc"
    intro D hD
    have sm1 : Same H (upd H D (.dT [])) := same_upd hD
    have pl1 : PLs H (upd H D (.dT [])) D [] (fun _ _ => []) := PLs.start hD upd_same
    generalize e1D : upd H D (.dT []) = H1 at sm1 pl1
    replace e1D := e1D.symm
    walk_at "vc"
    obtain ⟨dx', fs, i1, _, _, i3, _⟩ := hs.ins
    refine ⟨p, dx', fs, rfl, sm1 _ _ i1, i3, ?_⟩
    walk_at "vc"
    refine ⟨p, foot, s, rfl, hs.same (fun b _ o e => sm1 b o e) (fun b xs e => sm1 b _ e), by omega, hrz, fun H2 r as sm2 hr1 hr2 hT2 => ?_⟩
    have hWl := winsUp_len (sds := s.sds) hrz (by omega) (by have := hok.three; omega)
    have hLn : ∀ n d, (n, d) ∈ lnA (winsUp s.sds s.rows) (wo o s.sds s.sds.length) ↔ SdL s.sds s.rows o n d := fun n d => lnA_iff n d
    generalize winsUp s.sds s.rows = W at hT2 hWl hLn
    have nrD : r ≠ D := fun e => by
      rw [e, pl1.d] at hr1
      cases hr1
    obtain ⟨Hb, hbD, sHb, sb2, hb2⟩ := erase hD e1D (sm2)
    have hrb := hb2 _ _ nrD hr2
    have hTb : Tup winV Hb as W := ⟨hT2.1, fun j a q g1 g2 => hb2 _ _ (fun e => by
      have g3 := hT2.2 j a q g1 g2
      rw [e, sm2 _ _ pl1.d] at g3
      cases g3) (hT2.2 j a q g1 g2)⟩
    walk_at "vc"
    refine ⟨r, rfl, ⟨_, SqL.of hr2⟩, ?_⟩
    refine for_list (K := K) (a := r) (xs := as.map V.ref) (fun j σ H' => ∃ (kvs : List (List Key × V)) (y3 y4 y5 y6 : Option V), σ = [some (.ref p), some (.str (S o)), some (.ref D), y3, y4, y5, y6, none, none] ∧ Same Hb H' ∧ kvs.length ≤ j ∧ PLs Hb H' D kvs (selW (W.take j))) ⟨[], _, _, _, _, rfl, sb2, Nat.le_refl _, PLs.start hbD (sm2 _ _ pl1.d)⟩ (fun j σ H' _ ⟨_, _, _, _, _, _, sm, _⟩ => SqL.of (sm _ _ hrb)) ?_ ?_
    · rintro j x σ H3 hx ⟨kvs, y3, y4, y5, y6, rfl, sm3, hkl, pl3⟩
      have hj : j < as.length := by
        have := (List.getElem?_eq_some_iff.mp hx).1
        rw [List.length_map] at this
        exact this
      have hjW : j < W.length := by rw [← hT2.1]; exact hj
      obtain rfl : x = .ref as[j] := by
        rw [List.getElem?_map, List.getElem?_eq_getElem hj] at hx
        exact (Option.some.inj hx).symm
      have htj := sm3 _ _ (hTb.2 j _ W[j] (List.getElem?_eq_getElem hj) (List.getElem?_eq_getElem hjW))
      rw [List.take_succ_eq_append_getElem hjW]
      have hsl : ∀ k z, (selW (W.take j) k z).length ≤ 3000 := fun k z => by
        unfold selW
        rw [List.length_map]
        refine Nat.le_trans (List.length_filter_le _ _) ?_
        rw [List.length_take]
        omega
      generalize W.take j = W1 at pl3 hsl ⊢
      generalize W[j] = ww at htj ⊢
      obtain ⟨k, z, nn, pp⟩ := ww
      have htj : H3 as[j] = some (.tup [.int (k : Nat), .str (S z), .int (nn : Nat), .int (pp : Nat)]) := htj
      refine x_gTup (SqT.of htj) rfl ?_
      walk_at "vc"
      refine ⟨D, rfl, .inr ⟨kvs, .inl pl3.d⟩, ?_⟩
      walk_at "vc"
      refine ⟨show 2 ≤ sizeLine by decide, fun T hTn => ?_⟩
      have s4 : Same H3 (upd H3 T (.tup ((wkey k z).map kV))) := same_upd hTn
      have hTT : upd H3 T (.tup ((wkey k z).map kV)) T = some (.tup ((wkey k z).map kV)) := upd_same
      show _ ; change tLst _ _ (upd H3 T (.tup ((wkey k z).map kV))) _
      generalize upd H3 T (.tup ((wkey k z).map kV)) = H4 at s4 hTT ⊢
      have sm4 := sm3.trans s4
      have pl4 := pl3.same s4
      walk_at "vc"
      refine ⟨by decide, fun E hEn => ?_⟩
      have s5 : Same H4 (upd H4 E (.lst [])) := same_upd hEn
      have hEE : upd H4 E (.lst []) E = some (.lst []) := upd_same
      have hEb : Hb E = none := same_none sm4 hEn
      have hnE := nmem_pl pl4 hEn
      generalize upd H4 E (.lst []) = H5 at s5 hEE ⊢
      have sm5 := sm4.trans s5
      have pl5 := pl4.same s5
      refine ⟨kvs, wkey k z, T, pl5.d, rfl, s5 _ _ hTT, Nat.lt_of_le_of_lt (show kvs.length ≤ 3000 by omega) (by decide), fun v hv => ?_, fun hv => ?_⟩
      · obtain ⟨b, as5, rfl, hb0, hb5, hbT⟩ := pl5.yes _ _ _ hv
        refine ⟨.inl ⟨rfl, _, SqL.of hb5⟩, ?_⟩
        walk_at "vc"
        refine ⟨show 2 ≤ sizeLine by decide, fun t ht => ?_⟩
        walk_at "vc"
        have mo := PLs.more (w := ⟨k, z, nn, pp⟩) pl5 sm5 hv hb5 hbT ht
        rw [List.map_append] at mo
        refine x_append (by rw [upd_ne (ne_of_none hb5 ht)]; exact hb5) (by rw [hbT.len]; exact Nat.lt_of_le_of_lt (hsl k z) (by decide)) ?_
        exact ⟨kvs, _, _, _, _, rfl, mo.1, by omega, mo.2⟩
      · have pl6 := pl5.put hv hEb hEE hnE
        have sm6 : Same Hb (upd H5 D (.dT (putK kvs (wkey k z) (.ref E)))) := sm5.putN hbD
        have hl6 := length_putK kvs (wkey k z) (.ref E)
        have hv6 : valV (putK kvs (wkey k z) (.ref E)) (wkey k z) = some (.ref E) := by rw [valV_put, if_pos rfl]
        obtain ⟨b, as5, eb, hb0, hb5, hbT⟩ := pl6.yes _ _ _ hv6
        obtain rfl : E = b := by cases eb; rfl
        generalize putK kvs (wkey k z) (.ref E) = kvs6 at pl6 sm6 hl6 hv6 hb5 hbT ⊢
        generalize upd H5 D (.dT kvs6) = H6 at pl6 sm6 hb5 hbT ⊢
        refine ⟨.inl ⟨rfl, _, SqL.of hb5⟩, ?_⟩
        walk_at "vc"
        refine ⟨show 2 ≤ sizeLine by decide, fun t ht => ?_⟩
        walk_at "vc"
        have mo := PLs.more (w := ⟨k, z, nn, pp⟩) pl6 sm6 hv6 hb5 hbT ht
        rw [List.map_append] at mo
        refine x_append (by rw [upd_ne (ne_of_none hb5 ht)]; exact hb5) (by rw [hbT.len]; exact Nat.lt_of_le_of_lt (hsl k z) (by decide)) ?_
        exact ⟨kvs6, _, _, _, _, rfl, mo.1, by omega, mo.2⟩
    · rintro σ H3 ⟨kvs, y3, y4, y5, y6, rfl, sm3, hkl, pl3⟩
      rw [List.length_map, hT2.1, List.take_length] at pl3
      walk_at "vc"
      refine ⟨rfl, fun Z hZn => ?_⟩
      generalize e4Z : upd H3 Z (ZO P w Z []) = H4
      replace e4Z := e4Z.symm
      have sm4 : Same H3 H4 := by rw [e4Z]; exact same_upd hZn
      have hZ4 : H4 Z = some (ZO P w Z []) := by rw [e4Z]; exact upd_same
      have smH4 := sHb.trans (sm3.trans sm4)
      walk_at "vc"
      refine ⟨p, _, dx, _, _, rfl, smH4 _ _ e1, TShelf.cl, TShelf.n_seeds, fl5_seeds _ _ _ _ _, ?_⟩
      walk_at "vc"
      refine ⟨sq, o, s.sds, rfl, SqL.of (smH4 _ _ e3), hok.sd, hok.three, ho, fun F asF H5 sm5 hF hF5 hTF => ?_⟩
      have hwl := wo_len (sds := s.sds) ho s.sds.length
      have hwl2 : (wo o s.sds s.sds.length).length ≤ 183 := by have := hok.three; omega
      have hRg : ∀ y ∈ lnA W (wo o s.sds s.sds.length), y.1 < 8 ∧ -60 ≤ y.2 ∧ y.2 ≤ 60 := fun y hy => by
        have := ((hLn y.1 y.2).mp hy).rng hrz ho
        exact ⟨by omega, this.2⟩
      generalize wo o s.sds s.sds.length = ws at hTF hwl2 hLn hRg
      obtain ⟨Hc, hcZ, sHc, sc5, hc5⟩ := erase hZn e4Z sm5
      have plc := pl3.same sHc
      have nFZ : F ≠ Z := fun e => by
        rw [e, hZ4] at hF
        cases hF
      have hFc := hc5 _ _ nFZ hF5
      have hZ5 := sm5 _ _ hZ4
      have hTFc : Tup w3V Hc asF ws := ⟨hTF.1, fun j a q g1 g2 => hc5 _ _ (fun e => by
        have g3 := hTF.2 j a q g1 g2
        rw [e, hZ5] at g3
        cases g3) (hTF.2 j a q g1 g2)⟩
      walk_at "vc"
      refine ⟨F, rfl, ⟨_, SqL.of hF5⟩, ?_⟩
      refine for_list (K := K) (a := F) (xs := asF.map V.ref) (fun j σ H' => ∃ (L : Mem) (y3 y4 y5 y6 y8 : Option V), σ = [some (.ref p), some (.str (S o)), some (.ref D), y3, y4, y5, y6, some (.ref Z), y8] ∧ Same Hc H' ∧ H' Z = some (ZO P w Z L) ∧ Zl H' L (lnA W (ws.take j))) ⟨[], _, _, _, _, _, rfl, sc5, hZ5, Zl.nil⟩ (fun j σ H' _ ⟨_, _, _, _, _, _, _, sm, _⟩ => SqL.of (sm _ _ hFc)) ?_ ?_
      · rintro j x σ H6 hx ⟨L, y3, y4, y5, y6, y8, rfl, sm6, hZ6, zl6⟩
        have hj : j < asF.length := by
          have := (List.getElem?_eq_some_iff.mp hx).1
          rw [List.length_map] at this
          exact this
        have hjW : j < ws.length := by rw [← hTF.1]; exact hj
        obtain rfl : x = .ref asF[j] := by
          rw [List.getElem?_map, List.getElem?_eq_getElem hj] at hx
          exact (Option.some.inj hx).symm
        have htj := sm6 _ _ (hTFc.2 j _ ws[j] (List.getElem?_eq_getElem hj) (List.getElem?_eq_getElem hjW))
        have elA : lnA W (ws.take (j + 1)) = lnA W (ws.take j) ++ (selW W ws[j].1 ws[j].2.1).map fun r => (r.1, (r.2 : Int) - (ws[j].2.2 : Nat)) := by
          rw [List.take_succ_eq_append_getElem hjW]
          unfold lnA
          rw [List.flatMap_append]
          simp
        have hin : ∀ y ∈ lnA W (ws.take (j + 1)), y.1 < 8 ∧ -60 ≤ y.2 ∧ y.2 ≤ 60 := fun y hy => hRg y (by
          unfold lnA at hy ⊢
          obtain ⟨q, hq, h⟩ := List.mem_flatMap.mp hy
          exact List.mem_flatMap.mpr ⟨q, List.mem_of_mem_take hq, h⟩)
        rw [elA] at hin ⊢
        generalize lnA W (ws.take j) = Y at zl6 hin ⊢
        generalize ws[j] = ww at htj hin ⊢
        obtain ⟨k, z, b⟩ := ww
        have htj : H6 asF[j] = some (.tup [.int (k : Nat), .str (S z), .int (b : Nat)]) := htj
        refine x_gTup (SqT.of htj) rfl ?_
        walk_at "vc"
        have pl6 := plc.same sm6
        refine ⟨D, rfl, .inr ⟨kvs, .inl pl6.d⟩, ?_⟩
        walk_at "vc"
        refine ⟨show 2 ≤ sizeLine by decide, fun T hTn => ?_⟩
        have s7 : Same H6 (upd H6 T (.tup ((wkey k z).map kV))) := same_upd hTn
        have hTT : upd H6 T (.tup ((wkey k z).map kV)) T = some (.tup ((wkey k z).map kV)) := upd_same
        show _ ; change tLst _ _ (upd H6 T (.tup ((wkey k z).map kV))) _
        generalize upd H6 T (.tup ((wkey k z).map kV)) = H7 at s7 hTT ⊢
        have sm7 := sm6.trans s7
        have pl7 := pl6.same s7
        walk_at "vc"
        refine ⟨by decide, fun E hEn => ?_⟩
        have s8 : Same H7 (upd H7 E (.lst [])) := same_upd hEn
        have hEE : upd H7 E (.lst []) E = some (.lst []) := upd_same
        generalize upd H7 E (.lst []) = H8 at s8 hEE ⊢
        have sm8 := sm7.trans s8
        have pl8 := pl7.same s8
        have hZ8 := s8 _ _ (s7 _ _ hZ6)
        have zl8 : Zl H8 L Y := zl6.keep fun b xs e => s8 _ _ (s7 _ _ e)
        refine ⟨_, DGet.t pl8.d (s8 _ _ hTT), ?_⟩
        obtain ⟨B, asB, eB, hB, hTB⟩ : ∃ B asB, (valV kvs (wkey k z)).getD (.ref E) = .ref B ∧ H8 B = some (.lst (asB.map V.ref)) ∧ Tup npV H8 asB (selW W k z) := by
          cases ev : valV kvs (wkey k z) with
          | none => exact ⟨E, [], rfl, hEE, by rw [pl8.no _ _ ev]; exact Tup.nil⟩
          | some v =>
            obtain ⟨b', as', e1, _, e3, e4⟩ := pl8.yes _ _ _ ev
            exact ⟨b', as', e1, e3, e4⟩
        rw [eB]
        have nBZ : B ≠ Z := fun e => by
          rw [e, hZ8] at hB
          cases hB
        refine ⟨B, rfl, ⟨_, SqL.of hB⟩, ?_⟩
        generalize selW W k z = R at hTB hin ⊢
        refine for_list (K := K) (a := B) (xs := asB.map V.ref) (fun i σ H' => ∃ (L : Mem) (y5 y6 : Option V), σ = [some (.ref p), some (.str (S o)), some (.ref D), some (.int (k : Nat)), some (.str (S z)), y5, y6, some (.ref Z), some (.int (b : Nat))] ∧ K1 Z H8 H' ∧ H' Z = some (ZO P w Z L) ∧ Zl H' L (Y ++ (R.take i).map fun r => (r.1, (r.2 : Int) - (b : Nat)))) ⟨L, _, _, rfl, (fun b o _ e => e), hZ8, by rw [List.take_zero, List.map_nil, List.append_nil]; exact zl8⟩ (fun i σ H' _ ⟨_, _, _, _, k1, _⟩ => SqL.of (k1 _ _ nBZ hB)) ?_ ?_
        · rintro i x σ H9 hx ⟨L9, y5, y6, rfl, k9, hZ9, zl9⟩
          have hi : i < asB.length := by
            have := (List.getElem?_eq_some_iff.mp hx).1
            rw [List.length_map] at this
            exact this
          have hiR : i < R.length := by rw [← hTB.1]; exact hi
          obtain rfl : x = .ref asB[i] := by
            rw [List.getElem?_map, List.getElem?_eq_getElem hi] at hx
            exact (Option.some.inj hx).symm
          have hti0 := hTB.2 i _ R[i] (List.getElem?_eq_getElem hi) (List.getElem?_eq_getElem hiR)
          have hti := k9 _ _ (fun e => by
            rw [e, hZ8] at hti0
            cases hti0) hti0
          have hnum := zl9.num fun y hy => hin y (by
            rcases List.mem_append.mp hy with g | g
            · exact List.mem_append.mpr (.inl g)
            · obtain ⟨r, hr, e⟩ := List.mem_map.mp g
              exact List.mem_append.mpr (.inr (List.mem_map.mpr ⟨r, List.mem_of_mem_take hr, e⟩)))
          rw [List.take_succ_eq_append_getElem hiR, List.map_append, ← List.append_assoc]
          generalize Y ++ (R.take i).map (fun r => (r.1, (r.2 : Int) - ((b : Nat) : Int))) = Y2 at zl9 ⊢
          generalize R[i] = rr at hti ⊢
          obtain ⟨nn, pp⟩ := rr
          have hti : H9 asB[i] = some (.tup [.int (nn : Nat), .int (pp : Nat)]) := hti
          refine x_gTup (SqT.of hti) rfl ?_
          walk_at "vc"
          refine ⟨⟨Z, L9, rfl, hZ9, fun q hq => SqT.of (zl9.tp q hq)⟩, ?_⟩
          walk_at "vc"
          refine ⟨show 2 ≤ sizeLine by decide, fun t ht => ?_⟩
          walk_at "vc"
          have hZt : Z ≠ t := ne_of_none hZ9 ht
          refine ⟨Z, t, lnK (nn, (pp : Int) - ((b : Nat) : Int)), L9, rfl, rfl, (upd_ne hZt).trans hZ9, SqT.of upd_same, fun q hq => SqT.of ((upd_ne (ne_of_none (zl9.tp q hq) ht)).trans (zl9.tp q hq)), Nat.lt_of_le_of_lt hnum (by decide), fun L' c1 c2 => ?_⟩
          have kZ : K1 Z H9 (upd (upd H9 t (.tup ((lnK (nn, (pp : Int) - ((b : Nat) : Int))).map V.int))) Z (ZO P w Z L')) := (K1.of (same_upd ht)).trans K1.at
          refine ⟨L', _, _, rfl, k9.trans kZ, upd_same, zl9.add (fun b' xs e => kZ _ _ (ne_of e hZ9 (by intro x; cases x)) e) ?_ c1 c2⟩
          rw [upd_ne hZt.symm, upd_same]
          rfl
        · rintro σ H9 ⟨L9, y5, y6, rfl, k9, hZ9, zl9⟩
          rw [List.length_map, hTB.1, List.take_length] at zl9
          exact ⟨L9, _, _, _, _, _, rfl, k9.same hcZ sm8, hZ9, zl9⟩
      · rintro σ H6 ⟨L, y3, y4, y5, y6, y8, rfl, sm6, hZ6, zl6⟩
        rw [List.length_map, hTF.1, List.take_length] at zl6
        walk_at "vc"
        refine ⟨Z, L, rfl, hZ6, fun q hq => SqT.of (zl6.tp q hq), fun q hq e => ?_, fun M r2 pm nd hr2 => ?_⟩
        · obtain ⟨y, _, e2⟩ := (zl6.mem q.2).mp (List.mem_map.mpr ⟨q, hq, rfl⟩)
          rw [e] at e2
          cases e2
        · obtain ⟨LN, hTL, hpw, hmm⟩ := zl6.up pm
          have smF : Same H6 (upd H6 r2 (.lst ((M.mergeSort (PySem.W.dataLe false fun q => intsD q.2)).map fun q => V.ref q.1))) := same_upd hr2
          have smA : Same H H6 := (sHb.trans (sm3.trans sHc)).trans sm6
          refine q _ r2 ((M.mergeSort (PySem.W.dataLe false fun q => intsD q.2)).map (·.1)) LN (smA.trans smF) (same_none smA hr2) ?_ (hTL.same smF) hpw fun n d => by rw [hmm]; exact hLn n d
          rw [upd_same, List.map_map]
          rfl


theorem okShelf_find {f : Addr} {fd : FuncData} {aBadRow : Addr} {aTooLow : Addr} {cShelf fiShelf : Addr} {fneed_row : Addr} {fdneed_row : FuncData} {fneed_above : Addr} {fdneed_above : FuncData} {flane_reaches : Addr} {fdlane_reaches : FuncData} {fShelf__seeded_lanes : Addr} {fdShelf__seeded_lanes : FuncData} (F : Fun K "find" "Shelf.find" sShelf_find f fd) (B : Bl mg) (TShelf : KlShelf K mg cShelf fiShelf) (Dneed_row : DnX P w K mg base "need_row" 1 ["row", "letters"] (spneed_row K aBadRow) fneed_row fdneed_row) (Dneed_above : DnX P w K mg base "need_above" 3 ["told", "limit"] (spneed_above K aTooLow) fneed_above fdneed_above) (Dlane_reaches : Dn P w K mg base "lane_reaches" 4 ["one", "other", "shift", "scale", "told"] (splane_reaches K) flane_reaches fdlane_reaches) (DShelf__seeded_lanes : Dm P w K mg base cShelf "_seeded_lanes" 4 ["self", "row"] (spShelf__seeded_lanes K cShelf) fShelf__seeded_lanes fdShelf__seeded_lanes) : FnOk P w K mg base (L2.CX P w) 5 f fd ["self", "row", "told"] (spShelf_find K aBadRow aTooLow cShelf) := by
  refine F.okX scShelf_find (fun vs H Q E h => ?_) (fun cdv A outer s H vs Q E hr h => ?_)
  · first
      | (obtain ⟨_, rfl, _⟩ := h; rfl)
      | (obtain ⟨_, _, rfl, _⟩ := h; rfl)
      | (obtain ⟨_, _, _, rfl, _⟩ := h; rfl)
      | (obtain ⟨_, _, _, _, rfl, _⟩ := h; rfl)
      | (obtain ⟨_, _, _, _, _, rfl, _⟩ := h; rfl)
      | (obtain ⟨_, _, _, _, _, _, rfl, _⟩ := h; rfl)
      | (obtain ⟨_, _, _, _, _, _, _, rfl, _⟩ := h; rfl)
      | (obtain ⟨_, _, _, _, _, _, _, _, rfl, _⟩ := h; rfl)
      | (obtain ⟨_, _, _, _, _, _, _, _, _, rfl, _⟩ := h; rfl)
      | (obtain ⟨_, _, _, _, _, _, _, _, _, _, rfl, _⟩ := h; rfl)
      | (obtain ⟨_, _, _, _, _, _, _, _, _, _, _, rfl, _⟩ := h; rfl)
      | (obtain ⟨_, _, _, _, _, _, _, _, _, _, _, _, rfl, _⟩ := h; rfl)
      | (obtain ⟨_, _, _, _, _, _, _, _, _, _, _, _, _, rfl, _⟩ := h; rfl)
      | (obtain ⟨_, _, _, _, _, _, _, _, _, _, _, _, _, _, rfl, _⟩ := h; rfl)
      | (obtain ⟨_, _, _, _, _, _, _, _, _, _, _, _, _, _, _, rfl, _⟩ := h; rfl)
      | (obtain ⟨_, _, _, _, _, _, _, _, _, _, _, _, _, _, _, _, rfl, _⟩ := h; rfl)
      | (obtain ⟨_, _, _, _, _, _, _, _, _, _, _, _, _, _, _, _, _, rfl, _⟩ := h; rfl)
  · obtain ⟨p, foot, s, o, told, rfl, hs, hlets, hrl, hrz, ho1, qr, hbo, qa0, qe0⟩ := h
    obtain ⟨dx, sc, sq, lp, kp, e1, ef, n, e2, e3, e4, e5⟩ := hs.ob
    have hok := hs.ok
    have h1s : Ones s.sds := fun sd h => (hok.sd sd h).one
    refine ⟨_, 
  (pss_cons (ps_expr (pe_call Dneed_row.ok (hr.mono (by decide)) (by rfl) Dneed_row.g Dneed_row.kp Dneed_row.b .nil (passes_call (takes_of rfl rfl rfl rfl) (fun _ _ _ _ h => h)) (pa_cons (pv 1) (pa_cons (pe_fld (pv 0) rfl) pa_nil)))) 
  (pss_cons (ps_expr (pe_call Dneed_above.ok (hr.mono (by decide)) (by rfl) Dneed_above.g Dneed_above.kp Dneed_above.b .nil (passes_call (takes_of rfl rfl rfl rfl) (fun _ _ _ _ h => h)) (pa_cons (pv 2) (pa_cons (pe_fld (pv 0) rfl) pa_nil)))) (PSs.nox 
  (pss_cons (ps_set (i := 3) scShelf_find.nd rfl (.inl rfl) (pe_lst pa_nil)) 
  (pss_cons (ps_for PassesOwn.never rfl (pi_list (pe_meth (pv 0) TShelf.cl DShelf__seeded_lanes.mt DShelf__seeded_lanes.ok hr DShelf__seeded_lanes.b .nil pass0 (pa_cons (pv 1) pa_nil))) (pg_tup rfl (pgs_cons (pg_name (i := 4) scShelf_find.nd rfl (.inl rfl)) (pgs_cons (pg_name (i := 5) scShelf_find.nd rfl (.inl rfl)) pgs_nil))) 
    (pss_one (ps_for PassesOwn.never rfl (pi_list (pe_call Dlane_reaches.ok hr (by rfl) Dlane_reaches.g Dlane_reaches.kp Dlane_reaches.b .nil pass0 (pa_cons (pv 1) (pa_cons (pe_ix ix_list (pe_fld (pv 0) rfl) (pv 4) (fun _ _ => rfl)) (pa_cons (pv 5) (pa_cons (pe_fld (pv 0) rfl) (pa_cons (pv 2) pa_nil))))))) (pg_tup rfl (pgs_cons (pg_name (i := 6) scShelf_find.nd rfl (.inl rfl)) (pgs_cons (pg_name (i := 7) scShelf_find.nd rfl (.inl rfl)) (pgs_cons (pg_name (i := 8) scShelf_find.nd rfl (.inl rfl)) pgs_nil)))) 
      (pss_one (ps_expr (pe_bm PySem.F.plainAttrs_list PySem.F.slot_list_append PySem.F.type_list_append mt_append (pv 3) (pa_cons (pe_tup (pa_cons (pv 4) (pa_cons (pv 5) (pa_cons (pv 6) (pa_cons (pv 7) (pa_cons (pv 8) pa_nil)))))) pa_nil))))))) 
  (pss_one (ps_ret (pv 3)))))))), ?_⟩
    walk_at "vc"
    refine ⟨p, _, dx, _, _, rfl, e1, TShelf.cl, TShelf.n_letters, fl5_letters _ _ _ _ _, ?_⟩
    walk_at "vc"
    refine ⟨o, s.lets, rfl, ho1, fun hok2 => ?_, qr⟩
    have ho := hok2.1
    have hol := hok2.2
    have qa := qa0 hok2
    have qe := qe0 hok2
    walk_at "vc"
    refine ⟨p, _, dx, _, _, rfl, e1, TShelf.cl, TShelf.n_limit, fl5_limit _ _ _ _ _, ?_⟩
    walk_at "vc"
    refine ⟨told, lp, barM s.sds s.g s.l, rfl, SqT.of e4, fun ha => ?_, fun hn dd H' sm hd => qe hn dd lp H' sm hd (sm _ _ e4)⟩
    have q := qa ha
    obtain ⟨m, z, hb, hm⟩ := ha
    have hbar : IsBar s.sds s.g s.l m z := by
      rw [hb] at hbo
      exact hbo
    walk_at "vc"
    refine ⟨by decide, fun fp hfp => ?_⟩
    have sm1 : Same H (upd H fp (.lst [])) := same_upd hfp
    have hfp1 : upd H fp (.lst []) fp = some (.lst []) := upd_same
    generalize upd H fp (.lst []) = H1 at sm1 hfp1
    walk_at "vc"
    obtain ⟨dx', fs, i1, i⟩ := hs.ins
    have ilk : fs.lookup ("_seeded_lanes" : Str) = none := by
      obtain ⟨_, _, _, _, _, _, _, _, x⟩ := i
      exact x
    refine ⟨p, dx', fs, rfl, sm1 _ _ i1, ilk, ?_⟩
    walk_at "vc"
    refine ⟨p, foot, s, o, rfl, hs.same (fun b _ o e => sm1 b o e) (fun b xs e => sm1 b _ e), hrl, hrz, ho, fun H2 r as LN sm2 hr1 hr2 hT2 hup hin => ?_⟩
    have hLl := LN_len hup hin hrz ho hrl
    have hfl := flL_due (told := told) (o := o) (rows := s.rows) h1s hbar hm hup hin
    have hLr : ∀ q ∈ LN, q.1 < s.rows.length ∧ -60 ≤ q.2 ∧ q.2 ≤ 60 := fun q hq => ((hin q.1 q.2).mp hq).rng hrz ho
    have hfl2 := flL_len (g := s.g) (l := s.l) (told := told) (rows := s.rows) ho
    walk_at "vc"
    refine ⟨r, rfl, ⟨_, SqL.of hr2⟩, ?_⟩
    have nrf : r ≠ fp := fun e => by
      rw [e, hfp1] at hr1
      cases hr1
    refine for_list (K := K) (a := r) (xs := as.map V.ref) (fun j σ H' => ∃ (bs : List Addr) (y4 y5 y6 y7 y8 : Option V), σ = [some (.ref p), some (.str (S o)), some (.int told), some (.ref fp), y4, y5, y6, y7, y8] ∧ Same H H' ∧ K1 fp H2 H' ∧ H' fp = some (.lst (bs.map V.ref)) ∧ Tup fndV H' bs (flL s.g s.l told o s.rows (LN.take j))) ⟨[], _, _, _, _, _, rfl, sm1.trans sm2, (fun b o _ e => e), sm2 _ _ hfp1, Tup.nil⟩ (fun j σ H' _ ⟨_, _, _, _, _, _, _, _, k, _⟩ => SqL.of (k _ _ nrf hr2)) ?_ ?_
    · rintro j x σ H3 hx ⟨bs, y4, y5, y6, y7, y8, rfl, sm3, k3, hf3, hT3⟩
      have hj : j < as.length := by
        have := (List.getElem?_eq_some_iff.mp hx).1
        rw [List.length_map] at this
        exact this
      have hjL : j < LN.length := by rw [← hT2.1]; exact hj
      obtain rfl : x = .ref as[j] := by
        rw [List.getElem?_map, List.getElem?_eq_getElem hj] at hx
        exact (Option.some.inj hx).symm
      have htj0 := hT2.2 j _ LN[j] (List.getElem?_eq_getElem hj) (List.getElem?_eq_getElem hjL)
      have htj := k3 _ _ (fun e => by
        rw [e, sm2 _ _ hfp1] at htj0
        cases htj0) htj0
      have efl : flL s.g s.l told o s.rows (LN.take (j + 1)) = flL s.g s.l told o s.rows (LN.take j) ++ ((lrL s.g s.l told o (s.rows[LN[j].1]?.getD []) LN[j].2).map fun t => (LN[j].1, (LN[j].2, t.1, t.2.1), t.2.2)) := by
        rw [List.take_succ_eq_append_getElem hjL]
        unfold flL
        rw [List.flatMap_append]
        simp
      rw [efl]
      have hnum : (flL s.g s.l told o s.rows (LN.take j)).length ≤ 60000 := by
        have := hfl2 (LN.take j)
        rw [List.length_take] at this
        omega
      have hLj := hLr _ (List.getElem_mem hjL)
      generalize flL s.g s.l told o s.rows (LN.take j) = F0 at hT3 hnum ⊢
      generalize LN[j] = qq at htj hLj ⊢
      obtain ⟨nn, d⟩ := qq
      dsimp only at hLj
      have htj : H3 as[j] = some (.tup [.int (nn : Nat), .int d]) := htj
      have enn : s.rows[nn]? = some s.rows[nn] := List.getElem?_eq_getElem hLj.1
      have hrow := hrz _ (List.getElem_mem hLj.1)
      have enr : s.rows[nn]?.getD [] = s.rows[nn] := by rw [enn]; rfl
      show _
      rw [enr]
      refine x_gTup (SqT.of htj) rfl ?_
      walk_at "vc"
      refine ⟨p, _, dx, _, _, rfl, sm3 _ _ e1, TShelf.cl, TShelf.n_laid, fl5_laid _ _ _ _ _, ?_⟩
      walk_at "vc"
      refine x_ixL (v := .str (S s.rows[nn])) (SqL.of (sm3 _ _ e5)) (atI_nat (by rw [List.getElem?_map, enn]; rfl)) ?_
      walk_at "vc"
      refine ⟨p, _, dx, _, _, rfl, sm3 _ _ e1, TShelf.cl, TShelf.n_scale, fl5_scale _ _ _ _ _, ?_⟩
      walk_at "vc"
      generalize s.rows[nn] = row at hrow ⊢
      have g1 := hok.g1
      have g2 := hok.g2
      have l1 := hok.l1
      have l2 := hok.l2
      refine ⟨o, row, d, sc, s.g, s.l, told, rfl, SqT.of (sm3 _ _ e2), g1, by omega, l1, by omega, by omega, by omega, by omega, by omega, fun D H4 ds sm4 hD0 hD hTD => ?_⟩
      have hll := lrL_len s.g s.l told o row d
      generalize lrL s.g s.l told o row d = L at hTD hll ⊢
      walk_at "vc"
      refine ⟨D, rfl, ⟨_, SqL.of hD⟩, ?_⟩
      have hf4 := sm4 _ _ hf3
      have nDf : D ≠ fp := fun e => by
        rw [e, hf3] at hD0
        cases hD0
      refine for_list (K := K) (a := D) (xs := ds.map V.ref) (fun i σ H' => ∃ (bs : List Addr) (y6 y7 y8 : Option V), σ = [some (.ref p), some (.str (S o)), some (.int told), some (.ref fp), some (.int (nn : Nat)), some (.int d), y6, y7, y8] ∧ Same H H' ∧ K1 fp H4 H' ∧ H' fp = some (.lst (bs.map V.ref)) ∧ Tup fndV H' bs (F0 ++ (L.take i).map fun t => ((nn, (d, t.1, t.2.1), t.2.2) : Fnd))) ⟨bs, y6, y7, y8, rfl, sm3.trans sm4, (fun b o _ e => e), hf4, (by rw [List.take_zero, List.map_nil, List.append_nil]; exact hT3.same sm4)⟩ (fun i σ H' _ ⟨_, _, _, _, _, _, k, _⟩ => SqL.of (k _ _ nDf hD)) ?_ ?_
      · rintro i x σ H5 hx ⟨bs5, y6, y7, y8, rfl, sm5, k5, hf5, hT5⟩
        have hi : i < ds.length := by
          have := (List.getElem?_eq_some_iff.mp hx).1
          rw [List.length_map] at this
          exact this
        have hiL : i < L.length := by rw [← hTD.1]; exact hi
        obtain rfl : x = .ref ds[i] := by
          rw [List.getElem?_map, List.getElem?_eq_getElem hi] at hx
          exact (Option.some.inj hx).symm
        have hti0 := hTD.2 i _ L[i] (List.getElem?_eq_getElem hi) (List.getElem?_eq_getElem hiL)
        have hti := k5 _ _ (fun e => by
          rw [e, hf4] at hti0
          cases hti0) hti0
        have hn5 : (F0 ++ (L.take i).map fun t => ((nn, (d, t.1, t.2.1), t.2.2) : Fnd)).length ≤ 60100 := by
          rw [List.length_append, List.length_map, List.length_take]
          omega
        rw [List.take_succ_eq_append_getElem hiL, List.map_append, ← List.append_assoc]
        generalize F0 ++ (L.take i).map (fun t => ((nn, (d, t.1, t.2.1), t.2.2) : Fnd)) = F5 at hT5 hn5 ⊢
        generalize L[i] = tt at hti ⊢
        obtain ⟨a, b, c⟩ := tt
        have hti : H5 ds[i] = some (.tup [.int a, .int b, .int c]) := hti
        refine x_gTup (SqT.of hti) rfl ?_
        walk_at "vc"
        refine ⟨.inl ⟨rfl, _, SqL.of hf5⟩, ?_⟩
        walk_at "vc"
        refine ⟨show 5 ≤ sizeLine by decide, fun t ht => ?_⟩
        walk_at "vc"
        have hpush := tup_push (f := fndV) (p := ((nn, (d, a, b), c) : Fnd)) hfp sm5 hf5 hT5 ht
        refine x_append (by rw [upd_ne (ne_of_none hf5 ht)]; exact hf5) (by rw [hT5.len]; exact Nat.lt_of_le_of_lt hn5 (by decide)) ?_
        exact ⟨bs5 ++ [t], _, _, _, rfl, hpush.1, k5.trans ((K1.of (same_upd ht)).trans K1.at), hpush.2.1, hpush.2.2⟩
      · rintro σ H5 ⟨bs5, y6, y7, y8, rfl, sm5, k5, hf5, hT5⟩
        rw [List.length_map, hTD.1, List.take_length] at hT5
        exact ⟨bs5, _, _, _, _, _, rfl, sm5, k3.trans ((K1.of sm4).trans k5), hf5, hT5⟩
    · rintro σ H3 ⟨bs, y4, y5, y6, y7, y8, rfl, sm3, k3, hf3, hT3⟩
      rw [List.length_map, hT2.1, List.take_length, hfl] at hT3
      walk_at "vc"
      exact q _ fp bs sm3 hfp hf3 hT3


theorem ok_need_place {f : Addr} {fd : FuncData} (F : Fun K "_need_place" "_need_place" s_need_place f fd) (B : Bl mg) : FnOk P w K mg base CX0 1 f fd ["place", "last"] (sp_need_place K) := by
  refine F.ok sc_need_place (fun vs H Q E h => ?_) (fun cdv A outer s H vs Q E hr h => ?_)
  · first
      | (obtain ⟨_, rfl, _⟩ := h; rfl)
      | (obtain ⟨_, _, rfl, _⟩ := h; rfl)
      | (obtain ⟨_, _, _, rfl, _⟩ := h; rfl)
      | (obtain ⟨_, _, _, _, rfl, _⟩ := h; rfl)
      | (obtain ⟨_, _, _, _, _, rfl, _⟩ := h; rfl)
      | (obtain ⟨_, _, _, _, _, _, rfl, _⟩ := h; rfl)
      | (obtain ⟨_, _, _, _, _, _, _, rfl, _⟩ := h; rfl)
      | (obtain ⟨_, _, _, _, _, _, _, _, rfl, _⟩ := h; rfl)
      | (obtain ⟨_, _, _, _, _, _, _, _, _, rfl, _⟩ := h; rfl)
      | (obtain ⟨_, _, _, _, _, _, _, _, _, _, rfl, _⟩ := h; rfl)
      | (obtain ⟨_, _, _, _, _, _, _, _, _, _, _, rfl, _⟩ := h; rfl)
      | (obtain ⟨_, _, _, _, _, _, _, _, _, _, _, _, rfl, _⟩ := h; rfl)
      | (obtain ⟨_, _, _, _, _, _, _, _, _, _, _, _, _, rfl, _⟩ := h; rfl)
      | (obtain ⟨_, _, _, _, _, _, _, _, _, _, _, _, _, _, rfl, _⟩ := h; rfl)
      | (obtain ⟨_, _, _, _, _, _, _, _, _, _, _, _, _, _, _, rfl, _⟩ := h; rfl)
      | (obtain ⟨_, _, _, _, _, _, _, _, _, _, _, _, _, _, _, _, rfl, _⟩ := h; rfl)
      | (obtain ⟨_, _, _, _, _, _, _, _, _, _, _, _, _, _, _, _, _, rfl, _⟩ := h; rfl)
  · obtain ⟨p, l, rfl, h1, h2, q⟩ := h
    refine ⟨_, 
  (pss_one (ps_if (PW.pt (pw_or (pt_cmpR op_lt (pv 0) pe_int (nomark _)) (pw_or1 (pt_cmpR op_gt (pv 0) (pv 1) (nomark _))))) 
    (pss_one (ps_never)) pss_nil)), ?_⟩
    walk_at "vc"
    rw [decide_eq_false (show ¬ p < 0 by omega)]
    walk_at "vc"
    rw [decide_eq_false (show ¬ l < p by omega)]
    walk_at "vc"
    exact q


theorem ok_need_sign {f : Addr} {fd : FuncData} (F : Fun K "_need_sign" "_need_sign" s_need_sign f fd) (B : Bl mg) : FnOk P w K mg base CX0 1 f fd ["sign", "letters"] (sp_need_sign K) := by
  refine F.ok sc_need_sign (fun vs H Q E h => ?_) (fun cdv A outer s H vs Q E hr h => ?_)
  · first
      | (obtain ⟨_, rfl, _⟩ := h; rfl)
      | (obtain ⟨_, _, rfl, _⟩ := h; rfl)
      | (obtain ⟨_, _, _, rfl, _⟩ := h; rfl)
      | (obtain ⟨_, _, _, _, rfl, _⟩ := h; rfl)
      | (obtain ⟨_, _, _, _, _, rfl, _⟩ := h; rfl)
      | (obtain ⟨_, _, _, _, _, _, rfl, _⟩ := h; rfl)
      | (obtain ⟨_, _, _, _, _, _, _, rfl, _⟩ := h; rfl)
      | (obtain ⟨_, _, _, _, _, _, _, _, rfl, _⟩ := h; rfl)
      | (obtain ⟨_, _, _, _, _, _, _, _, _, rfl, _⟩ := h; rfl)
      | (obtain ⟨_, _, _, _, _, _, _, _, _, _, rfl, _⟩ := h; rfl)
      | (obtain ⟨_, _, _, _, _, _, _, _, _, _, _, rfl, _⟩ := h; rfl)
      | (obtain ⟨_, _, _, _, _, _, _, _, _, _, _, _, rfl, _⟩ := h; rfl)
      | (obtain ⟨_, _, _, _, _, _, _, _, _, _, _, _, _, rfl, _⟩ := h; rfl)
      | (obtain ⟨_, _, _, _, _, _, _, _, _, _, _, _, _, _, rfl, _⟩ := h; rfl)
      | (obtain ⟨_, _, _, _, _, _, _, _, _, _, _, _, _, _, _, rfl, _⟩ := h; rfl)
      | (obtain ⟨_, _, _, _, _, _, _, _, _, _, _, _, _, _, _, _, rfl, _⟩ := h; rfl)
      | (obtain ⟨_, _, _, _, _, _, _, _, _, _, _, _, _, _, _, _, _, rfl, _⟩ := h; rfl)
  · obtain ⟨c, lets, rfl, hc, q⟩ := h
    have l1 : ((S [c]).length : Int) = 1 := rfl
    have z1 : (S [c]).length ≤ sizeLine := hp_sz (show 1 ≤ _ by omega)
    refine ⟨_, 
  (pss_one (ps_if (PW.pt (pw_or (pt_cmpR op_ne (pe_callB call_len_str (by rfl) B.m_len PySem.boot_len (pa_cons (pv 0) pa_nil)) pe_int (nomark _)) (pw_or1 (pt_cmpR op_notIn_sign (pv 0) (pv 1) (by rfl))))) 
    (pss_one (ps_never)) pss_nil)), ?_⟩
    walk_at "vc"
    rw [l1, decide_eq_true rfl]
    walk_at "vc"
    refine ⟨c, _, rfl, rfl, ?_⟩
    rw [show decide (c ∈ (S lets).cps.toList) = true from decide_eq_true hc]
    walk_at "vc"
    exact q


theorem ok_windows_over {f : Addr} {fd : FuncData} (F : Fun K "_windows_over" "_windows_over" s_windows_over f fd) (B : Bl mg) : FnOk P w K mg base CX0 1 f fd ["seeds", "length", "first", "last"] (sp_windows_over K) := by
  refine F.ok sc_windows_over (fun vs H Q E h => ?_) (fun cdv A outer s H vs Q E hr h => ?_)
  · first
      | (obtain ⟨_, rfl, _⟩ := h; rfl)
      | (obtain ⟨_, _, rfl, _⟩ := h; rfl)
      | (obtain ⟨_, _, _, rfl, _⟩ := h; rfl)
      | (obtain ⟨_, _, _, _, rfl, _⟩ := h; rfl)
      | (obtain ⟨_, _, _, _, _, rfl, _⟩ := h; rfl)
      | (obtain ⟨_, _, _, _, _, _, rfl, _⟩ := h; rfl)
      | (obtain ⟨_, _, _, _, _, _, _, rfl, _⟩ := h; rfl)
      | (obtain ⟨_, _, _, _, _, _, _, _, rfl, _⟩ := h; rfl)
      | (obtain ⟨_, _, _, _, _, _, _, _, _, rfl, _⟩ := h; rfl)
      | (obtain ⟨_, _, _, _, _, _, _, _, _, _, rfl, _⟩ := h; rfl)
      | (obtain ⟨_, _, _, _, _, _, _, _, _, _, _, rfl, _⟩ := h; rfl)
      | (obtain ⟨_, _, _, _, _, _, _, _, _, _, _, _, rfl, _⟩ := h; rfl)
      | (obtain ⟨_, _, _, _, _, _, _, _, _, _, _, _, _, rfl, _⟩ := h; rfl)
      | (obtain ⟨_, _, _, _, _, _, _, _, _, _, _, _, _, _, rfl, _⟩ := h; rfl)
      | (obtain ⟨_, _, _, _, _, _, _, _, _, _, _, _, _, _, _, rfl, _⟩ := h; rfl)
      | (obtain ⟨_, _, _, _, _, _, _, _, _, _, _, _, _, _, _, _, rfl, _⟩ := h; rfl)
      | (obtain ⟨_, _, _, _, _, _, _, _, _, _, _, _, _, _, _, _, _, rfl, _⟩ := h; rfl)
  · obtain ⟨sp, sds, len, first, last, rfl, hsp, hsd, hsl, l0, l1, q⟩ := h
    refine ⟨_, 
  (pss_cons (ps_set (i := 4) sc_windows_over.nd rfl (.inl rfl) pe_int) 
  (pss_cons (ps_for PassesOwn.never rfl (pi_list (pv 0)) (pg_name (i := 5) sc_windows_over.nd rfl (.inl rfl)) 
    (pss_one (ps_for PassesOwn.never rfl (pi_range1 rfl B.m_range (pa_cons (pe_op op_add (pe_op op_sub (pv 1) (pe_callB call_len_str (by rfl) B.m_len PySem.boot_len (pa_cons (pv 5) pa_nil))) pe_int) pa_nil)) (pg_name (i := 6) sc_windows_over.nd rfl (.inl rfl)) 
      (pss_one (ps_if (PW.pt (pw_and (pt_cmpR op_le (pv 6) (pv 2) (nomark _)) (pw_and1 (pt_cmpR op_lt (pv 3) (pe_op op_add (pv 6) (pe_callB call_len_str (by rfl) B.m_len PySem.boot_len (pa_cons (pv 5) pa_nil))) (nomark _))))) 
        (pss_one (ps_aug (i := 4) sc_windows_over.nd rfl (.inl rfl) pe_int ip_add)) pss_nil))))) 
  (pss_one (ps_ret (pv 4))))), ?_⟩
    walk_at "vc"
    refine ⟨sp, rfl, ⟨_, hsp⟩, ?_⟩
    refine for_list (K := K) (a := sp) (xs := sds.map strV) (fun k σ H' => ∃ y5 y6, σ = [some (.ref sp), some (.int len), some (.int first), some (.int last), some (.int (ovS sds len first last k : Nat)), y5, y6] ∧ H' = H) ⟨_, _, rfl, rfl⟩ (fun k σ H' _ ⟨_, _, _, e⟩ => by rw [e]; exact hsp) ?_ ?_
    · rintro k x σ H1 hx ⟨y5, y6, rfl, rfl⟩
      have hk : k < sds.length := by
        have := (List.getElem?_eq_some_iff.mp hx).1
        rw [List.length_map] at this
        exact this
      have hkk : sds[k]? = some sds[k] := List.getElem?_eq_getElem hk
      have hsdk := hsd _ (List.getElem_mem hk)
      have ex : x = V.str (S sds[k]) := by
        rw [List.getElem?_map, hkk] at hx
        exact (Option.some.inj hx).symm
      subst ex
      rw [ovS_succ, hkk]
      show _ ; dsimp only [Option.getD_some]
      generalize sds[k] = sd at hsdk
      have hs8 := hsdk.most
      have ls : (S sd).length = sd.length := len_S sd
      have zsd : (S sd).length ≤ sizeLine := hp_sz (by omega)
      walk_at "vc"
      rw [ls]
      refine for_range (fun p σ H' => ∃ y6, σ = [some (.ref sp), some (.int len), some (.int first), some (.int last), some (.int ((ovS sds len first last k + ovP sd.length first last p : Nat) : Int)), some (.str (S sd)), y6] ∧ H' = H1) ⟨_, rfl, rfl⟩ ?_ ?_
      · rintro p σ H2 hp ⟨y6, rfl, rfl⟩
        rw [show (0 : Int) + (p : Int) = ((p : Nat) : Int) from Int.zero_add _, ovP_succ]
        walk_at "vc"
        refine ite2 (fun e => ?_) (fun e => ?_)
        · walk_at "vc"
          rw [ls]
          refine ite2 (fun e2 => ?_) (fun e2 => ?_)
          · walk_at "vc"
            rw [e, e2]
            exact ⟨_, by rw [show (((ovS sds len first last k + ovP sd.length first last p : Nat) : Int) + 1) = ((ovS sds len first last k + (ovP sd.length first last p + if (true && true) = true then 1 else 0) : Nat) : Int) from by simp; omega]; rfl, rfl⟩
          · walk_at "vc"
            rw [e, Bool.eq_false_iff.mpr e2]
            exact ⟨_, rfl, rfl⟩
        · walk_at "vc"
          rw [Bool.eq_false_iff.mpr e]
          exact ⟨_, rfl, rfl⟩
      · rintro σ H2 ⟨y6, rfl, rfl⟩
        exact ⟨_, _, rfl, rfl⟩
    · rintro σ H1 ⟨y5, y6, rfl, rfl⟩
      rw [List.length_map]
      walk_at "vc"
      exact q


theorem okShelf__row_of {f : Addr} {fd : FuncData} {cShelf fiShelf : Addr} (F : Fun K "_row_of" "Shelf._row_of" sShelf__row_of f fd) (B : Bl mg) (TShelf : KlShelf K mg cShelf fiShelf) : FnOk P w K mg base CX0 1 f fd ["self", "number"] (spShelf__row_of K cShelf) := by
  refine F.ok scShelf__row_of (fun vs H Q E h => ?_) (fun cdv A outer s H vs Q E hr h => ?_)
  · first
      | (obtain ⟨_, rfl, _⟩ := h; rfl)
      | (obtain ⟨_, _, rfl, _⟩ := h; rfl)
      | (obtain ⟨_, _, _, rfl, _⟩ := h; rfl)
      | (obtain ⟨_, _, _, _, rfl, _⟩ := h; rfl)
      | (obtain ⟨_, _, _, _, _, rfl, _⟩ := h; rfl)
      | (obtain ⟨_, _, _, _, _, _, rfl, _⟩ := h; rfl)
      | (obtain ⟨_, _, _, _, _, _, _, rfl, _⟩ := h; rfl)
      | (obtain ⟨_, _, _, _, _, _, _, _, rfl, _⟩ := h; rfl)
      | (obtain ⟨_, _, _, _, _, _, _, _, _, rfl, _⟩ := h; rfl)
      | (obtain ⟨_, _, _, _, _, _, _, _, _, _, rfl, _⟩ := h; rfl)
      | (obtain ⟨_, _, _, _, _, _, _, _, _, _, _, rfl, _⟩ := h; rfl)
      | (obtain ⟨_, _, _, _, _, _, _, _, _, _, _, _, rfl, _⟩ := h; rfl)
      | (obtain ⟨_, _, _, _, _, _, _, _, _, _, _, _, _, rfl, _⟩ := h; rfl)
      | (obtain ⟨_, _, _, _, _, _, _, _, _, _, _, _, _, _, rfl, _⟩ := h; rfl)
      | (obtain ⟨_, _, _, _, _, _, _, _, _, _, _, _, _, _, _, rfl, _⟩ := h; rfl)
      | (obtain ⟨_, _, _, _, _, _, _, _, _, _, _, _, _, _, _, _, rfl, _⟩ := h; rfl)
      | (obtain ⟨_, _, _, _, _, _, _, _, _, _, _, _, _, _, _, _, _, rfl, _⟩ := h; rfl)
  · obtain ⟨p, foot, s, n, rfl, hs, hn, q⟩ := h
    obtain ⟨dx, sc, sq, lp, kp, e1, ef, nn, e2, e3, e4, e5⟩ := hs.ob
    refine ⟨_, 
  (pss_cons (ps_if (PW.pt (pw_or (pt_cmpR op_lt (pv 1) pe_int (nomark _)) (pw_or1 (pt_cmpR op_ge (pv 1) (pe_callB call_len_seq (by rfl) B.m_len PySem.boot_len (pa_cons (pe_fld (pv 0) rfl) pa_nil)) (nomark _))))) 
    (pss_one (ps_never)) pss_nil) 
  (pss_one (ps_ret (pe_ix ix_list (pe_fld (pv 0) rfl) (pv 1) (fun _ _ => rfl))))), ?_⟩
    walk_at "vc"
    rw [decide_eq_false (show ¬ ((n : Nat) : Int) < 0 by omega)]
    walk_at "vc"
    refine ⟨p, _, dx, _, _, rfl, e1, TShelf.cl, TShelf.n_laid, fl5_laid _ _ _ _ _, ?_⟩
    walk_at "vc"
    rw [List.length_map, decide_eq_false (show ¬ ((s.rows.length : Nat) : Int) ≤ ((n : Nat) : Int) by omega)]
    walk_at "vc"
    refine ⟨p, _, dx, _, _, rfl, e1, TShelf.cl, TShelf.n_laid, fl5_laid _ _ _ _ _, ?_⟩
    walk_at "vc"
    refine x_ixL (v := .str (S (s.rows[n]?.getD []))) (SqL.of e5) (atI_nat (by rw [List.getElem?_map, List.getElem?_eq_getElem hn]; rfl)) ?_
    exact q


theorem okShelf_change {f : Addr} {fd : FuncData} {cShelf fiShelf : Addr} {f_need_place : Addr} {fd_need_place : FuncData} {f_need_sign : Addr} {fd_need_sign : FuncData} {f_windows_over : Addr} {fd_windows_over : FuncData} {fShelf__row_of : Addr} {fdShelf__row_of : FuncData} (F : Fun K "change" "Shelf.change" sShelf_change f fd) (B : Bl mg) (TShelf : KlShelf K mg cShelf fiShelf) (D_need_place : Dn P w K mg base "_need_place" 1 ["place", "last"] (sp_need_place K) f_need_place fd_need_place) (D_need_sign : Dn P w K mg base "_need_sign" 1 ["sign", "letters"] (sp_need_sign K) f_need_sign fd_need_sign) (D_windows_over : Dn P w K mg base "_windows_over" 1 ["seeds", "length", "first", "last"] (sp_windows_over K) f_windows_over fd_windows_over) (DShelf__row_of : Dm P w K mg base cShelf "_row_of" 1 ["self", "number"] (spShelf__row_of K cShelf) fShelf__row_of fdShelf__row_of) : FnOk P w K mg base CX0 2 f fd ["self", "number", "place", "sign"] (spShelf_change K cShelf) := by
  refine F.ok scShelf_change (fun vs H Q E h => ?_) (fun cdv A outer s H vs Q E hr h => ?_)
  · first
      | (obtain ⟨_, rfl, _⟩ := h; rfl)
      | (obtain ⟨_, _, rfl, _⟩ := h; rfl)
      | (obtain ⟨_, _, _, rfl, _⟩ := h; rfl)
      | (obtain ⟨_, _, _, _, rfl, _⟩ := h; rfl)
      | (obtain ⟨_, _, _, _, _, rfl, _⟩ := h; rfl)
      | (obtain ⟨_, _, _, _, _, _, rfl, _⟩ := h; rfl)
      | (obtain ⟨_, _, _, _, _, _, _, rfl, _⟩ := h; rfl)
      | (obtain ⟨_, _, _, _, _, _, _, _, rfl, _⟩ := h; rfl)
      | (obtain ⟨_, _, _, _, _, _, _, _, _, rfl, _⟩ := h; rfl)
      | (obtain ⟨_, _, _, _, _, _, _, _, _, _, rfl, _⟩ := h; rfl)
      | (obtain ⟨_, _, _, _, _, _, _, _, _, _, _, rfl, _⟩ := h; rfl)
      | (obtain ⟨_, _, _, _, _, _, _, _, _, _, _, _, rfl, _⟩ := h; rfl)
      | (obtain ⟨_, _, _, _, _, _, _, _, _, _, _, _, _, rfl, _⟩ := h; rfl)
      | (obtain ⟨_, _, _, _, _, _, _, _, _, _, _, _, _, _, rfl, _⟩ := h; rfl)
      | (obtain ⟨_, _, _, _, _, _, _, _, _, _, _, _, _, _, _, rfl, _⟩ := h; rfl)
      | (obtain ⟨_, _, _, _, _, _, _, _, _, _, _, _, _, _, _, _, rfl, _⟩ := h; rfl)
      | (obtain ⟨_, _, _, _, _, _, _, _, _, _, _, _, _, _, _, _, _, rfl, _⟩ := h; rfl)
  · obtain ⟨p, foot, s, n, pl, c, rfl, hs, hn, hpl, hc, hr60, q⟩ := h
    have hs0 := hs
    obtain ⟨dx, sc, sq, lp, kp, e1, rfl, nn, e2, e3, e4, e5⟩ := hs.ob
    have hok := hs.ok
    have nkp : kp ≠ p := fun e => by rw [e, e1] at e5; cases e5
    have zr : (S (s.rows[n]?.getD [])).length ≤ sizeLine := hp_sz (by rw [len_S]; omega)
    have lr : (S (s.rows[n]?.getD [])).length = (s.rows[n]?.getD []).length := len_S _
    refine ⟨_, 
  (pss_cons (ps_set (i := 4) scShelf_change.nd rfl (.inl rfl) (pe_meth (pv 0) TShelf.cl DShelf__row_of.mt DShelf__row_of.ok hr DShelf__row_of.b .nil pass0 (pa_cons (pv 1) pa_nil))) 
  (pss_cons (ps_expr (pe_call D_need_place.ok hr (by rfl) D_need_place.g D_need_place.kp D_need_place.b .nil pass0 (pa_cons (pv 2) (pa_cons (pe_op op_sub (pe_callB call_len_str (by rfl) B.m_len PySem.boot_len (pa_cons (pv 4) pa_nil)) pe_int) pa_nil)))) 
  (pss_cons (ps_expr (pe_call D_need_sign.ok hr (by rfl) D_need_sign.g D_need_sign.kp D_need_sign.b .nil pass0 (pa_cons (pv 3) (pa_cons (pe_fld (pv 0) rfl) pa_nil)))) 
  (pss_cons (ps_asg (pe_op op_add_str (pe_op op_add_str (pe_slice sl_str (pv 4) po_none (po_some (pv 2))) (pv 3)) (pe_slice sl_str (pv 4) (po_some (pe_op op_add (pv 2) pe_int)) po_none)) (pg_sub (pe_fld (pv 0) rfl) (pv 1) set_list)) 
  (pss_cons (ps_set (i := 5) scShelf_change.nd rfl (.inl rfl) (pe_call D_windows_over.ok hr (by rfl) D_windows_over.g D_windows_over.kp D_windows_over.b .nil pass0 (pa_cons (pe_fld (pv 0) rfl) (pa_cons (pe_callB call_len_str (by rfl) B.m_len PySem.boot_len (pa_cons (pv 4) pa_nil)) (pa_cons (pv 2) (pa_cons (pv 2) pa_nil)))))) 
  (pss_one (ps_ret (pe_tup (pa_cons (pv 5) (pa_cons (pv 5) pa_nil)))))))))), ?_⟩
    walk_at "vc"
    refine ⟨p, dx, _, rfl, e1, fl5_row_of _ _ _ _ _, ?_⟩
    walk_at "vc"
    refine ⟨p, _, s, n, rfl, hs, hn, ?_⟩
    generalize hr : s.rows[n]?.getD [] = r at *
    walk_at "vc"
    rw [lr]
    refine ⟨_, _, rfl, by omega, by omega, ?_⟩
    walk_at "vc"
    refine ⟨p, _, dx, _, _, rfl, e1, TShelf.cl, TShelf.n_letters, fl5_letters _ _ _ _ _, ?_⟩
    walk_at "vc"
    refine ⟨c, s.lets, rfl, hc, ?_⟩
    walk_at "vc"
    refine x_slS zr ?_
    rw [cutS_take]
    walk_at "vc"
    refine ⟨S (r.take pl), S [c], rfl, rfl, hp_sz (by rw [len_S, len_S, List.length_take]; show _ + 1 ≤ _; omega), ?_⟩
    rw [S_app]
    walk_at "vc"
    refine x_slS zr ?_
    rw [show ((pl : Nat) : Int) + 1 = ((pl + 1 : Nat) : Int) by omega, cutS_drop]
    refine ⟨S (r.take pl ++ [c]), S (r.drop (pl + 1)), rfl, rfl, hp_sz (by rw [len_S, len_S, List.length_append, List.length_take, List.length_drop]; show _ + 1 + _ ≤ _; omega), ?_⟩
    rw [S_app, show r.take pl ++ [c] ++ r.drop (pl + 1) = chg r pl c from rfl]
    walk_at "vc"
    refine ⟨p, _, dx, _, _, rfl, e1, TShelf.cl, TShelf.n_laid, fl5_laid _ _ _ _ _, ?_⟩
    walk_at "vc"
    refine x_setL e5 (by rw [List.length_map]; exact ixN_nat hn) ?_
    obtain ⟨sh2, fr2⟩ := hs0.setRow (n := n) (z := chg r pl c) e5 (by simp) ⟨_, _, _, _, e1⟩
    generalize upd H kp (.lst ((s.rows.map strV).set n (.str (S (chg r pl c))))) = H2 at sh2 fr2
    obtain ⟨dx', sc', sq', lp', kp', f1, ef, fn, f2, f3, f4, f5⟩ := sh2.ob
    walk_at "vc"
    refine ⟨p, _, dx', _, _, rfl, f1, TShelf.cl, TShelf.n_seeds, fl5_seeds _ _ _ _ _, ?_⟩
    walk_at "vc"
    rw [lr]
    refine ⟨sq', s.sds, _, _, _, rfl, SqL.of f3, hok.sd, hok.three, by omega, by omega, ?_⟩
    walk_at "vc"
    refine ⟨show 2 ≤ sizeLine by decide, fun t ht => ?_⟩
    have smt : Same H2 (upd H2 t (.tup [.int (over s.sds r.length pl pl : Nat), .int (over s.sds r.length pl pl : Nat)])) := same_upd ht
    have tn : ∀ b, b ∈ [p, sq, kp] → b ≠ t := fun b hb z => by
      obtain ⟨o, eo⟩ := sh2.here b hb
      rw [z, ht] at eo
      cases eo
    have hnt : H t = none := by
      cases e : H t with
      | none => rfl
      | some o =>
        have := fr2.1 t o e (fun hb => tn t hb rfl)
        rw [ht] at this; cases this
    exact q [p, sq, kp] _ t (sh2.same (fun b _ o e => smt b o e) fun b xs e => smt b _ e) ⟨fun b o e hb => smt _ _ (fr2.1 b o e hb), fun b xs e => smt _ _ (fr2.2 b xs e)⟩ (fun b hb => .inl hb) hnt (fun hb => tn t hb rfl) upd_same


theorem ok_law_next {f : Addr} {fd : FuncData} (F : Fun K "_law_next" "_law_next" s_law_next f fd) (B : Bl mg) : FnOk P w K mg base CX0 1 f fd ["_law_h", "_law_many"] (sp_law_next K) := by
  refine F.ok sc_law_next (fun vs H Q E h => ?_) (fun cdv A outer s H vs Q E hr h => ?_)
  · first
      | (obtain ⟨_, rfl, _⟩ := h; rfl)
      | (obtain ⟨_, _, rfl, _⟩ := h; rfl)
      | (obtain ⟨_, _, _, rfl, _⟩ := h; rfl)
      | (obtain ⟨_, _, _, _, rfl, _⟩ := h; rfl)
      | (obtain ⟨_, _, _, _, _, rfl, _⟩ := h; rfl)
      | (obtain ⟨_, _, _, _, _, _, rfl, _⟩ := h; rfl)
      | (obtain ⟨_, _, _, _, _, _, _, rfl, _⟩ := h; rfl)
      | (obtain ⟨_, _, _, _, _, _, _, _, rfl, _⟩ := h; rfl)
      | (obtain ⟨_, _, _, _, _, _, _, _, _, rfl, _⟩ := h; rfl)
      | (obtain ⟨_, _, _, _, _, _, _, _, _, _, rfl, _⟩ := h; rfl)
      | (obtain ⟨_, _, _, _, _, _, _, _, _, _, _, rfl, _⟩ := h; rfl)
      | (obtain ⟨_, _, _, _, _, _, _, _, _, _, _, _, rfl, _⟩ := h; rfl)
      | (obtain ⟨_, _, _, _, _, _, _, _, _, _, _, _, _, rfl, _⟩ := h; rfl)
      | (obtain ⟨_, _, _, _, _, _, _, _, _, _, _, _, _, _, rfl, _⟩ := h; rfl)
      | (obtain ⟨_, _, _, _, _, _, _, _, _, _, _, _, _, _, _, rfl, _⟩ := h; rfl)
      | (obtain ⟨_, _, _, _, _, _, _, _, _, _, _, _, _, _, _, _, rfl, _⟩ := h; rfl)
      | (obtain ⟨_, _, _, _, _, _, _, _, _, _, _, _, _, _, _, _, _, rfl, _⟩ := h; rfl)
  · obtain ⟨a, b, m, rfl, ⟨nab, s0, i0, cs, ha, hb, hcs⟩, hm, hm2, q⟩ := h
    refine ⟨_, 
  (pss_cons (ps_set (i := 2) sc_law_next.nd rfl (.inl rfl) (pe_op op_mod (pe_ix ix_list (pv 0) pe_int (fun _ _ => rfl)) (pe_callB (call_max2 rfl) (by rfl) B.m_max (by decide +kernel) (pa_cons pe_int (pa_cons (pe_callB call_len_seq (by rfl) B.m_len PySem.boot_len (pa_cons (pe_ix ix_list (pv 0) pe_int (fun _ _ => rfl)) pa_nil)) pa_nil))))) 
  (pss_cons (ps_set (i := 3) sc_law_next.nd rfl (.inl rfl) (pe_ifExp (pt_cmpR (op_neD hr.units) (pe_ix ix_list (pv 0) pe_int (fun _ _ => rfl)) (pe_lst pa_nil) (nomark _)) (pe_ix ix_list (pe_ix ix_list (pv 0) pe_int (fun _ _ => rfl)) (pv 2) (fun _ _ => rfl)) pe_int)) 
  (pss_cons (ps_if (pt_cmpR op_ge (pv 3) (pe_op op_pow pe_int pe_int) (nomark _)) 
    (pss_cons (ps_asg (pe_op op_fdiv (pv 3) (pv 1)) (pg_sub (pe_ix ix_list (pv 0) pe_int (fun _ _ => rfl)) (pv 2) set_list)) 
    (pss_one (ps_ret (pe_op op_mod (pv 3) (pv 1))))) pss_nil) 
  (pss_cons (ps_asg (pe_op op_mod (pe_op op_add (pe_op op_add (pe_op op_mul (pe_ix ix_list (pv 0) pe_int (fun _ _ => rfl)) pe_int) (pe_op op_mul (pv 3) pe_int)) pe_int) pe_int) (pg_sub (pv 0) pe_int set_list)) 
  (pss_cons (ps_asg (pe_op op_add (pe_ix ix_list (pv 0) pe_int (fun _ _ => rfl)) pe_int) (pg_sub (pv 0) pe_int set_list)) 
  (pss_one (ps_ret (pe_op op_mod (pe_op op_fdiv (pe_ix ix_list (pv 0) pe_int (fun _ _ => rfl)) pe_int) (pv 1))))))))), ?_⟩
    walk_at "vc"
    refine ⟨by decide, fun p hp => ?_⟩
    have kp : Kp a b H (upd H p (.lst [])) := Kp.new hp
    have ha1 : upd H p (.lst []) a = some (HO.lst [V.int s0, V.ref b, V.int i0]) := by rw [upd_ne (ne_of_none ha hp)]; exact ha
    have hb1 : upd H p (.lst []) b = some (HO.lst (List.map V.int cs)) := by rw [upd_ne (ne_of_none hb hp)]; exact hb
    have hp1 : upd H p (.lst []) p = some (HO.lst []) := upd_same
    generalize upd H p (.lst []) = H1 at kp ha1 hb1 hp1
    refine ⟨.list (cs.map PyData.int), .list [], .lst (SqL.of hb1) (dp_ints cs), .lst (SqL.of hp1) .nil, shaped_ints cs, by decide +kernel, ?_⟩
    have hat : ∃ at_ : Int, (i0 % if ((cs.map V.int).length : Int) > 1 then ((cs.map V.int).length : Int) else 1) = at_ ∧ 0 ≤ at_ ∧ (cs ≠ [] → at_ < (cs.length : Int)) := by
      refine ⟨_, rfl, Int.emod_nonneg _ (by split <;> omega), fun hne => ?_⟩
      have hl : 0 < cs.length := List.length_pos_iff.mpr hne
      rw [List.length_map]
      by_cases h1 : (cs.length : Int) > 1
      · rw [if_pos h1]
        exact Int.emod_lt_of_pos _ (by omega)
      · rw [if_neg h1]
        have := Int.emod_lt_of_pos i0 (show (0 : Int) < 1 by omega)
        omega
    obtain ⟨at_, eat, hat0, hat1⟩ := hat
    rw [eat]
    rw [eqv_ints_nil]
    walk_at "vc"
    by_cases hne : cs = []
    · subst hne
      refine iteF ?_
      walk_at "vc"
      refine ite2 (fun e => absurd (of_decide_eq_true e) (by decide)) (fun e => ?_)
      walk_at "vc"
      refine q _ _ (Int.emod_nonneg _ (by omega)) (Int.emod_lt_of_pos _ hm) ⟨nab, _, _, [], upd_same, ?_, by decide⟩ (kp.trans (Kp.at_a.trans Kp.at_a))
      walk_at "hp"
    · have hb0 : (!cs.isEmpty) = true := by
        cases cs with
        | nil => exact absurd rfl hne
        | cons _ _ => rfl
      rw [hb0]
      refine iteT ?_
      have hl : at_.toNat < cs.length := by have := hat1 hne; omega
      have hix : atI (cs.map V.int) at_ = some (.int cs[at_.toNat]) := atI_of hat0 (ints_at hl)
      have hix2 : ixN (cs.map V.int).length at_ = some at_.toNat := ixN_of hat0 (by rw [List.length_map]; exact hat1 hne)
      walk_at "vc"
      refine ite2 (fun e => ?_) (fun e => ?_)
      · walk_at "vc"
        refine q _ _ (Int.emod_nonneg _ (by omega)) (Int.emod_lt_of_pos _ hm) ⟨nab, s0, i0, cs.set at_.toNat (cs[at_.toNat] / m), ?_, ?_, by rw [List.length_set]; exact hcs⟩ (kp.trans Kp.at_b)
        · walk_at "hp"
        · rw [← map_set_int]
          exact upd_same
      · walk_at "vc"
        refine q _ _ (Int.emod_nonneg _ (by omega)) (Int.emod_lt_of_pos _ hm) ⟨nab, _, _, cs, upd_same, ?_, hcs⟩ (kp.trans (Kp.at_a.trans Kp.at_a))
        walk_at "hp"


theorem ok_law_letters {f : Addr} {fd : FuncData} {f_law_next : Addr} {fd_law_next : FuncData} (F : Fun K "_law_letters" "_law_letters" s_law_letters f fd) (B : Bl mg) (D_law_next : Dn P w K mg base "_law_next" 1 ["_law_h", "_law_many"] (sp_law_next K) f_law_next fd_law_next) : FnOk P w K mg base CX0 2 f fd ["_law_h"] (sp_law_letters K) := by
  refine F.ok sc_law_letters (fun vs H Q E h => ?_) (fun cdv A outer s H vs Q E hr h => ?_)
  · first
      | (obtain ⟨_, rfl, _⟩ := h; rfl)
      | (obtain ⟨_, _, rfl, _⟩ := h; rfl)
      | (obtain ⟨_, _, _, rfl, _⟩ := h; rfl)
      | (obtain ⟨_, _, _, _, rfl, _⟩ := h; rfl)
      | (obtain ⟨_, _, _, _, _, rfl, _⟩ := h; rfl)
      | (obtain ⟨_, _, _, _, _, _, rfl, _⟩ := h; rfl)
      | (obtain ⟨_, _, _, _, _, _, _, rfl, _⟩ := h; rfl)
      | (obtain ⟨_, _, _, _, _, _, _, _, rfl, _⟩ := h; rfl)
      | (obtain ⟨_, _, _, _, _, _, _, _, _, rfl, _⟩ := h; rfl)
      | (obtain ⟨_, _, _, _, _, _, _, _, _, _, rfl, _⟩ := h; rfl)
      | (obtain ⟨_, _, _, _, _, _, _, _, _, _, _, rfl, _⟩ := h; rfl)
      | (obtain ⟨_, _, _, _, _, _, _, _, _, _, _, _, rfl, _⟩ := h; rfl)
      | (obtain ⟨_, _, _, _, _, _, _, _, _, _, _, _, _, rfl, _⟩ := h; rfl)
      | (obtain ⟨_, _, _, _, _, _, _, _, _, _, _, _, _, _, rfl, _⟩ := h; rfl)
      | (obtain ⟨_, _, _, _, _, _, _, _, _, _, _, _, _, _, _, rfl, _⟩ := h; rfl)
      | (obtain ⟨_, _, _, _, _, _, _, _, _, _, _, _, _, _, _, _, rfl, _⟩ := h; rfl)
      | (obtain ⟨_, _, _, _, _, _, _, _, _, _, _, _, _, _, _, _, _, rfl, _⟩ := h; rfl)
  · obtain ⟨a, b, rfl, hs, q⟩ := h
    refine ⟨_, 
  (pss_cons (ps_set (i := 1) sc_law_letters.nd rfl (.inr rfl) (pe_call D_law_next.ok hr (by rfl) D_law_next.g D_law_next.kp D_law_next.b .nil pass0 (pa_cons (pv 0) (pa_cons pe_int pa_nil)))) 
  (pss_one (ps_ret (pe_join pe_str (pe_lc (own := [("_law_k", 2)]) (g := gName 2) (tt := tYes) rfl sc_law_letters.nd (pi_range1 rfl B.m_range (pa_cons (pe_op op_add pe_int (pe_call D_law_next.ok hr (by rfl) D_law_next.g D_law_next.kp D_law_next.b .nil pass0 (pa_cons (pv 0) (pa_cons pe_int pa_nil)))) pa_nil)) (blkOk_by (N := n_law_letters) (sc := defScope s_law_letters) (by decide +kernel)) (fun _ _ _ _ _ => (pg_name (i := 2) sc_law_letters.nd rfl (.inl rfl))) (fun _ _ _ _ _ => pts_nil) (fun _ _ _ _ _ => (pe_ix ix_str pe_str (pe_op op_mod (pe_op op_add (pv 1) (pe_op op_mul pe_int (pv 2))) pe_int) (fun _ _ => rfl)))))))), ?_⟩
    walk_at "vc"
    refine ⟨a, b, 26, rfl, hs, by omega, by omega, fun r H1 r0 r1 hs1 k1 => ?_⟩
    walk_at "vc"
    refine ⟨a, b, 5, rfl, hs1, by omega, by omega, fun r' H2 r2 r3 hs2 k2 => ?_⟩
    walk_at "vc"
    intro D hD
    have hf : ∀ i, i < (2 + r').toNat → atI (("abcdefghijklmnopqrstuvwxyz" : Str).cps.toList) ((r + 7 * (0 + (i : Int))) % 26) = some (97 + (r.toNat + 7 * i) % 26) := fun i hi => by
      have e : (r + 7 * (0 + (i : Int))) % 26 = (((r.toNat + 7 * i) % 26 : Nat) : Int) := by omega
      rw [e]
      refine atI_nat ?_
      have h : (r.toNat + 7 * i) % 26 < 26 := Nat.mod_lt _ (by decide)
      generalize (r.toNat + 7 * i) % 26 = j at h
      have e2 : ("abcdefghijklmnopqrstuvwxyz" : Str).cps.toList = (List.range 26).map (97 + ·) := by decide +kernel
      rw [e2, List.getElem?_map, List.getElem?_range h]
      rfl
    refine lc_range (fun i H' => Same H2 H' ∧ H' D = some (.lst ((List.range i).map fun k => V.str (sg (97 + (r.toNat + 7 * k) % 26))))) ⟨same_upd hD, upd_same⟩ (fun i H' hi h => ?_) (fun H' h => ?_)
    · walk_at "vc"
      refine ⟨rfl, ?_⟩
      walk_at "vc"
      refine x_ixS (by decide +kernel) (hf i hi) ?_
      exact pv_step hD h.1 h.2 (by omega) rfl
    · refine join_end (cs := letL r.toNat (2 + r').toNat) ?_ (by rw [letL_len]; omega) ?_
      · rw [h.2]
        unfold letL
        rw [List.map_map]
        rfl
      · refine q r.toNat (2 + r').toNat H' (by omega) (by omega) (by omega) ?_ (k1.trans (k2.trans (Kp.of h.1)))
        obtain ⟨n, s, i, cs, h1, h2, h3⟩ := hs2
        exact ⟨n, s, i, cs, h.1 _ _ h1, h.1 _ _ h2, h3⟩


theorem ok_law_row {f : Addr} {fd : FuncData} {f_law_next : Addr} {fd_law_next : FuncData} (F : Fun K "_law_row" "_law_row" s_law_row f fd) (B : Bl mg) (D_law_next : Dn P w K mg base "_law_next" 1 ["_law_h", "_law_many"] (sp_law_next K) f_law_next fd_law_next) : FnOk P w K mg base CX0 2 f fd ["_law_h", "_law_letters_here", "_law_most"] (sp_law_row K) := by
  refine F.ok sc_law_row (fun vs H Q E h => ?_) (fun cdv A outer s H vs Q E hr h => ?_)
  · first
      | (obtain ⟨_, rfl, _⟩ := h; rfl)
      | (obtain ⟨_, _, rfl, _⟩ := h; rfl)
      | (obtain ⟨_, _, _, rfl, _⟩ := h; rfl)
      | (obtain ⟨_, _, _, _, rfl, _⟩ := h; rfl)
      | (obtain ⟨_, _, _, _, _, rfl, _⟩ := h; rfl)
      | (obtain ⟨_, _, _, _, _, _, rfl, _⟩ := h; rfl)
      | (obtain ⟨_, _, _, _, _, _, _, rfl, _⟩ := h; rfl)
      | (obtain ⟨_, _, _, _, _, _, _, _, rfl, _⟩ := h; rfl)
      | (obtain ⟨_, _, _, _, _, _, _, _, _, rfl, _⟩ := h; rfl)
      | (obtain ⟨_, _, _, _, _, _, _, _, _, _, rfl, _⟩ := h; rfl)
      | (obtain ⟨_, _, _, _, _, _, _, _, _, _, _, rfl, _⟩ := h; rfl)
      | (obtain ⟨_, _, _, _, _, _, _, _, _, _, _, _, rfl, _⟩ := h; rfl)
      | (obtain ⟨_, _, _, _, _, _, _, _, _, _, _, _, _, rfl, _⟩ := h; rfl)
      | (obtain ⟨_, _, _, _, _, _, _, _, _, _, _, _, _, _, rfl, _⟩ := h; rfl)
      | (obtain ⟨_, _, _, _, _, _, _, _, _, _, _, _, _, _, _, rfl, _⟩ := h; rfl)
      | (obtain ⟨_, _, _, _, _, _, _, _, _, _, _, _, _, _, _, _, rfl, _⟩ := h; rfl)
      | (obtain ⟨_, _, _, _, _, _, _, _, _, _, _, _, _, _, _, _, _, rfl, _⟩ := h; rfl)
  · obtain ⟨a, b, l, m, rfl, hs, hl0, hl1, hm0, hm1, q⟩ := h
    have el : (S l).length = l.length := len_S l
    have hl : (S l).length ≤ sizeLine := hp_sz (by omega)
    refine ⟨_, 
  (pss_one (ps_ret (pe_join pe_str (pe_lc (own := [("_law_k", 3)]) (g := gName 3) (tt := tYes) rfl sc_law_row.nd (pi_range1 rfl B.m_range (pa_cons (pe_call D_law_next.ok hr (by rfl) D_law_next.g D_law_next.kp D_law_next.b .nil pass0 (pa_cons (pv 0) (pa_cons (pe_op op_add (pv 2) pe_int) pa_nil))) pa_nil)) (blkOk_by (N := n_law_row) (sc := defScope s_law_row) (by decide +kernel)) (fun _ _ _ _ _ => (pg_name (i := 3) sc_law_row.nd rfl (.inl rfl))) (fun _ _ _ _ _ => pts_nil) (fun _ _ _ _ _ => (pe_ix ix_str (pv 1) (pe_call D_law_next.ok hr (by rfl) D_law_next.g D_law_next.kp D_law_next.b .nil pass0 (pa_cons (pv 0) (pa_cons (pe_callB call_len_str (by rfl) B.m_len PySem.boot_len (pa_cons (pv 1) pa_nil)) pa_nil))) (fun _ _ => rfl))))))), ?_⟩
    walk_at "vc"
    refine ⟨a, b, m + 1, rfl, hs, by omega, by omega, fun r H1 r0 r1 hs1 k1 => ?_⟩
    walk_at "vc"
    intro D hD
    refine lc_range (fun i H' => Dr a b H1 D (fun c => c ∈ l) i H') (Dr.start hs1 hD) (fun i H' hi h => ?_) (fun H' h => ?_)
    · walk_at "vc"
      refine ⟨rfl, ?_⟩
      walk_at "vc"
      have hsd : Src H' a b := by obtain ⟨_, _, _, x, _⟩ := h; exact x
      refine ⟨a, b, ((S l).length : Nat), rfl, hsd, by omega, by omega, fun r' H2 r2 r3 hs2 k2 => ?_⟩
      have hr' : r'.toNat < l.length := by omega
      refine x_ixS hl (atI_of r2 (List.getElem?_eq_getElem hr')) ?_
      exact h.step hD hs1 (by omega) hs2 k2 (List.getElem_mem hr')
    · obtain ⟨cs, hcl, hok, hsd, kd, hDd⟩ := h
      refine join_end (cs := cs) hDd (by omega) ?_
      exact q cs H' (by omega) hok hsd (k1.trans kd)


theorem ok_law_scale {f : Addr} {fd : FuncData} {f_law_next : Addr} {fd_law_next : FuncData} (F : Fun K "_law_scale" "_law_scale" s_law_scale f fd) (B : Bl mg) (D_law_next : Dn P w K mg base "_law_next" 1 ["_law_h", "_law_many"] (sp_law_next K) f_law_next fd_law_next) : FnOk P w K mg base CX0 2 f fd ["_law_h"] (sp_law_scale K) := by
  refine F.ok sc_law_scale (fun vs H Q E h => ?_) (fun cdv A outer s H vs Q E hr h => ?_)
  · first
      | (obtain ⟨_, rfl, _⟩ := h; rfl)
      | (obtain ⟨_, _, rfl, _⟩ := h; rfl)
      | (obtain ⟨_, _, _, rfl, _⟩ := h; rfl)
      | (obtain ⟨_, _, _, _, rfl, _⟩ := h; rfl)
      | (obtain ⟨_, _, _, _, _, rfl, _⟩ := h; rfl)
      | (obtain ⟨_, _, _, _, _, _, rfl, _⟩ := h; rfl)
      | (obtain ⟨_, _, _, _, _, _, _, rfl, _⟩ := h; rfl)
      | (obtain ⟨_, _, _, _, _, _, _, _, rfl, _⟩ := h; rfl)
      | (obtain ⟨_, _, _, _, _, _, _, _, _, rfl, _⟩ := h; rfl)
      | (obtain ⟨_, _, _, _, _, _, _, _, _, _, rfl, _⟩ := h; rfl)
      | (obtain ⟨_, _, _, _, _, _, _, _, _, _, _, rfl, _⟩ := h; rfl)
      | (obtain ⟨_, _, _, _, _, _, _, _, _, _, _, _, rfl, _⟩ := h; rfl)
      | (obtain ⟨_, _, _, _, _, _, _, _, _, _, _, _, _, rfl, _⟩ := h; rfl)
      | (obtain ⟨_, _, _, _, _, _, _, _, _, _, _, _, _, _, rfl, _⟩ := h; rfl)
      | (obtain ⟨_, _, _, _, _, _, _, _, _, _, _, _, _, _, _, rfl, _⟩ := h; rfl)
      | (obtain ⟨_, _, _, _, _, _, _, _, _, _, _, _, _, _, _, _, rfl, _⟩ := h; rfl)
      | (obtain ⟨_, _, _, _, _, _, _, _, _, _, _, _, _, _, _, _, _, rfl, _⟩ := h; rfl)
  · obtain ⟨a, b, rfl, hs, q⟩ := h
    refine ⟨_, 
  (pss_one (ps_ret (pe_tup (pa_cons (pe_op op_add pe_int (pe_call D_law_next.ok hr (by rfl) D_law_next.g D_law_next.kp D_law_next.b .nil pass0 (pa_cons (pv 0) (pa_cons (pe_ix ix_list (pe_lst (pa_cons pe_int (pa_cons pe_int pa_nil))) (pe_call D_law_next.ok hr (by rfl) D_law_next.g D_law_next.kp D_law_next.b .nil pass0 (pa_cons (pv 0) (pa_cons pe_int pa_nil))) (fun _ _ => rfl)) pa_nil)))) (pa_cons (pe_op op_add pe_int (pe_call D_law_next.ok hr (by rfl) D_law_next.g D_law_next.kp D_law_next.b .nil pass0 (pa_cons (pv 0) (pa_cons pe_int pa_nil)))) pa_nil))))), ?_⟩
    walk_at "vc"
    refine ⟨by decide, fun p hp => ?_⟩
    walk_at "vc"
    refine ⟨a, b, 2, rfl, hs.new hp, by omega, by omega, fun r H1 r0 r1 hs1 k1 => ?_⟩
    have hp1 : H1 p = some (.lst [.int 9, .int 3]) := k1 p _ (hs.ne_a hp) (hs.ne_b hp) upd_same
    have key : ∃ m : Int, atI [V.int 9, V.int 3] r = some (.int m) ∧ 0 < m ∧ m ≤ 9 := by
      have : r = 0 ∨ r = 1 := by omega
      rcases this with rfl | rfl
      · exact ⟨9, rfl, by omega, by omega⟩
      · exact ⟨3, rfl, by omega, by omega⟩
    obtain ⟨m, em, m0, m1⟩ := key
    walk_at "vc"
    refine ⟨a, b, m, rfl, hs1, by omega, by omega, fun r' H2 r2 r3 hs2 k2 => ?_⟩
    walk_at "vc"
    refine ⟨a, b, 9, rfl, hs2, by omega, by omega, fun r'' H3 r4 r5 hs3 k3 => ?_⟩
    walk_at "vc"
    refine ⟨show 2 ≤ sizeLine by decide, fun t ht => ?_⟩
    exact q _ _ t _ (by omega) (by omega) (by omega) (by omega) upd_same (hs3.ne_a ht) (hs3.ne_b ht) (hs3.new ht) ((Kp.new hp).trans (k1.trans (k2.trans (k3.trans (Kp.new ht)))))


theorem ok_law_seed {f : Addr} {fd : FuncData} {f_law_next : Addr} {fd_law_next : FuncData} (F : Fun K "_law_seed" "_law_seed" s_law_seed f fd) (B : Bl mg) (D_law_next : Dn P w K mg base "_law_next" 1 ["_law_h", "_law_many"] (sp_law_next K) f_law_next fd_law_next) : FnOk P w K mg base CX0 2 f fd ["_law_h", "_law_most"] (sp_law_seed K) := by
  refine F.ok sc_law_seed (fun vs H Q E h => ?_) (fun cdv A outer s H vs Q E hr h => ?_)
  · first
      | (obtain ⟨_, rfl, _⟩ := h; rfl)
      | (obtain ⟨_, _, rfl, _⟩ := h; rfl)
      | (obtain ⟨_, _, _, rfl, _⟩ := h; rfl)
      | (obtain ⟨_, _, _, _, rfl, _⟩ := h; rfl)
      | (obtain ⟨_, _, _, _, _, rfl, _⟩ := h; rfl)
      | (obtain ⟨_, _, _, _, _, _, rfl, _⟩ := h; rfl)
      | (obtain ⟨_, _, _, _, _, _, _, rfl, _⟩ := h; rfl)
      | (obtain ⟨_, _, _, _, _, _, _, _, rfl, _⟩ := h; rfl)
      | (obtain ⟨_, _, _, _, _, _, _, _, _, rfl, _⟩ := h; rfl)
      | (obtain ⟨_, _, _, _, _, _, _, _, _, _, rfl, _⟩ := h; rfl)
      | (obtain ⟨_, _, _, _, _, _, _, _, _, _, _, rfl, _⟩ := h; rfl)
      | (obtain ⟨_, _, _, _, _, _, _, _, _, _, _, _, rfl, _⟩ := h; rfl)
      | (obtain ⟨_, _, _, _, _, _, _, _, _, _, _, _, _, rfl, _⟩ := h; rfl)
      | (obtain ⟨_, _, _, _, _, _, _, _, _, _, _, _, _, _, rfl, _⟩ := h; rfl)
      | (obtain ⟨_, _, _, _, _, _, _, _, _, _, _, _, _, _, _, rfl, _⟩ := h; rfl)
      | (obtain ⟨_, _, _, _, _, _, _, _, _, _, _, _, _, _, _, _, rfl, _⟩ := h; rfl)
      | (obtain ⟨_, _, _, _, _, _, _, _, _, _, _, _, _, _, _, _, _, rfl, _⟩ := h; rfl)
  · obtain ⟨a, b, m, rfl, hs, hm0, hm1, q⟩ := h
    refine ⟨_, 
  (pss_cons (ps_set (i := 2) sc_law_seed.nd rfl (.inl rfl) (pe_op op_add pe_int (pe_call D_law_next.ok hr (by rfl) D_law_next.g D_law_next.kp D_law_next.b .nil pass0 (pa_cons (pv 0) (pa_cons (pv 1) pa_nil))))) 
  (pss_cons (ps_if (pt_cmpR op_eq (pv 2) pe_int (nomark _)) 
    (pss_one (ps_ret pe_str)) pss_nil) 
  (pss_one (ps_ret (pe_op op_add_str (pe_op op_add_str pe_str (pe_join pe_str (pe_lc (own := [("_law_k", 3)]) (g := gName 3) (tt := tYes) rfl sc_law_seed.nd (pi_range1 rfl B.m_range (pa_cons (pe_op op_sub (pv 2) pe_int) pa_nil)) (blkOk_by (N := n_law_seed) (sc := defScope s_law_seed) (by decide +kernel)) (fun _ _ _ _ _ => (pg_name (i := 3) sc_law_seed.nd rfl (.inl rfl))) (fun _ _ _ _ _ => pts_nil) (fun _ _ _ _ _ => (pe_ix ix_str pe_str (pe_call D_law_next.ok hr (by rfl) D_law_next.g D_law_next.kp D_law_next.b .nil pass0 (pa_cons (pv 0) (pa_cons pe_int pa_nil))) (fun _ _ => rfl)))))) pe_str))))), ?_⟩
    walk_at "vc"
    refine ⟨a, b, (m : Nat), rfl, hs, by omega, by omega, fun r H1 r0 r1 hs1 k1 => ?_⟩
    walk_at "vc"
    refine ite2 (fun e => ?_) (fun e => ?_)
    · walk_at "vc"
      exact q [35] H1 ⟨Nat.le_refl _, hm0, fun c hc => .inl (List.mem_singleton.mp hc), rfl, rfl⟩ hs1 k1
    · have e1 : 1 + r ≠ 1 := fun h => e (decide_eq_true (by rw [h]))
      walk_at "vc"
      intro D hD
      have en : (1 + r - 2).toNat = (r - 1).toNat := by omega
      rw [en]
      refine lc_range (fun i H' => Dr a b H1 D (fun c => c = 35 ∨ c = 45) i H') (Dr.start hs1 hD) (fun i H' hi h => ?_) (fun H' h => ?_)
      · have hsd : Src H' a b := by obtain ⟨_, _, _, x, _⟩ := h; exact x
        walk_at "vc"
        refine ⟨rfl, ?_⟩
        walk_at "vc"
        refine ⟨a, b, 2, rfl, hsd, by omega, by omega, fun r' H3 r2 r3 hs3 k3 => ?_⟩
        have key : ∃ c : Nat, atI ("#-" : Str).cps.toList r' = some c ∧ (c = 35 ∨ c = 45) := by
          have : r' = 0 ∨ r' = 1 := by omega
          rcases this with rfl | rfl
          · exact ⟨35, by decide +kernel, .inl rfl⟩
          · exact ⟨45, by decide +kernel, .inr rfl⟩
        obtain ⟨c, ec, hc⟩ := key
        refine x_ixS (by decide +kernel) ec ?_
        exact h.step (c := c) hD hs1 (by omega) hs3 k3 hc
      · obtain ⟨cs, hcl, hok, hsd, kd, hDd⟩ := h
        refine x_join (ys := cs.map sg) (SqL.of (by rw [lst_map_signs]; exact hDd)) (by have e := signs_len cs; show ((List.map sg cs).map (·.length)).sum + (cs.map sg).length * ("" : Str).length ≤ _; omega) ?_
        rw [show Txt.join (Str.ofString "") (cs.map sg) = S cs from join_signs _]
        have e1 : (Str.ofString "#") = S [35] := rfl
        rw [e1]
        refine ⟨S [35], S cs, rfl, rfl, hp_sz (by rw [len_S, len_S]; show 1 + cs.length ≤ _; omega), ?_⟩
        rw [S_app]
        walk_at "vc"
        refine ⟨S ([35] ++ cs), S [35], rfl, rfl, hp_sz (by rw [len_S, len_S, List.length_append]; show 1 + cs.length + 1 ≤ _; omega), ?_⟩
        rw [S_app]
        refine q ([35] ++ cs ++ [35]) H' ⟨?_, ?_, fun c hc => ?_, rfl, ?_⟩ hsd (k1.trans kd)
        · rw [List.length_append]
          show 1 ≤ _ + 1
          omega
        · rw [List.length_append, List.length_append]
          show 1 + cs.length + 1 ≤ m
          omega
        · rcases List.mem_append.mp hc with z | z
          · rcases List.mem_append.mp z with z | z
            · exact .inl (List.mem_singleton.mp z)
            · exact hok c z
          · exact .inl (List.mem_singleton.mp z)
        · rw [List.getElem?_append_right (by simp)]
          simp


theorem ok_law_seeds {f : Addr} {fd : FuncData} {f_law_seed : Addr} {fd_law_seed : FuncData} {f_law_next : Addr} {fd_law_next : FuncData} (F : Fun K "_law_seeds" "_law_seeds" s_law_seeds f fd) (B : Bl mg) (D_law_seed : Dn P w K mg base "_law_seed" 2 ["_law_h", "_law_most"] (sp_law_seed K) f_law_seed fd_law_seed) (D_law_next : Dn P w K mg base "_law_next" 1 ["_law_h", "_law_many"] (sp_law_next K) f_law_next fd_law_next) : FnOk P w K mg base CX0 3 f fd ["_law_h", "_law_most"] (sp_law_seeds K) := by
  refine F.ok sc_law_seeds (fun vs H Q E h => ?_) (fun cdv A outer s H vs Q E hr h => ?_)
  · first
      | (obtain ⟨_, rfl, _⟩ := h; rfl)
      | (obtain ⟨_, _, rfl, _⟩ := h; rfl)
      | (obtain ⟨_, _, _, rfl, _⟩ := h; rfl)
      | (obtain ⟨_, _, _, _, rfl, _⟩ := h; rfl)
      | (obtain ⟨_, _, _, _, _, rfl, _⟩ := h; rfl)
      | (obtain ⟨_, _, _, _, _, _, rfl, _⟩ := h; rfl)
      | (obtain ⟨_, _, _, _, _, _, _, rfl, _⟩ := h; rfl)
      | (obtain ⟨_, _, _, _, _, _, _, _, rfl, _⟩ := h; rfl)
      | (obtain ⟨_, _, _, _, _, _, _, _, _, rfl, _⟩ := h; rfl)
      | (obtain ⟨_, _, _, _, _, _, _, _, _, _, rfl, _⟩ := h; rfl)
      | (obtain ⟨_, _, _, _, _, _, _, _, _, _, _, rfl, _⟩ := h; rfl)
      | (obtain ⟨_, _, _, _, _, _, _, _, _, _, _, _, rfl, _⟩ := h; rfl)
      | (obtain ⟨_, _, _, _, _, _, _, _, _, _, _, _, _, rfl, _⟩ := h; rfl)
      | (obtain ⟨_, _, _, _, _, _, _, _, _, _, _, _, _, _, rfl, _⟩ := h; rfl)
      | (obtain ⟨_, _, _, _, _, _, _, _, _, _, _, _, _, _, _, rfl, _⟩ := h; rfl)
      | (obtain ⟨_, _, _, _, _, _, _, _, _, _, _, _, _, _, _, _, rfl, _⟩ := h; rfl)
      | (obtain ⟨_, _, _, _, _, _, _, _, _, _, _, _, _, _, _, _, _, rfl, _⟩ := h; rfl)
  · obtain ⟨a, b, m, rfl, hs, hm0, hm1, q⟩ := h
    refine ⟨_, 
  (pss_one (ps_ret (pe_lc (own := [("_law_k", 2)]) (g := gName 2) (tt := tYes) rfl sc_law_seeds.nd (pi_range1 rfl B.m_range (pa_cons (pe_op op_add pe_int (pe_call D_law_next.ok (hr.mono (by decide)) (by rfl) D_law_next.g D_law_next.kp D_law_next.b .nil pass0 (pa_cons (pv 0) (pa_cons pe_int pa_nil)))) pa_nil)) (blkOk_by (N := n_law_seeds) (sc := defScope s_law_seeds) (by decide +kernel)) (fun _ _ _ _ _ => (pg_name (i := 2) sc_law_seeds.nd rfl (.inl rfl))) (fun _ _ _ _ _ => pts_nil) (fun _ _ _ _ _ => (pe_call D_law_seed.ok hr (by rfl) D_law_seed.g D_law_seed.kp D_law_seed.b .nil pass0 (pa_cons (pv 0) (pa_cons (pv 1) pa_nil))))))), ?_⟩
    walk_at "vc"
    refine ⟨a, b, 3, rfl, hs, by omega, by omega, fun r H1 r0 r1 hs1 k1 => ?_⟩
    walk_at "vc"
    intro D hD
    have na := hs1.ne_a hD
    have nb := hs1.ne_b hD
    refine lc_range (fun i H' => ∃ sds : List (List Nat), sds.length = i ∧ (∀ sd ∈ sds, Sd m sd) ∧ Src H' a b ∧ Kp a b H1 H' ∧ H' D = some (.lst (sds.map strV))) ⟨[], rfl, (fun c h => nomatch h), hs1.new hD, Kp.new hD, upd_same⟩ (fun i H' hi h => ?_) (fun H' h => ?_)
    · obtain ⟨sds, hl, hok, hsd, kd, hDd⟩ := h
      walk_at "vc"
      refine ⟨rfl, ?_⟩
      walk_at "vc"
      refine ⟨a, b, m, rfl, hsd, hm0, hm1, fun sd H2 hsd2 hs2 k2 => ?_⟩
      refine ⟨_, k2 D _ na nb hDd, by rw [List.length_map, hl]; exact Nat.lt_of_le_of_lt (by omega : i ≤ 1000) (by decide), sds ++ [sd], by rw [List.length_append, hl]; rfl, fun s hs' => ?_, hs2.upd na nb, fun p o h1 h2 e => ?_, ?_⟩
      · rcases List.mem_append.mp hs' with z | z
        · exact hok s z
        · rw [List.mem_singleton.mp z]
          exact hsd2
      · rw [upd_ne (ne_of_none e hD)]
        exact k2 p o h1 h2 (kd p o h1 h2 e)
      · rw [upd_same, List.map_append]
        rfl
    · obtain ⟨sds, hl, hok, hsd, kd, hDd⟩ := h
      have hD0 : H D = none := by
        cases e : H D with
        | none => rfl
        | some o =>
          have := k1 D o na nb e
          rw [hD] at this
          cases this
      exact q D sds H' hok (by omega) (by omega) hDd hD0 na nb hsd (k1.trans kd)


theorem ok_law_windows {f : Addr} {fd : FuncData} (F : Fun K "_law_windows" "_law_windows" s_law_windows f fd) (B : Bl mg) : FnOk P w K mg base CX0 1 f fd ["_law_seeds_here", "_law_rows_here"] (sp_law_windows K) := by
  refine F.ok sc_law_windows (fun vs H Q E h => ?_) (fun cdv A outer s H vs Q E hr h => ?_)
  · first
      | (obtain ⟨_, rfl, _⟩ := h; rfl)
      | (obtain ⟨_, _, rfl, _⟩ := h; rfl)
      | (obtain ⟨_, _, _, rfl, _⟩ := h; rfl)
      | (obtain ⟨_, _, _, _, rfl, _⟩ := h; rfl)
      | (obtain ⟨_, _, _, _, _, rfl, _⟩ := h; rfl)
      | (obtain ⟨_, _, _, _, _, _, rfl, _⟩ := h; rfl)
      | (obtain ⟨_, _, _, _, _, _, _, rfl, _⟩ := h; rfl)
      | (obtain ⟨_, _, _, _, _, _, _, _, rfl, _⟩ := h; rfl)
      | (obtain ⟨_, _, _, _, _, _, _, _, _, rfl, _⟩ := h; rfl)
      | (obtain ⟨_, _, _, _, _, _, _, _, _, _, rfl, _⟩ := h; rfl)
      | (obtain ⟨_, _, _, _, _, _, _, _, _, _, _, rfl, _⟩ := h; rfl)
      | (obtain ⟨_, _, _, _, _, _, _, _, _, _, _, _, rfl, _⟩ := h; rfl)
      | (obtain ⟨_, _, _, _, _, _, _, _, _, _, _, _, _, rfl, _⟩ := h; rfl)
      | (obtain ⟨_, _, _, _, _, _, _, _, _, _, _, _, _, _, rfl, _⟩ := h; rfl)
      | (obtain ⟨_, _, _, _, _, _, _, _, _, _, _, _, _, _, _, rfl, _⟩ := h; rfl)
      | (obtain ⟨_, _, _, _, _, _, _, _, _, _, _, _, _, _, _, _, rfl, _⟩ := h; rfl)
      | (obtain ⟨_, _, _, _, _, _, _, _, _, _, _, _, _, _, _, _, _, rfl, _⟩ := h; rfl)
  · obtain ⟨sp, rp, sds, rows, rfl, hsp, hrp, hsd, hsl, hrl, hrz, q⟩ := h
    refine ⟨_, 
  (pss_cons (ps_set (i := 2) sc_law_windows.nd rfl (.inl rfl) (pe_lst pa_nil)) 
  (pss_cons (ps_for PassesOwn.never rfl (pi_range1 rfl B.m_range (pa_cons (pe_callB call_len_seq (by rfl) B.m_len PySem.boot_len (pa_cons (pv 0) pa_nil)) pa_nil)) (pg_name (i := 3) sc_law_windows.nd rfl (.inr rfl)) 
    (pss_one (ps_for PassesOwn.never rfl (pi_range1 rfl B.m_range (pa_cons (pe_callB call_len_seq (by rfl) B.m_len PySem.boot_len (pa_cons (pv 1) pa_nil)) pa_nil)) (pg_name (i := 4) sc_law_windows.nd rfl (.inr rfl)) 
      (pss_one (ps_for PassesOwn.never rfl (pi_range1 rfl B.m_range (pa_cons (pe_op op_add (pe_op op_sub (pe_callB call_len_str (by rfl) B.m_len PySem.boot_len (pa_cons (pe_ix ix_list (pv 1) (pv 4) (fun _ _ => rfl)) pa_nil)) (pe_callB call_len_str (by rfl) B.m_len PySem.boot_len (pa_cons (pe_ix ix_list (pv 0) (pv 3) (fun _ _ => rfl)) pa_nil))) pe_int) pa_nil)) (pg_name (i := 5) sc_law_windows.nd rfl (.inr rfl)) 
        (pss_cons (ps_setLc (i := 6) (own := [("_law_at", 7)]) (g := gName 7) rfl sc_law_windows.nd rfl rfl (sw_true rfl rfl rfl (by decide +kernel)) (pi_range1 rfl B.m_range (pa_cons (pe_callB call_len_str (by rfl) B.m_len PySem.boot_len (pa_cons (pe_ix ix_list (pv 0) (pv 3) (fun _ _ => rfl)) pa_nil)) pa_nil)) (blkOk_by (N := n_law_windows) (sc := defScope s_law_windows) (by decide +kernel)) (fun _ _ _ _ _ => (pg_name (i := 7) sc_law_windows.nd rfl (.inl rfl))) (fun _ _ _ _ _ => pts_one (pt_cmpR op_eq (pe_ix ix_str (pe_ix (show IxR _ (rIxL K) from ix_list) (pv 0) (pv 3) (fun _ _ => rfl)) (pv 7) (fun _ _ => rfl)) pe_str (nomark _))) (fun _ _ _ _ _ => (pe_ix ix_str (pe_ix (show IxR _ (rIxL K) from ix_list) (pv 1) (pv 4) (fun _ _ => rfl)) (pe_op op_add (pv 5) (pv 7)) (fun _ _ => rfl)))) 
        (pss_one (ps_expr (pe_bm PySem.F.plainAttrs_list PySem.F.slot_list_append PySem.F.type_list_append mt_append (pv 2) (pa_cons (pe_tup (pa_cons (pv 3) (pa_cons (pe_join pe_str (pv 6)) (pa_cons (pv 4) (pa_cons (pv 5) pa_nil))))) pa_nil)))))))))) 
  (pss_one (ps_ret (pe_callB (cr_sortD hr.units) (by rfl) B.m_sorted (by decide +kernel) (pa_cons (pv 2) pa_nil)))))), ?_⟩
    walk_at "vc"
    refine ⟨by decide, fun fp hfp => ?_⟩
    have sm1 : Same H (upd H fp (.lst [])) := same_upd hfp
    have hfp1 : upd H fp (.lst []) fp = some (.lst []) := upd_same
    generalize upd H fp (.lst []) = H1 at sm1 hfp1
    have hsp1 := sm1.seq hsp
    walk_at "vc"
    rw [List.length_map]
    walk_at "vc"
    have en : ((sds.length : Nat) : Int).toNat = sds.length := by omega
    rw [en]
    refine for_range (fun k σ H' => ∃ (as : List Addr) (y3 y4 y5 y6 y7 : Option V), σ = [some (.ref sp), some (.ref rp), some (.ref fp), y3, y4, y5, y6, y7] ∧ Same H H' ∧ H' fp = some (.lst (as.map V.ref)) ∧ Tup winV H' as (winsS sds rows k)) ⟨[], _, _, _, _, _, rfl, sm1, hfp1, Tup.nil⟩ ?_ ?_
    · rintro k σ H2 hk ⟨as, y3, y4, y5, y6, y7, rfl, sm2, hfp2, hT2⟩
      have hrp2 := sm2.seq hrp
      have hkk : sds[k]? = some sds[k] := List.getElem?_eq_getElem hk
      have hsdk := hsd _ (List.getElem_mem hk)
      rw [winsS_succ, hkk]
      show _ ; dsimp only [Option.getD_some]
      have hAl := winsS_len (sds := sds) hrz hrl k
      have hk4 : 610 * k ≤ 2440 := by omega
      have hixs : ∀ H', Same H H' → SqL K H' sp (sds.map strV) := fun H' s => s.seq hsp
      have hixv : atI (sds.map strV) (0 + (k : Int)) = some (V.str (S sds[k])) := by
        rw [Int.zero_add]
        exact atI_nat (by rw [List.getElem?_map, hkk]; rfl)
      generalize sds[k] = sd at hsdk hixv
      have lsd : (S sd).length = sd.length := len_S sd
      have hs8 := hsdk.most
      have zsd : (S sd).length ≤ sizeLine := hp_sz (by have := hsdk.most; omega)
      walk_at "vc"
      rw [List.length_map]
      walk_at "vc"
      have en2 : ((rows.length : Nat) : Int).toNat = rows.length := by omega
      rw [en2]
      refine for_range (fun n σ H' => ∃ (as : List Addr) (y4 y5 y6 y7 : Option V), σ = [some (.ref sp), some (.ref rp), some (.ref fp), some (.int (0 + (k : Int))), y4, y5, y6, y7] ∧ Same H H' ∧ H' fp = some (.lst (as.map V.ref)) ∧ Tup winV H' as (winsS sds rows k ++ winsR k sd rows n)) ⟨as, _, _, _, _, rfl, sm2, hfp2, by show Tup winV H2 as (_ ++ []); rw [List.append_nil]; exact hT2⟩ ?_ ?_
      · rintro n σ H3 hn ⟨as, y4, y5, y6, y7, rfl, sm3, hfp3, hT3⟩
        have hnn : rows[n]? = some rows[n] := List.getElem?_eq_getElem hn
        have hrz' := hrz _ (List.getElem_mem hn)
        rw [winsR_succ, hnn]
        dsimp only [Option.getD_some]
        have hBl := winsR_len (k := k) (sd := sd) hrz n
        have hixr : ∀ H', Same H H' → SqL K H' rp (rows.map strV) := fun H' s => s.seq hrp
        have hiyv : atI (rows.map strV) (0 + (n : Int)) = some (V.str (S rows[n])) := by
          rw [Int.zero_add]
          exact atI_nat (by rw [List.getElem?_map, hnn]; rfl)
        generalize rows[n] = r at hrz' hiyv
        have lr : (S r).length = r.length := len_S r
        have zr : (S r).length ≤ sizeLine := hp_sz (by omega)
        walk_at "vc"
        refine x_ixL (hixr _ sm3) hiyv ?_
        walk_at "vc"
        refine x_ixL (hixs _ sm3) hixv ?_
        walk_at "vc"
        have en3 : (((S r).length : Int) - ((S sd).length : Int) + 1).toNat = plcs sd r := by
          unfold plcs
          rw [lr, lsd]
        rw [en3]
        have hpl := plcs_le sd r
        refine for_range (fun p σ H' => ∃ (as : List Addr) (y5 y6 y7 : Option V), σ = [some (.ref sp), some (.ref rp), some (.ref fp), some (.int (0 + (k : Int))), some (.int (0 + (n : Int))), y5, y6, y7] ∧ Same H H' ∧ H' fp = some (.lst (as.map V.ref)) ∧ Tup winV H' as (winsS sds rows k ++ (winsR k sd rows n ++ winsP k sd n r p))) ⟨as, _, _, _, rfl, sm3, hfp3, by show Tup winV H3 as (_ ++ (_ ++ [])); rw [List.append_nil]; exact hT3⟩ ?_ ?_
        · rintro p σ H4 hp ⟨as, y5, y6, y7, rfl, sm4, hfp4, hT4⟩
          have hpr : (p : Int) + sd.length ≤ r.length := by
            unfold plcs at hp
            omega
          walk_at "vc"
          refine x_ixL (hixs _ sm4) hixv ?_
          walk_at "vc"
          intro D hD
          have en4 : (((S sd).length : Nat) : Int).toNat = sd.length := by omega
          rw [en4]
          refine lc_range (fun i H' => Same H4 H' ∧ H' D = some (.lst ((pickN sd r p i).map fun c => V.str (sg c)))) ⟨same_upd hD, upd_same⟩ (fun i H' hi h => ?_) (fun H' h => ?_)
          · have sm5 := sm4.trans h.1
            have hir : p + i < r.length := by omega
            have e0 : (0 : Int) + (i : Int) = ((i : Nat) : Int) := Int.zero_add _
            have e1 : (0 : Int) + (p : Int) + ((i : Nat) : Int) = ((p + i : Nat) : Int) := by omega
            walk_at "vc"
            refine ⟨rfl, ?_⟩
            walk_at "vc"
            refine x_ixL (hixs _ sm5) hixv ?_
            walk_at "vc"
            rw [e0]
            refine x_ixS zsd (c := sd[i]) (atI_nat (List.getElem?_eq_getElem hi)) ?_
            walk_at "vc"
            rw [show (⟨#[sd[i]]⟩ : Str) = sg sd[i] from rfl, eq_sign sd[i] 35 (Str.ofString "#") rfl]
            refine ite2 (fun e => ?_) (fun e => ?_)
            · have e35 : sd[i]? = some 35 := by rw [List.getElem?_eq_getElem hi, of_decide_eq_true e]
              walk_at "vc"
              refine x_ixL (hixr _ sm5) hiyv ?_
              walk_at "vc"
              rw [e1]
              refine x_ixS zr (c := r[p + i]) (atI_nat (List.getElem?_eq_getElem hir)) ?_
              refine ⟨_, h.2, ?_, fun b x e => ?_, ?_⟩
              · rw [List.length_map]
                have := pickN_len sd r p i
                exact Nat.lt_of_le_of_lt (by have := hsdk.most; omega : _ ≤ 1000) (by decide)
              · rw [upd_ne (ne_of_none e hD)]
                exact h.1 b x e
              · rw [upd_same, pickN_yes e35 (List.getElem?_eq_getElem hir), List.map_append]
                rfl
            · have e35 : ¬ sd[i]? = some 35 := fun h => e (decide_eq_true (by rw [List.getElem?_eq_getElem hi] at h; exact Option.some.inj h))
              exact ⟨h.1, by rw [pickN_no e35]; exact h.2⟩
          · obtain ⟨sm5, hD5⟩ := h
            have hfp5 := sm5 _ _ hfp4
            have sm45 := sm4.trans sm5
            have hT5 := hT4.same sm5
            walk_at "vc"
            refine ⟨.inl ⟨rfl, _, SqL.of hfp5⟩, ?_⟩
            walk_at "vc"
            have hpn := pickN_len sd r p sd.length
            refine x_join (ys := (pickN sd r p sd.length).map sg) (SqL.of (by rw [lst_map_signs]; exact hD5)) (by have e := signs_len (pickN sd r p sd.length); show ((List.map sg (pickN sd r p sd.length)).map (·.length)).sum + ((pickN sd r p sd.length).map sg).length * ("" : Str).length ≤ _; omega) ?_
            rw [show Txt.join (Str.ofString "") ((pickN sd r p sd.length).map sg) = S (pickW sd r p) from join_signs _]
            walk_at "vc"
            refine ⟨show 4 ≤ sizeLine by decide, fun t ht => ?_⟩
            have hpush := tup_push (f := winV) (p := (⟨k, pickW sd r p, n, p⟩ : Win)) hfp sm45 hfp5 hT5 ht
            have hLl : (winsS sds rows k ++ (winsR k sd rows n ++ winsP k sd n r p)).length ≤ 10000 := by
              rw [List.length_append, List.length_append, winsP_len]
              omega
            walk_at "vc"
            have e2 : (0 : Int) + (k : Int) = ((k : Nat) : Int) := by omega
            have e3 : (0 : Int) + (n : Int) = ((n : Nat) : Int) := by omega
            have e4 : (0 : Int) + (p : Int) = ((p : Nat) : Int) := by omega
            refine x_append (by rw [upd_ne (ne_of_none hfp5 ht)]; exact hfp5) (by rw [hT5.len]; exact Nat.lt_of_le_of_lt hLl (by decide)) ?_
            rw [e2, e3, e4]
            refine ⟨as ++ [t], _, _, _, rfl, hpush.1, hpush.2.1, ?_⟩
            rw [winsP_succ, ← List.append_assoc, ← List.append_assoc, List.append_assoc (winsS sds rows k)]
            exact hpush.2.2
        · rintro σ H4 ⟨as, y5, y6, y7, rfl, sm4, hfp4, hT4⟩
          exact ⟨as, _, _, _, _, rfl, sm4, hfp4, hT4⟩
      · rintro σ H3 ⟨as, y4, y5, y6, y7, rfl, sm3, hfp3, hT3⟩
        exact ⟨as, _, _, _, _, _, rfl, sm3, hfp3, hT3⟩
    · rintro σ H2 ⟨as, y3, y4, y5, y6, y7, rfl, sm2, hfp2, hT2⟩
      walk_at "vc"
      refine ⟨Win, fp, as, wins sds rows, winV, winD, rfl, SqL.of hfp2, hT2, dp_win, allAlike_wins _, fun p _ h => (nomatch h), fun p _ => depth_win p, fun D2 as2 hD2 hT3 => ?_⟩
      have hD20 : H D2 = none := by
        cases e : H D2 with
        | none => rfl
        | some o =>
          have := sm2 _ _ e
          rw [hD2] at this
          cases this
      exact q D2 as2 _ (sm2.trans (same_upd hD2)) hD20 upd_same (hT3.same (same_upd hD2))


theorem ok_law_tried {f : Addr} {fd : FuncData} {aBadRow : Addr} {aTooLow : Addr} {fTooLow : Addr} {fdTooLow : FuncData} {cShelf fiShelf : Addr} {fShelf_find : Addr} {fdShelf_find : FuncData} {fShelf_lay : Addr} {fdShelf_lay : FuncData} (F : Fun K "_law_tried" "_law_tried" s_law_tried f fd) (B : Bl mg) (XBadRow : XcN K mg "BadRow" aBadRow) (XTooLow : XoF P w K mg base "TooLow" aTooLow fTooLow fdTooLow) (M : XM K aBadRow aTooLow) (TShelf : KlShelf K mg cShelf fiShelf) (DShelf_find : DmX P w K mg base cShelf "find" 5 ["self", "row", "told"] (spShelf_find K aBadRow aTooLow cShelf) fShelf_find fdShelf_find) (DShelf_lay : DmX P w K mg base cShelf "lay" 2 ["self", "row"] (spShelf_lay K aBadRow cShelf) fShelf_lay fdShelf_lay) : FnOk P w K mg base CX0 6 f fd ["_law_shelf_here", "_law_row_here"] (sp_law_tried K cShelf) := by
  refine F.ok sc_law_tried (fun vs H Q E h => ?_) (fun cdv A outer s H vs Q E hr h => ?_)
  · first
      | (obtain ⟨_, rfl, _⟩ := h; rfl)
      | (obtain ⟨_, _, rfl, _⟩ := h; rfl)
      | (obtain ⟨_, _, _, rfl, _⟩ := h; rfl)
      | (obtain ⟨_, _, _, _, rfl, _⟩ := h; rfl)
      | (obtain ⟨_, _, _, _, _, rfl, _⟩ := h; rfl)
      | (obtain ⟨_, _, _, _, _, _, rfl, _⟩ := h; rfl)
      | (obtain ⟨_, _, _, _, _, _, _, rfl, _⟩ := h; rfl)
      | (obtain ⟨_, _, _, _, _, _, _, _, rfl, _⟩ := h; rfl)
      | (obtain ⟨_, _, _, _, _, _, _, _, _, rfl, _⟩ := h; rfl)
      | (obtain ⟨_, _, _, _, _, _, _, _, _, _, rfl, _⟩ := h; rfl)
      | (obtain ⟨_, _, _, _, _, _, _, _, _, _, _, rfl, _⟩ := h; rfl)
      | (obtain ⟨_, _, _, _, _, _, _, _, _, _, _, _, rfl, _⟩ := h; rfl)
      | (obtain ⟨_, _, _, _, _, _, _, _, _, _, _, _, _, rfl, _⟩ := h; rfl)
      | (obtain ⟨_, _, _, _, _, _, _, _, _, _, _, _, _, _, rfl, _⟩ := h; rfl)
      | (obtain ⟨_, _, _, _, _, _, _, _, _, _, _, _, _, _, _, rfl, _⟩ := h; rfl)
      | (obtain ⟨_, _, _, _, _, _, _, _, _, _, _, _, _, _, _, _, rfl, _⟩ := h; rfl)
      | (obtain ⟨_, _, _, _, _, _, _, _, _, _, _, _, _, _, _, _, _, rfl, _⟩ := h; rfl)
  · obtain ⟨p, foot, s, o, rfl, hs, hlets, hrl, hrz, ho, hol, hbo, q⟩ := h
    obtain ⟨z1, z2, z3, z4⟩ := letL_ok hlets
    refine ⟨_, 
  (pss_cons (ps_try_many rfl rfl takes0 (fun W pn xe tk po => 
    (pss_cons (ps_expr (pe_methW (pv 0) TShelf.cl DShelf_find.mt DShelf_find.ok hr DShelf_find.b (fun σ => passAt tk σ) (pa_cons (pv 1) (pa_cons pe_int pa_nil)))) 
    (pss_one (ps_expr (pe_methW (pv 0) TShelf.cl DShelf_lay.mt DShelf_lay.ok (hr.mono (by decide)) DShelf_lay.b (fun σ => passAt tk σ) (pa_cons (pe_op op_add_str (pv 1) pe_str) pa_nil)))))) (.cons ⟨rfl, by decide, .inl XTooLow.gP⟩ (fun ae oe cls de pn hz hf => 
    (pss_one (ps_ret pe_bl))) (.cons ⟨rfl, by decide, .inl XBadRow.gP⟩ (fun ae oe cls de pn hz hf => 
    (pss_one (ps_ret pe_bl))) .nil))) 
  (pss_one (ps_ret pe_bl))), ?_⟩
    walk_at "vc"
    obtain ⟨dx, fs, i1, _, _, _, i5, _⟩ := hs.ins
    refine ⟨p, dx, fs, rfl, i1, i5, ?_⟩
    walk_at "vc"
    refine ⟨p, foot, s, o, 60, rfl, hs, hlets, hrl, hrz, by omega, fun hn => absurd ⟨ho, hol⟩ hn, hbo, fun _ ha H1 r as sm1 _ _ _ => ?_, fun _ hn dd lp H1 sm1 hd hl => ?_⟩
    · have hs1 := hs.all sm1
      walk_at "vc"
      obtain ⟨dx1, fs1, j1, j2, _⟩ := hs1.ins
      refine ⟨p, dx1, fs1, rfl, j1, j2, ?_⟩
      walk_at "vc"
      refine x_addS'' (by rw [len_S]; show o.length + 1 ≤ 1000000; omega) ?_
      rw [show Str.ofString "=" = S [61] by decide +kernel, S_app]
      walk_at "vc"
      refine ⟨p, foot, s, o ++ [61], rfl, hs1, hlets, by omega, by rw [List.length_append]; show o.length + 1 ≤ 1000; omega, fun hn => ?_, fun hok => ?_⟩
      · refine ⟨false, PySem.W.exm_ref M.bs_TooLow M.hd_TooLow M.tp_TooLow M.s_BadRow_TooLow, (fun h => nomatch h), fun _ => ⟨true, PySem.W.exm_ref M.bs_BadRow M.hd_BadRow M.tp_BadRow M.s_BadRow_BadRow, fun _ a ha => ?_, fun h => nomatch h⟩⟩
        walk_at "vc"
        exact q _ sm1
      · have := z3 61 (hok.2 61 (by simp))
        omega
    · refine ⟨true, PySem.W.exm_ref M.bs_TooLow M.hd_TooLow M.tp_TooLow M.s_TooLow_TooLow, fun _ a ha => ?_, fun h => nomatch h⟩
      walk_at "vc"
      exact q _ sm1


theorem oklaw {f : Addr} {fd : FuncData} {PT : Addr} {cShelf fiShelf : Addr} {f_law_letters : Addr} {fd_law_letters : FuncData} {f_law_seeds : Addr} {fd_law_seeds : FuncData} {f_law_next : Addr} {fd_law_next : FuncData} {fdShelf___init__ : FuncData} {f_law_tried : Addr} {fd_law_tried : FuncData} {f_law_scale : Addr} {fd_law_scale : FuncData} {f_law_row : Addr} {fd_law_row : FuncData} {f_law_windows : Addr} {fd_law_windows : FuncData} {fShelf_lay : Addr} {fdShelf_lay : FuncData} {fShelf_change : Addr} {fdShelf_change : FuncData} {fShelf_rows : Addr} {fdShelf_rows : FuncData} {fShelf_windows : Addr} {fdShelf_windows : FuncData} (F : Fun K "law" "law" slaw f fd) (B : Bl mg) (TShelf : KlShelf K mg cShelf fiShelf) (D_law_letters : Dn P w K mg base "_law_letters" 2 ["_law_h"] (sp_law_letters K) f_law_letters fd_law_letters) (D_law_seeds : Dn P w K mg base "_law_seeds" 3 ["_law_h", "_law_most"] (sp_law_seeds K) f_law_seeds fd_law_seeds) (D_law_next : Dn P w K mg base "_law_next" 1 ["_law_h", "_law_many"] (sp_law_next K) f_law_next fd_law_next) (DShelf___init__ : Dm P w K mg base cShelf "__init__" 6 ["self", "letters", "scale", "seeds"] (spShelf___init__ K PT cShelf) fiShelf fdShelf___init__) (D_law_tried : Dn P w K mg base "_law_tried" 6 ["_law_shelf_here", "_law_row_here"] (sp_law_tried K cShelf) f_law_tried fd_law_tried) (D_law_scale : Dn P w K mg base "_law_scale" 2 ["_law_h"] (sp_law_scale K) f_law_scale fd_law_scale) (D_law_row : Dn P w K mg base "_law_row" 2 ["_law_h", "_law_letters_here", "_law_most"] (sp_law_row K) f_law_row fd_law_row) (D_law_windows : Dn P w K mg base "_law_windows" 1 ["_law_seeds_here", "_law_rows_here"] (sp_law_windows K) f_law_windows fd_law_windows) (DShelf_lay : DmX P w K mg base cShelf "lay" 2 ["self", "row"] (spShelf_lay K aBadRow cShelf) fShelf_lay fdShelf_lay) (DShelf_change : Dm P w K mg base cShelf "change" 2 ["self", "number", "place", "sign"] (spShelf_change K cShelf) fShelf_change fdShelf_change) (DShelf_rows : Dm P w K mg base cShelf "rows" 1 ["self"] (spShelf_rows K cShelf) fShelf_rows fdShelf_rows) (DShelf_windows : Dm P w K mg base cShelf "windows" 3 ["self"] (spShelf_windows K cShelf) fShelf_windows fdShelf_windows) : FnOk P w K mg base CX0 8 f fd ["_law_script"] (splaw K PT) := by
  refine F.ok sclaw (fun vs H Q E h => ?_) (fun cdv A outer s H vs Q E hr h => ?_)
  · first
      | (obtain ⟨_, rfl, _⟩ := h; rfl)
      | (obtain ⟨_, _, rfl, _⟩ := h; rfl)
      | (obtain ⟨_, _, _, rfl, _⟩ := h; rfl)
      | (obtain ⟨_, _, _, _, rfl, _⟩ := h; rfl)
      | (obtain ⟨_, _, _, _, _, rfl, _⟩ := h; rfl)
      | (obtain ⟨_, _, _, _, _, _, rfl, _⟩ := h; rfl)
      | (obtain ⟨_, _, _, _, _, _, _, rfl, _⟩ := h; rfl)
      | (obtain ⟨_, _, _, _, _, _, _, _, rfl, _⟩ := h; rfl)
      | (obtain ⟨_, _, _, _, _, _, _, _, _, rfl, _⟩ := h; rfl)
      | (obtain ⟨_, _, _, _, _, _, _, _, _, _, rfl, _⟩ := h; rfl)
      | (obtain ⟨_, _, _, _, _, _, _, _, _, _, _, rfl, _⟩ := h; rfl)
      | (obtain ⟨_, _, _, _, _, _, _, _, _, _, _, _, rfl, _⟩ := h; rfl)
      | (obtain ⟨_, _, _, _, _, _, _, _, _, _, _, _, _, rfl, _⟩ := h; rfl)
      | (obtain ⟨_, _, _, _, _, _, _, _, _, _, _, _, _, _, rfl, _⟩ := h; rfl)
      | (obtain ⟨_, _, _, _, _, _, _, _, _, _, _, _, _, _, _, rfl, _⟩ := h; rfl)
      | (obtain ⟨_, _, _, _, _, _, _, _, _, _, _, _, _, _, _, _, rfl, _⟩ := h; rfl)
      | (obtain ⟨_, _, _, _, _, _, _, _, _, _, _, _, _, _, _, _, _, rfl, _⟩ := h; rfl)
  · obtain ⟨a0, ns, rfl, hS, hlen, hT, q⟩ := h
    refine ⟨_, 
  (pss_cons (ps_set (i := 1) sclaw.nd rfl (.inl rfl) (pe_lst (pa_cons pe_int (pa_cons (pe_callTy call_list_of (by rfl) B.m_list (by decide +kernel) (pa_cons (pv 0) pa_nil)) (pa_cons pe_int pa_nil))))) 
  (pss_cons (ps_set (i := 2) sclaw.nd rfl (.inl rfl) (pe_lst pa_nil)) 
  (pss_cons (ps_set (i := 3) sclaw.nd rfl (.inl rfl) (pe_lst pa_nil)) 
  (pss_cons (ps_for PassesOwn.never rfl (pi_range1 rfl B.m_range (pa_cons pe_int pa_nil)) (pg_name (i := 4) sclaw.nd rfl (.inl rfl)) 
    (pss_cons (ps_set (i := 5) sclaw.nd rfl (.inl rfl) (pe_call D_law_letters.ok (hr.mono (by decide)) (by rfl) D_law_letters.g D_law_letters.kp D_law_letters.b .nil pass0 (pa_cons (pv 1) pa_nil))) 
    (pss_cons (ps_set (i := 6) sclaw.nd rfl (.inl rfl) (pe_call D_law_seeds.ok (hr.mono (by decide)) (by rfl) D_law_seeds.g D_law_seeds.kp D_law_seeds.b .nil pass0 (pa_cons (pv 1) (pa_cons pe_int pa_nil)))) 
    (pss_cons (ps_set (i := 7) sclaw.nd rfl (.inl rfl) (pe_callTy call_list_of (by rfl) B.m_list (by decide +kernel) (pa_cons (pv 6) pa_nil))) 
    (pss_cons (ps_expr (pe_bm PySem.F.plainAttrs_list PySem.F.slot_list_append PySem.F.type_list_append mt_append (pv 2) (pa_cons (pe_make TShelf.make DShelf___init__.ok hr (by rfl) TShelf.mg DShelf___init__.b .nil pass0 (pa_cons (pv 5) (pa_cons (pe_call D_law_scale.ok (hr.mono (by decide)) (by rfl) D_law_scale.g D_law_scale.kp D_law_scale.b .nil pass0 (pa_cons (pv 1) pa_nil)) (pa_cons (pv 7) pa_nil)))) pa_nil))) 
    (pss_cons (ps_expr (pe_bm0 PySem.F.plainAttrs_list PySem.F.slot_list_clear PySem.F.type_list_clear mt_clear (pv 7))) 
    (pss_one (ps_expr (pe_bm PySem.F.plainAttrs_list PySem.F.slot_list_append PySem.F.type_list_append mt_append (pv 3) (pa_cons (pe_tup (pa_cons (pv 5) (pa_cons (pv 6) (pa_cons (pe_lst pa_nil) pa_nil)))) pa_nil)))))))))) 
  (pss_cons (ps_for PassesOwn.never rfl (pi_range1 rfl B.m_range (pa_cons (pe_op op_add pe_int (pe_call D_law_next.ok (hr.mono (by decide)) (by rfl) D_law_next.g D_law_next.kp D_law_next.b .nil pass0 (pa_cons (pv 1) (pa_cons pe_int pa_nil)))) pa_nil)) (pg_name (i := 8) sclaw.nd rfl (.inl rfl)) 
    (pss_cons (ps_set (i := 4) sclaw.nd rfl (.inl rfl) (pe_call D_law_next.ok (hr.mono (by decide)) (by rfl) D_law_next.g D_law_next.kp D_law_next.b .nil pass0 (pa_cons (pv 1) (pa_cons pe_int pa_nil)))) 
    (pss_cons (ps_asg (pe_ix ix_list (pv 3) (pv 4) (fun _ _ => rfl)) (pg_tup rfl (pgs_cons (pg_name (i := 5) sclaw.nd rfl (.inl rfl)) (pgs_cons (pg_name (i := 6) sclaw.nd rfl (.inl rfl)) (pgs_cons (pg_name (i := 9) sclaw.nd rfl (.inl rfl)) pgs_nil))))) 
    (pss_cons (ps_if (PW.pt (pw_or (pt_cmpR (op_eqD hr.units) (pv 9) (pe_lst pa_nil) (nomark _)) (pw_or1 (pt_cmpR op_eq (pe_call D_law_next.ok (hr.mono (by decide)) (by rfl) D_law_next.g D_law_next.kp D_law_next.b .nil pass0 (pa_cons (pv 1) (pa_cons pe_int pa_nil))) pe_int (nomark _))))) 
      (pss_cons (ps_expr (pe_bm PySem.F.plainAttrs_list PySem.F.slot_list_append PySem.F.type_list_append mt_append (pv 9) (pa_cons (pe_call D_law_row.ok (hr.mono (by decide)) (by rfl) D_law_row.g D_law_row.kp D_law_row.b .nil pass0 (pa_cons (pv 1) (pa_cons (pv 5) (pa_cons pe_int pa_nil)))) pa_nil))) 
      (pss_one (ps_expr (pe_meth (pe_ix ix_list (pv 2) (pv 4) (fun _ _ => rfl)) TShelf.cl DShelf_lay.mt DShelf_lay.ok (hr.mono (by decide)) DShelf_lay.b .nil passL (pa_cons (pe_ix ix_list (pv 9) (pe_un un_neg pe_int) (fun _ _ => rfl)) pa_nil))))) 
      (pss_one (ps_if (pt_cmpR op_ne (pe_ix ix_list (pv 9) (pe_un un_neg pe_int) (fun _ _ => rfl)) pe_str (nomark _)) 
        (pss_cons (ps_expr (pe_meth (pe_ix ix_list (pv 2) (pv 4) (fun _ _ => rfl)) TShelf.cl DShelf_change.mt DShelf_change.ok (hr.mono (by decide)) DShelf_change.b .nil pass0 (pa_cons (pe_op op_sub (pe_callB call_len_seq (by rfl) B.m_len PySem.boot_len (pa_cons (pv 9) pa_nil)) pe_int) (pa_cons pe_int (pa_cons (pe_ix ix_str (pv 5) pe_int (fun _ _ => rfl)) pa_nil))))) 
        (pss_one (ps_asg (pe_op op_add_str (pe_ix ix_str (pv 5) pe_int (fun _ _ => rfl)) (pe_slice sl_str (pe_ix ix_list (pv 9) (pe_un un_neg pe_int) (fun _ _ => rfl)) (po_some pe_int) po_none)) (pg_sub (pv 9) (pe_un un_neg pe_int) set_list)))) pss_nil))) 
    (pss_cons (ps_if (pt_not (pt_val (pe_call D_law_tried.ok (hr.mono (by decide)) (by rfl) D_law_tried.g D_law_tried.kp D_law_tried.b .nil pass0 (pa_cons (pe_ix ix_list (pv 2) (pv 4) (fun _ _ => rfl)) (pa_cons (pe_call D_law_row.ok (hr.mono (by decide)) (by rfl) D_law_row.g D_law_row.kp D_law_row.b .nil pass0 (pa_cons (pv 1) (pa_cons (pv 5) (pa_cons pe_int pa_nil)))) pa_nil))))) 
      (pss_one (ps_ret pe_bl)) pss_nil) 
    (pss_one (ps_for PassesOwn.never rfl (pi_range1 rfl B.m_range (pa_cons pe_int pa_nil)) (pg_name (i := 10) sclaw.nd rfl (.inl rfl)) 
      (pss_one (ps_if (PW.pt (pw_or (pt_cmpR (op_neD hr.units) (pe_meth0 (pe_ix ix_list (pv 2) (pv 10) (fun _ _ => rfl)) TShelf.cl DShelf_rows.mt DShelf_rows.ok (hr.mono (by decide)) DShelf_rows.b .nil pass0) (pe_ix ix_tup (pe_ix ix_list (pv 3) (pv 10) (fun _ _ => rfl)) pe_int (fun _ _ => rfl)) (nomark _)) (pw_or1 (pt_cmpR (op_neD hr.units) (pe_meth0 (pe_ix ix_list (pv 2) (pv 10) (fun _ _ => rfl)) TShelf.cl DShelf_windows.mt DShelf_windows.ok (hr.mono (by decide)) DShelf_windows.b .nil pass0) (pe_call D_law_windows.ok (hr.mono (by decide)) (by rfl) D_law_windows.g D_law_windows.kp D_law_windows.b .nil pass0 (pa_cons (pe_ix ix_tup (pe_ix ix_list (pv 3) (pv 10) (fun _ _ => rfl)) pe_int (fun _ _ => rfl)) (pa_cons (pe_ix ix_tup (pe_ix ix_list (pv 3) (pv 10) (fun _ _ => rfl)) pe_int (fun _ _ => rfl)) pa_nil))) (nomark _))))) 
        (pss_one (ps_ret pe_bl)) pss_nil))))))))) 
  (pss_one (ps_ret pe_bl))))))), ?_⟩
    walk_at "vc"
    intro b hb
    walk_at "vc"
    refine ⟨show 3 ≤ sizeLine by decide, fun a ha => ?_⟩
    have nab : a ≠ b := fun e => by
      rw [e, upd_same] at ha
      cases ha
    have hs0 : Src (upd (upd H b (.lst (ns.map V.int))) a (.lst [.int 97, .ref b, .int 0])) a b := ⟨nab, 97, 0, ns, upd_same, by rw [upd_ne nab.symm, upd_same], hlen⟩
    have hT0 : LamX.TabS (upd (upd H b (.lst (ns.map V.int))) a (.lst [.int 97, .ref b, .int 0])) PT qL := (hT.ext (same_upd hb)).ext (same_upd ha)
    generalize upd (upd H b (.lst (ns.map V.int))) a (.lst [.int 97, .ref b, .int 0]) = H0 at hs0 hT0
    walk_at "vc"
    refine ⟨by decide, fun lp hlp => ?_⟩
    have u1 : Same H0 (upd H0 lp (.lst [])) := same_upd hlp
    have hlp1 : upd H0 lp (.lst []) lp = some (.lst []) := upd_same
    have hs1 := hs0.new (o := .lst []) hlp
    have nla := hs0.ne_a hlp
    have nlb := hs0.ne_b hlp
    generalize upd H0 lp (.lst []) = H1 at u1 hlp1 hs1
    walk_at "vc"
    refine ⟨by decide, fun tl htl => ?_⟩
    have u2 : Same H1 (upd H1 tl (.lst [])) := same_upd htl
    have htl2 : upd H1 tl (.lst []) tl = some (.lst []) := upd_same
    have hs2 := hs1.new (o := .lst []) htl
    have nta := hs1.ne_a htl
    have ntb := hs1.ne_b htl
    have nlt : lp ≠ tl := ne_of_none hlp1 htl
    have hlp2 := u2 _ _ hlp1
    have hT2 := (hT0.ext u1).ext u2
    generalize upd H1 tl (.lst []) = H2 at u2 htl2 hs2 hlp2 hT2
    clear u1 u2 hs0 hs1 hT0 hlp1
    walk_at "vc"
    refine for_range (n := 2) (fun j σ H' => (∃ y4 y5 y6 y7 y8 y9 y10, σ = [some (.ref a0), some (.ref a), some (.ref lp), some (.ref tl), y4, y5, y6, y7, y8, y9, y10]) ∧ LamX.TabS H' PT qL ∧
      ((j = 0 ∧ H' lp = some (.lst []) ∧ H' tl = some (.lst []) ∧ Src H' a b) ∨
       (j = 1 ∧ ∃ x1 f1 s1 t1 sp1 rp1, One1 cShelf H' a b x1 f1 s1 [(lp, .lst [.ref x1]), (tl, .lst [.ref t1]), (t1, .tup [.str (S s1.lets), .ref sp1, .ref rp1]), (sp1, .lst (s1.sds.map strV)), (rp1, .lst (s1.rows.map strV))] ∧ ((∀ q ∈ [tl, t1, sp1, rp1], q ≠ lp) ∧ (∀ q ∈ [t1, sp1, rp1], q ≠ tl) ∧ (∀ q ∈ [lp, tl, t1, sp1], q ≠ rp1)) ∧ Lets s1.lets ∧ s1.rows = []) ∨
       (j = 2 ∧ ∃ x1 f1 s1 t1 sp1 rp1 x2 f2 s2 t2 sp2 rp2, TwoS cShelf H' a b x1 f1 s1 x2 f2 s2 [(rp1, .lst (s1.rows.map strV)), (rp2, .lst (s2.rows.map strV)), (lp, .lst [.ref x1, .ref x2]), (tl, .lst [.ref t1, .ref t2]), (t1, .tup [.str (S s1.lets), .ref sp1, .ref rp1]), (sp1, .lst (s1.sds.map strV)), (t2, .tup [.str (S s2.lets), .ref sp2, .ref rp2]), (sp2, .lst (s2.sds.map strV))] ∧ (rp1 ≠ rp2 ∧ ∀ q ∈ [lp, tl, t1, sp1, t2, sp2], q ≠ rp1 ∧ q ≠ rp2) ∧ Lets s1.lets ∧ s1.rows = [] ∧ Lets s2.lets ∧ s2.rows = []))) ⟨⟨_, _, _, _, _, _, _, rfl⟩, hT2, .inl ⟨rfl, hlp2, htl2, hs2⟩⟩ ?_ ?_
    · clear hlp2 htl2 hs2 hT2
      rintro j σ H3 hj ⟨⟨y4, y5, y6, y7, y8, y9, y10, rfl⟩, hT3, hst⟩
      have hs3 : Src H3 a b := by
        rcases hst with ⟨_, _, _, h⟩ | ⟨_, x1, f1, s1, t1, sp1, rp1, O, _⟩ | ⟨h, _⟩
        · exact h
        · exact O.src
        · omega
      walk_at "vc"
      refine ⟨a, b, rfl, hs3, fun t n H4 ht26 hn2 hn6 hs4 k4 => ?_⟩
      have hlets : Lets (letL t n) := ⟨t, n, rfl, ht26, hn2, hn6⟩
      have hT4 := k4.tab hs3 hT3
      walk_at "vc"
      refine ⟨a, b, 6, rfl, hs4, by omega, by omega, fun sp sds H5 hsd6 h1 h3 hsp5 hsp05 nsa nsb hs5 k5 => ?_⟩
      have hsd : ∀ sd ∈ sds, Sd 8 sd := fun sd h => (hsd6 sd h).wide (by omega)
      have hT5 := k5.tab hs4 hT4
      walk_at "vc"
      intro hd hhd
      have u6 : Same H5 (upd H5 hd (.lst (sds.map strV))) := same_upd hhd
      have hhd6 : upd H5 hd (.lst (sds.map strV)) hd = some (.lst (sds.map strV)) := upd_same
      have hs6 := hs5.new (o := .lst (sds.map strV)) hhd
      have nha := hs5.ne_a hhd
      have nhb := hs5.ne_b hhd
      have nhs : sp ≠ hd := ne_of_none hsp5 hhd
      have hsp6 := u6 _ _ hsp5
      have hT6 := hT5.ext u6
      generalize upd H5 hd (.lst (sds.map strV)) = H6 at u6 hhd6 hs6 hsp6 hT6
      walk_at "vc"
      obtain ⟨xl, hxl6, hxl⟩ : ∃ xl : List V, H6 lp = some (.lst xl) ∧ xl.length ≤ 2 := by
        have e : ∀ o, H3 lp = some o → H6 lp = some o := fun o e => u6 _ _ (k5 _ _ nla nlb (k4 _ _ nla nlb e))
        rcases hst with ⟨_, h, _⟩ | ⟨_, x1, f1, s1, t1, sp1, rp1, O, _⟩ | ⟨h, _⟩
        · exact ⟨_, e _ h, by simp⟩
        · exact ⟨[.ref x1], e _ (O.get (r := lp) (o := .lst [.ref x1]) (by simp)), by simp⟩
        · omega
      refine ⟨.inl ⟨rfl, _, SqL.of hxl6⟩, ?_⟩
      walk_at "vc"
      refine ⟨a, b, rfl, hs6, fun g l ps H7 g1 g9 l1 l9 hps npa npb hs7 k7 => ?_⟩
      have hT7 := k7.tab hs6 hT6
      have hsp7 := k7 _ _ nsa nsb hsp6
      have hhd7 := k7 _ _ nha nhb hhd6
      have hxl7 := k7 _ _ nla nlb hxl6
      walk_at "vc"
      intro x dx hx hdx hne
      have c1 : Same H7 (upd (upd H7 dx (.own x)) x (.ins cShelf dx [])) := fun b o e => by
        rw [upd_ne (ne_of_none e hx), upd_ne (ne_of_none e hdx)]
        exact e
      refine ⟨x, dx, ps, hd, letL t n, g, l, sds, rfl, upd_same, hlets, c1 _ _ hps, g1, g9, l1, l9, c1 _ _ hhd7, hsd, h1, h3, hT7.ext c1, fun f0 H8 sh8 fo0 kp0 => ⟨rfl, ?_⟩⟩
      have st8 : SmT PT qL H7 H8 := kp0.to hx c1
      have fn8 : ∀ b ∈ f0, H7 b = none := fun b hb => by
        rcases fo0 b hb with e | e
        · rw [e]; exact hx
        · exact upd2_none e
      have hT8 := st8.t hT7
      have hs8 := Src_smT hs7 st8
      have hsp8 := st8.lst hsp7
      have hhd8 := st8.lst hhd7
      have hxl8 := st8.lst hxl7
      have out8 : ∀ b o, H7 b = some o → b ∉ f0 := fun b o e hm => by
        rw [fn8 b hm] at e
        cases e
      have naf : a ∉ f0 := by
        obtain ⟨_, e1⟩ := hs7.la
        exact out8 _ _ e1
      have nbf : b ∉ f0 := by
        obtain ⟨_, e1⟩ := hs7.lb
        exact out8 _ _ e1
      rcases hst with ⟨rfl, hl3, ht3, _⟩ | ⟨rfl, x1, f1, s1, t1, sp1, rp1, O, ⟨NA, NB, NC⟩, hl1, hr1⟩ | ⟨h, _⟩
      · have hlp7 := k7 _ _ nla nlb (u6 _ _ (k5 _ _ nla nlb (k4 _ _ nla nlb hl3)))
        have htl7 := k7 _ _ nta ntb (u6 _ _ (k5 _ _ nta ntb (k4 _ _ nta ntb ht3)))
        have hlp8 := st8.lst hlp7
        have htl8 := st8.lst htl7
        have nlh : lp ≠ hd := ne_of_none (k5 _ _ nla nlb (k4 _ _ nla nlb hl3)) hhd
        have nth : tl ≠ hd := ne_of_none (k5 _ _ nta ntb (k4 _ _ nta ntb ht3)) hhd
        have nls : lp ≠ sp := ne_of_none (k4 _ _ nla nlb hl3) hsp05
        have nts : tl ≠ sp := ne_of_none (k4 _ _ nta ntb ht3) hsp05
        have T8 : One1 cShelf H8 a b x f0 ⟨letL t n, g, l, sds, []⟩ [(lp, .lst []), (tl, .lst []), (sp, .lst (sds.map strV)), (hd, .lst (sds.map strV))] := by
          refine ⟨sh8, hs8, naf, nbf, fun tt htt => ?_⟩
          simp only [List.mem_cons, List.not_mem_nil, or_false] at htt
          rcases htt with e | e | e | e
          · rw [e]; exact ⟨hlp8, out8 _ _ hlp7, nla, nlb⟩
          · rw [e]; exact ⟨htl8, out8 _ _ htl7, nta, ntb⟩
          · rw [e]; exact ⟨hsp8, out8 _ _ hsp7, nsa, nsb⟩
          · rw [e]; exact ⟨hhd8, out8 _ _ hhd7, nha, nhb⟩
        walk_at "vc"
        refine x_append hlp8 (by decide) ?_
        have T9 := T8.chg (o' := .lst (([] : List V) ++ [.ref x])) (fun tt htt => (by simp only [List.mem_cons, List.not_mem_nil, or_false] at htt; rcases htt with e | e | e <;> rw [e] <;> first | assumption | exact Ne.symm (by assumption))) (fun xs e => nomatch e)
        have hT9 : LamX.TabS (upd H8 lp (.lst (([] : List V) ++ [.ref x]))) PT qL := tabS_upd hT8 (fun _ z => nomatch hlp8.symm.trans z) (fun _ z => nomatch hlp8.symm.trans z)
        generalize upd H8 lp (.lst (([] : List V) ++ [.ref x])) = H9 at T9 hT9
        replace T9 := T9.less (Tr' := [(hd, .lst (sds.map strV)), (lp, .lst (([] : List V) ++ [.ref x])), (tl, .lst ([] : List V)), (sp, .lst (sds.map strV))]) (fun tt htt => by simp only [List.mem_cons, List.not_mem_nil, or_false] at htt ⊢; rcases htt with e | e | e | e <;> simp [e])
        have hhd9 := T9.get (r := hd) (o := .lst (sds.map strV)) (by simp)
        walk_at "vc"
        refine ⟨.inl ⟨rfl, _, SqL.of hhd9⟩, ?_⟩
        refine ⟨hd, _, rfl, rfl, hhd9, ?_⟩
        have T10 := T9.chg (o' := .lst []) (fun tt htt => (by simp only [List.mem_cons, List.not_mem_nil, or_false] at htt; rcases htt with e | e | e <;> rw [e] <;> first | assumption | exact Ne.symm (by assumption))) (fun xs e => nomatch e)
        have hT10 : LamX.TabS (upd H9 hd (.lst [])) PT qL := tabS_upd hT9 (fun _ z => nomatch hhd9.symm.trans z) (fun _ z => nomatch hhd9.symm.trans z)
        generalize upd H9 hd (.lst []) = H10 at T10 hT10
        have htl10 := T10.get (r := tl) (o := .lst ([] : List V)) (by simp)
        walk_at "vc"
        refine ⟨.inl ⟨rfl, _, SqL.of htl10⟩, ?_⟩
        walk_at "vc"
        refine ⟨by decide, fun rp hrp => ?_⟩
        have T11 := T10.new (o := .lst []) hrp
        have ⟨nf1, nf2, nf3, nf4⟩ := T10.no hrp
        have hT11 := hT10.ext (same_upd (o := .lst []) hrp)
        generalize upd H10 rp (.lst []) = H11 at T11 hT11
        walk_at "vc"
        refine ⟨show 3 ≤ sizeLine by decide, fun tp htp => ?_⟩
        have T12 := T11.new (o := .tup [.str (S (letL t n)), .ref sp, .ref rp]) htp
        have ⟨ng1, ng2, ng3, ng4⟩ := T11.no htp
        have hT12 := hT11.ext (same_upd (o := .tup [.str (S (letL t n)), .ref sp, .ref rp]) htp)
        generalize upd H11 tp (.tup [.str (S (letL t n)), .ref sp, .ref rp]) = H12 at T12 hT12
        have hf0 : rp ≠ tl := nf4 (tl, .lst ([] : List V)) (by simp)
        have hf1 : rp ≠ lp := nf4 (lp, .lst (([] : List V) ++ [.ref x])) (by simp)
        have hf2 : rp ≠ sp := nf4 (sp, .lst (sds.map strV)) (by simp)
        have hg0 : tp ≠ tl := ng4 (tl, .lst ([] : List V)) (by simp)
        have hg1 : tp ≠ lp := ng4 (lp, .lst (([] : List V) ++ [.ref x])) (by simp)
        have hg2 : tp ≠ sp := ng4 (sp, .lst (sds.map strV)) (by simp)
        have hg3 : tp ≠ rp := ng4 (rp, .lst []) (by simp)
        replace T12 := T12.less (Tr' := [(tl, .lst ([] : List V)), (lp, .lst (([] : List V) ++ [.ref x])), (tp, .tup [.str (S (letL t n)), .ref sp, .ref rp]), (sp, .lst (sds.map strV)), (rp, .lst [])]) (fun tt htt => by simp only [List.mem_cons, List.not_mem_nil, or_false] at htt ⊢; rcases htt with e | e | e | e | e <;> simp [e])
        have htl12 := T12.get (r := tl) (o := .lst ([] : List V)) (by simp)
        walk_at "vc"
        refine x_append htl12 (by decide) ?_
        have T13 := T12.chg (o' := .lst (([] : List V) ++ [.ref tp])) (fun tt htt => (by simp only [List.mem_cons, List.not_mem_nil, or_false] at htt; rcases htt with e | e | e | e <;> rw [e] <;> first | assumption | exact Ne.symm (by assumption))) (fun xs e => nomatch e)
        have hT13 : LamX.TabS (upd H12 tl (.lst (([] : List V) ++ [.ref tp]))) PT qL := tabS_upd hT12 (fun _ z => nomatch htl12.symm.trans z) (fun _ z => nomatch htl12.symm.trans z)
        generalize upd H12 tl (.lst (([] : List V) ++ [.ref tp])) = H13 at T13 hT13
        refine ⟨⟨_, _, _, _, _, _, _, rfl⟩, hT13, .inr (.inl ⟨rfl, x, f0, ⟨letL t n, g, l, sds, []⟩, tp, sp, rp, T13.less (fun tt htt => by simp only [List.mem_cons, List.not_mem_nil, or_false] at htt ⊢; rcases htt with e | e | e | e | e <;> simp [e]), ⟨?_, ?_, ?_⟩, hlets, rfl⟩)⟩
        · intro q hq
          simp only [List.mem_cons, List.not_mem_nil, or_false] at hq
          rcases hq with e | e | e | e <;> rw [e] <;> first | assumption | exact Ne.symm (by assumption)
        · intro q hq
          simp only [List.mem_cons, List.not_mem_nil, or_false] at hq
          rcases hq with e | e | e <;> rw [e] <;> first | assumption | exact Ne.symm (by assumption)
        · intro q hq
          simp only [List.mem_cons, List.not_mem_nil, or_false] at hq
          rcases hq with e | e | e | e <;> rw [e] <;> first | assumption | exact Ne.symm (by assumption)
      · have O4 := O.kp k4 hs4
        have O5 := O4.kp k5 hs5
        have O7 := (O5.same u6).kp k7 hs7
        have O8 := O7.smT st8 (fun tt htt ps' e => by
          simp only [List.mem_cons, List.not_mem_nil, or_false] at htt
          rcases htt with h | h | h | h | h <;> (rw [h] at e; cases e))
        have hlp8 := O8.get (r := lp) (o := .lst [.ref x1]) (by simp)
        have na1 : tl ≠ lp := NA _ (by simp)
        have na2 : t1 ≠ lp := NA _ (by simp)
        have na3 : sp1 ≠ lp := NA _ (by simp)
        have na4 : rp1 ≠ lp := NA _ (by simp)
        have nb1 : t1 ≠ tl := NB _ (by simp)
        have nb2 : sp1 ≠ tl := NB _ (by simp)
        have nb3 : rp1 ≠ tl := NB _ (by simp)
        have nc1 : t1 ≠ rp1 := NC _ (by simp)
        have nc2 : sp1 ≠ rp1 := NC _ (by simp)
        have nh : ∀ (r : Addr) (o : HO), (r, o) ∈ ([(lp, .lst [.ref x1]), (tl, .lst [.ref t1]), (t1, .tup [.str (S s1.lets), .ref sp1, .ref rp1]), (sp1, .lst (s1.sds.map strV)), (rp1, .lst (s1.rows.map strV))] : List (Addr × HO)) → r ≠ hd ∧ r ≠ sp := fun r o hm => ⟨ne_of_none (O5.get hm) hhd, ne_of_none (O4.get hm) hsp05⟩
        obtain ⟨nh1, ns1⟩ := nh lp (.lst [.ref x1]) (by simp)
        obtain ⟨nh2, ns2⟩ := nh tl (.lst [.ref t1]) (by simp)
        obtain ⟨nh3, ns3⟩ := nh t1 (.tup [.str (S s1.lets), .ref sp1, .ref rp1]) (by simp)
        obtain ⟨nh4, ns4⟩ := nh sp1 (.lst (s1.sds.map strV)) (by simp)
        obtain ⟨nh5, ns5⟩ := nh rp1 (.lst (s1.rows.map strV)) (by simp)
        have sf : sp ∉ f1 := fun hm => by
          obtain ⟨o, eo⟩ := O4.sh.here _ hm
          rw [hsp05] at eo
          cases eo
        have hf : hd ∉ f1 := fun hm => by
          obtain ⟨o, eo⟩ := O5.sh.here _ hm
          rw [hhd] at eo
          cases eo
        have T8 : TwoS cShelf H8 a b x1 f1 s1 x f0 ⟨letL t n, g, l, sds, []⟩ [(lp, .lst [.ref x1]), (tl, .lst [.ref t1]), (t1, .tup [.str (S s1.lets), .ref sp1, .ref rp1]), (sp1, .lst (s1.sds.map strV)), (rp1, .lst (s1.rows.map strV)), (sp, .lst (sds.map strV)), (hd, .lst (sds.map strV))] := by
          refine ⟨⟨O8.sh, sh8, fun q hq => ?_, fun tt htt => ?_⟩, hs8, ⟨O8.na, O8.nb⟩, ⟨naf, nbf⟩, fun tt htt => ?_⟩
          · obtain ⟨o, eo⟩ := O7.sh.here q hq
            exact out8 q o eo
          · simp only [List.mem_cons, List.not_mem_nil, or_false] at htt
            rcases htt with e | e | e | e | e | e | e
            · rw [e]; have z := O8.tr (lp, .lst [.ref x1]) (by simp); exact ⟨z.1, z.2.1, out8 _ _ (O7.get (r := lp) (o := .lst [.ref x1]) (by simp))⟩
            · rw [e]; have z := O8.tr (tl, .lst [.ref t1]) (by simp); exact ⟨z.1, z.2.1, out8 _ _ (O7.get (r := tl) (o := .lst [.ref t1]) (by simp))⟩
            · rw [e]; have z := O8.tr (t1, .tup [.str (S s1.lets), .ref sp1, .ref rp1]) (by simp); exact ⟨z.1, z.2.1, out8 _ _ (O7.get (r := t1) (o := .tup [.str (S s1.lets), .ref sp1, .ref rp1]) (by simp))⟩
            · rw [e]; have z := O8.tr (sp1, .lst (s1.sds.map strV)) (by simp); exact ⟨z.1, z.2.1, out8 _ _ (O7.get (r := sp1) (o := .lst (s1.sds.map strV)) (by simp))⟩
            · rw [e]; have z := O8.tr (rp1, .lst (s1.rows.map strV)) (by simp); exact ⟨z.1, z.2.1, out8 _ _ (O7.get (r := rp1) (o := .lst (s1.rows.map strV)) (by simp))⟩
            · rw [e]; exact ⟨hsp8, sf, out8 _ _ hsp7⟩
            · rw [e]; exact ⟨hhd8, hf, out8 _ _ hhd7⟩
          · simp only [List.mem_cons, List.not_mem_nil, or_false] at htt
            rcases htt with e | e | e | e | e | e | e
            · rw [e]; exact (O8.tr (lp, .lst [.ref x1]) (by simp)).2.2
            · rw [e]; exact (O8.tr (tl, .lst [.ref t1]) (by simp)).2.2
            · rw [e]; exact (O8.tr (t1, .tup [.str (S s1.lets), .ref sp1, .ref rp1]) (by simp)).2.2
            · rw [e]; exact (O8.tr (sp1, .lst (s1.sds.map strV)) (by simp)).2.2
            · rw [e]; exact (O8.tr (rp1, .lst (s1.rows.map strV)) (by simp)).2.2
            · rw [e]; exact ⟨nsa, nsb⟩
            · rw [e]; exact ⟨nha, nhb⟩
        walk_at "vc"
        refine x_append hlp8 (show 1 < sizeLine by decide) ?_
        have T9 := T8.chg (o' := .lst ([.ref x1] ++ [.ref x])) (fun tt htt => (by simp only [List.mem_cons, List.not_mem_nil, or_false] at htt; rcases htt with e | e | e | e | e | e <;> rw [e] <;> first | assumption | exact Ne.symm (by assumption))) (fun xs e => nomatch e)
        have hT9 : LamX.TabS (upd H8 lp (.lst ([.ref x1] ++ [.ref x]))) PT qL := tabS_upd hT8 (fun _ z => nomatch hlp8.symm.trans z) (fun _ z => nomatch hlp8.symm.trans z)
        generalize upd H8 lp (.lst ([.ref x1] ++ [.ref x])) = H9 at T9 hT9
        replace T9 := T9.less (Tr' := [(hd, .lst (sds.map strV)), (lp, .lst ([.ref x1] ++ [.ref x])), (tl, .lst [.ref t1]), (sp, .lst (sds.map strV)), (t1, .tup [.str (S s1.lets), .ref sp1, .ref rp1]), (sp1, .lst (s1.sds.map strV)), (rp1, .lst (s1.rows.map strV))]) (fun tt htt => by simp only [List.mem_cons, List.not_mem_nil, or_false] at htt ⊢; rcases htt with e | e | e | e | e | e | e <;> simp [e])
        have hhd9 := T9.get (r := hd) (o := .lst (sds.map strV)) (by simp)
        walk_at "vc"
        refine ⟨.inl ⟨rfl, _, SqL.of hhd9⟩, ?_⟩
        refine ⟨hd, _, rfl, rfl, hhd9, ?_⟩
        have T10 := T9.chg (o' := .lst []) (fun tt htt => (by simp only [List.mem_cons, List.not_mem_nil, or_false] at htt; rcases htt with e | e | e | e | e | e <;> rw [e] <;> first | assumption | exact Ne.symm (by assumption))) (fun xs e => nomatch e)
        have hT10 : LamX.TabS (upd H9 hd (.lst [])) PT qL := tabS_upd hT9 (fun _ z => nomatch hhd9.symm.trans z) (fun _ z => nomatch hhd9.symm.trans z)
        generalize upd H9 hd (.lst []) = H10 at T10 hT10
        have htl10 := T10.get (r := tl) (o := .lst [.ref t1]) (by simp)
        walk_at "vc"
        refine ⟨.inl ⟨rfl, _, SqL.of htl10⟩, ?_⟩
        walk_at "vc"
        refine ⟨by decide, fun rp hrp => ?_⟩
        have T11 := T10.new (o := .lst []) hrp
        have ⟨nf1, nf2, nf4⟩ := T10.two.no hrp
        have hT11 := hT10.ext (same_upd (o := .lst []) hrp)
        generalize upd H10 rp (.lst []) = H11 at T11 hT11
        walk_at "vc"
        refine ⟨show 3 ≤ sizeLine by decide, fun tp htp => ?_⟩
        have T12 := T11.new (o := .tup [.str (S (letL t n)), .ref sp, .ref rp]) htp
        have ⟨ng1, ng2, ng4⟩ := T11.two.no htp
        have hT12 := hT11.ext (same_upd (o := .tup [.str (S (letL t n)), .ref sp, .ref rp]) htp)
        generalize upd H11 tp (.tup [.str (S (letL t n)), .ref sp, .ref rp]) = H12 at T12 hT12
        have hf0 : rp ≠ tl := nf4 (tl, .lst [.ref t1]) (by simp)
        have hf1 : rp ≠ lp := nf4 (lp, .lst ([.ref x1] ++ [.ref x])) (by simp)
        have hf2 : rp ≠ sp := nf4 (sp, .lst (sds.map strV)) (by simp)
        have hf3 : rp ≠ t1 := nf4 (t1, .tup [.str (S s1.lets), .ref sp1, .ref rp1]) (by simp)
        have hf4 : rp ≠ sp1 := nf4 (sp1, .lst (s1.sds.map strV)) (by simp)
        have hf5 : rp ≠ rp1 := nf4 (rp1, .lst (s1.rows.map strV)) (by simp)
        have hg0 : tp ≠ tl := ng4 (tl, .lst [.ref t1]) (by simp)
        have hg1 : tp ≠ lp := ng4 (lp, .lst ([.ref x1] ++ [.ref x])) (by simp)
        have hg2 : tp ≠ sp := ng4 (sp, .lst (sds.map strV)) (by simp)
        have hg3 : tp ≠ t1 := ng4 (t1, .tup [.str (S s1.lets), .ref sp1, .ref rp1]) (by simp)
        have hg4 : tp ≠ sp1 := ng4 (sp1, .lst (s1.sds.map strV)) (by simp)
        have hg5 : tp ≠ rp1 := ng4 (rp1, .lst (s1.rows.map strV)) (by simp)
        have hg6 : tp ≠ rp := ng4 (rp, .lst []) (by simp)
        replace T12 := T12.less (Tr' := [(tl, .lst [.ref t1]), (lp, .lst ([.ref x1] ++ [.ref x])), (tp, .tup [.str (S (letL t n)), .ref sp, .ref rp]), (sp, .lst (sds.map strV)), (rp, .lst []), (t1, .tup [.str (S s1.lets), .ref sp1, .ref rp1]), (sp1, .lst (s1.sds.map strV)), (rp1, .lst (s1.rows.map strV))]) (fun tt htt => by simp only [List.mem_cons, List.not_mem_nil, or_false] at htt ⊢; rcases htt with e | e | e | e | e | e | e | e <;> simp [e])
        have htl12 := T12.get (r := tl) (o := .lst [.ref t1]) (by simp)
        walk_at "vc"
        refine x_append htl12 (show 1 < sizeLine by decide) ?_
        have T13 := T12.chg (o' := .lst ([.ref t1] ++ [.ref tp])) (fun tt htt => (by simp only [List.mem_cons, List.not_mem_nil, or_false] at htt; rcases htt with e | e | e | e | e | e | e <;> rw [e] <;> first | assumption | exact Ne.symm (by assumption))) (fun xs e => nomatch e)
        have hT13 : LamX.TabS (upd H12 tl (.lst ([.ref t1] ++ [.ref tp]))) PT qL := tabS_upd hT12 (fun _ z => nomatch htl12.symm.trans z) (fun _ z => nomatch htl12.symm.trans z)
        generalize upd H12 tl (.lst ([.ref t1] ++ [.ref tp])) = H13 at T13 hT13
        refine ⟨⟨_, _, _, _, _, _, _, rfl⟩, hT13, .inr (.inr ⟨rfl, x1, f1, s1, t1, sp1, rp1, x, f0, ⟨letL t n, g, l, sds, []⟩, tp, sp, rp, T13.less (fun tt htt => by simp only [List.mem_cons, List.not_mem_nil, or_false] at htt ⊢; rcases htt with e | e | e | e | e | e | e | e <;> simp [e]), ⟨Ne.symm hf5, fun q hq => ?_⟩, hl1, hr1, hlets, rfl⟩)⟩
        simp only [List.mem_cons, List.not_mem_nil, or_false] at hq
        rcases hq with e | e | e | e | e | e <;> rw [e] <;> constructor <;> first | assumption | exact Ne.symm (by assumption)
      · omega
    rintro σ H3 ⟨⟨y4, y5, y6, y7, y8, y9, y10, rfl⟩, _, hst⟩
    rcases hst with ⟨h, _⟩ | ⟨h, _⟩ | ⟨_, x1, f1, s1, t1, sp1, rp1, x2, f2, s2, t2, sp2, rp2, T3, ⟨hne, NQ⟩, hl1, hr1, hl2, hr2⟩
    · omega
    · omega
    obtain ⟨L1, g1, l1, sds1, rows1⟩ := s1
    obtain ⟨L2, g2, l2, sds2, rows2⟩ := s2
    obtain rfl : rows1 = [] := hr1
    obtain rfl : rows2 = [] := hr2
    have hl1 : Lets L1 := hl1
    have hl2 : Lets L2 := hl2
    have ok1 := T3.two.one.ok
    have ok2 := T3.two.two.ok
    have hsd1 : ∀ sd ∈ sds1, Sd 8 sd := ok1.sd
    have hsd2 : ∀ sd ∈ sds2, Sd 8 sd := ok2.sd
    have h31 : sds1.length ≤ 3 := ok1.three
    have h32 : sds2.length ≤ 3 := ok2.three
    obtain ⟨z11, z12, z13, z14⟩ := letL_ok hl1
    obtain ⟨z21, z22, z23, z24⟩ := letL_ok hl2
    have lc1 : ∀ c ∈ L1, c < 1114112 := fun c hc => by have := z13 c hc; omega
    have lc2 : ∀ c ∈ L2, c < 1114112 := fun c hc => by have := z23 c hc; omega
    have q1 : lp ≠ rp1 ∧ lp ≠ rp2 := NQ _ (by simp)
    have q2 : tl ≠ rp1 ∧ tl ≠ rp2 := NQ _ (by simp)
    have q3 : t1 ≠ rp1 ∧ t1 ≠ rp2 := NQ _ (by simp)
    have q4 : sp1 ≠ rp1 ∧ sp1 ≠ rp2 := NQ _ (by simp)
    have q5 : t2 ≠ rp1 ∧ t2 ≠ rp2 := NQ _ (by simp)
    have q6 : sp2 ≠ rp1 ∧ sp2 ≠ rp2 := NQ _ (by simp)
    obtain ⟨q11, q12⟩ := q1
    obtain ⟨q21, q22⟩ := q2
    obtain ⟨q31, q32⟩ := q3
    obtain ⟨q41, q42⟩ := q4
    obtain ⟨q51, q52⟩ := q5
    obtain ⟨q61, q62⟩ := q6
    have hne' := Ne.symm hne
    walk_at "vc"
    refine ⟨a, b, 6, rfl, T3.src, by omega, by omega, fun u H4 u0 u1 hs4 k4 => ?_⟩
    have T4 := T3.kp k4 hs4
    clear T3 k4 hs4
    walk_at "vc"
    have eu : (2 + u : Int).toNat = u.toNat + 2 := by omega
    rw [eu]
    refine for_range (fun j σ H' => ∃ y4 y5 y6 y7 y8 y9 y10 f1 rows1 f2 rows2, σ = [some (.ref a0), some (.ref a), some (.ref lp), some (.ref tl), y4, y5, y6, y7, y8, y9, y10] ∧ TwoS cShelf H' a b x1 f1 ⟨L1, g1, l1, sds1, rows1⟩ x2 f2 ⟨L2, g2, l2, sds2, rows2⟩ [(rp1, .lst (rows1.map strV)), (rp2, .lst (rows2.map strV)), (lp, .lst [.ref x1, .ref x2]), (tl, .lst [.ref t1, .ref t2]), (t1, .tup [.str (S L1), .ref sp1, .ref rp1]), (sp1, .lst (sds1.map strV)), (t2, .tup [.str (S L2), .ref sp2, .ref rp2]), (sp2, .lst (sds2.map strV))] ∧ rows1.length ≤ j ∧ rows2.length ≤ j ∧ (∀ z ∈ rows1, z.length ≤ 60 ∧ ∀ c ∈ z, c ∈ L1) ∧ (∀ z ∈ rows2, z.length ≤ 60 ∧ ∀ c ∈ z, c ∈ L2)) ⟨_, _, _, _, _, _, _, f1, [], f2, [], rfl, T4, Nat.le_refl _, Nat.le_refl _, fun z hz => (nomatch hz), fun z hz => (nomatch hz)⟩ ?_ ?_
    · clear T4
      rintro j σ H5 hj ⟨y4, y5, y6, y7, y8, y9, y10, f1, rows1, f2, rows2, rfl, T5, rl1, rl2, rz1, rz2⟩
      have hj7 : j < 7 := by omega
      walk_at "vc"
      refine ⟨a, b, 2, rfl, T5.src, by omega, by omega, fun side H6 sd0 sd1 hs6 k6 => ?_⟩
      have T6 := T5.kp k6 hs6
      clear T5 k6 hs6
      have hside : side = 0 ∨ side = 1 := by omega
      rcases hside with rfl | rfl
      · have T7 : TwoS cShelf H6 a b x1 f1 ⟨L1, g1, l1, sds1, rows1⟩ x2 f2 ⟨L2, g2, l2, sds2, rows2⟩ [(rp1, .lst (rows1.map strV)), (rp2, .lst (rows2.map strV)), (lp, .lst [.ref x1, .ref x2]), (tl, .lst [.ref t1, .ref t2]), (t1, .tup [.str (S L1), .ref sp1, .ref rp1]), (sp1, .lst (sds1.map strV)), (t2, .tup [.str (S L2), .ref sp2, .ref rp2]), (sp2, .lst (sds2.map strV))] := T6.less (fun tt htt => by simp only [List.mem_cons, List.not_mem_nil, or_false] at htt ⊢; rcases htt with e | e | e | e | e | e | e | e <;> simp [e])
        clear T6
        have hCd : Cd rows1 := fun z hz c hc => lc1 c ((rz1 z hz).2 c hc)
        walk_at "vc"
        refine x_ixL (SqL.of (T7.get (r := tl) (o := .lst [.ref t1, .ref t2]) (by simp))) (v := .ref t1) rfl ?_
        refine x_gTup (SqT.of (T7.get (r := t1) (o := .tup [.str (S L1), .ref sp1, .ref rp1]) (by simp))) rfl ?_
        walk_at "vc0"
        refine x_cutS (fun σ H' => ∃ y7 y10 f' rows', σ = [some (.ref a0), some (.ref a), some (.ref lp), some (.ref tl), some (.int 0), some (.str (S L1)), some (.ref sp1), y7, some (.int (0 + (j : Int))), some (.ref rp1), y10] ∧ TwoS cShelf H' a b x1 f' ⟨L1, g1, l1, sds1, rows'⟩ x2 f2 ⟨L2, g2, l2, sds2, rows2⟩ [(rp1, .lst (rows'.map strV)), (rp2, .lst (rows2.map strV)), (lp, .lst [.ref x1, .ref x2]), (tl, .lst [.ref t1, .ref t2]), (t1, .tup [.str (S L1), .ref sp1, .ref rp1]), (sp1, .lst (sds1.map strV)), (t2, .tup [.str (S L2), .ref sp2, .ref rp2]), (sp2, .lst (sds2.map strV))] ∧ rows'.length ≤ j + 1 ∧ ∀ z ∈ rows', z.length ≤ 60 ∧ ∀ c ∈ z, c ∈ L1) (fun nx hnx => ?_) ?_
        · refine x_ifS ?_
          refine x_cutT (fun c H' => TwoS cShelf H' a b x1 f1 ⟨L1, g1, l1, sds1, rows1⟩ x2 f2 ⟨L2, g2, l2, sds2, rows2⟩ [(rp1, .lst (rows1.map strV)), (rp2, .lst (rows2.map strV)), (lp, .lst [.ref x1, .ref x2]), (tl, .lst [.ref t1, .ref t2]), (t1, .tup [.str (S L1), .ref sp1, .ref rp1]), (sp1, .lst (sds1.map strV)), (t2, .tup [.str (S L2), .ref sp2, .ref rp2]), (sp2, .lst (sds2.map strV))] ∧ (c = false → rows1 ≠ [])) (fun R' hR => ?_) ?_
          · walk_at "vc"
            refine ⟨by decide, fun ep hep => ?_⟩
            have T8 := T7.new (o := .lst []) hep
            generalize upd H6 ep (.lst []) = H7 at T8
            refine eqS_nil hCd (T8.get (r := rp1) (o := .lst (rows1.map strV)) (by simp)) (T8.get (r := ep) (o := .lst []) (by simp)) ?_
            replace T8 := T8.less (Tr' := [(rp1, .lst (rows1.map strV)), (rp2, .lst (rows2.map strV)), (lp, .lst [.ref x1, .ref x2]), (tl, .lst [.ref t1, .ref t2]), (t1, .tup [.str (S L1), .ref sp1, .ref rp1]), (sp1, .lst (sds1.map strV)), (t2, .tup [.str (S L2), .ref sp2, .ref rp2]), (sp2, .lst (sds2.map strV))]) (fun tt htt => List.mem_cons_of_mem _ htt)
            cases hre : rows1 with
            | nil =>
              rw [List.isEmpty_nil]
              walk_at "vc"
              exact hR _ _ ⟨T8, fun h => nomatch h⟩
            | cons r0 rest =>
              rw [show (r0 :: rest).isEmpty = false from rfl]
              walk_at "vc"
              refine ⟨a, b, 2, rfl, T8.src, by omega, by omega, fun v H8 v0 v1 hs8 k8 => ?_⟩
              walk_at "vc"
              exact hR _ _ ⟨T8.kp k8 hs8, fun _ => by rw [hre]; simp⟩
          rintro c H8 ⟨T8, hc⟩
          cases c with
          | true =>
            walk_at "vc"
            refine ⟨.inl ⟨rfl, _, SqL.of (T8.get (r := rp1) (o := .lst (rows1.map strV)) (by simp))⟩, ?_⟩
            walk_at "vc"
            refine ⟨a, b, L1, 30, rfl, T8.src, by omega, by omega, by omega, by omega, fun z H9 hz hzl hs9 k9 => ?_⟩
            have T9 := T8.kp k9 hs9
            clear T8 k9 hs9
            walk_at "vc"
            refine x_append (T9.get (r := rp1) (o := .lst (rows1.map strV)) (by simp)) (by rw [List.length_map]; exact Nat.lt_of_le_of_lt (by omega : _ ≤ 10) (by decide)) ?_
            have T10 := T9.chg (o' := .lst ((rows1 ++ [z]).map strV)) (fun tt htt => (by simp only [List.mem_cons, List.not_mem_nil, or_false] at htt; rcases htt with e | e | e | e | e | e | e <;> rw [e] <;> first | assumption | exact Ne.symm (by assumption))) (fun xs e => nomatch e)
            rw [show rows1.map strV ++ [V.str (S z)] = (rows1 ++ [z]).map strV by rw [List.map_append]; rfl]
            generalize upd H9 rp1 (.lst ((rows1 ++ [z]).map strV)) = H10 at T10 ⊢
            clear T9
            walk_at "vc"
            refine x_ixL (SqL.of (T10.get (r := lp) (o := .lst [.ref x1, .ref x2]) (by simp))) (v := .ref x1) rfl ?_
            obtain ⟨dx, fs, i1, i2, _⟩ := T10.two.one.ins
            refine ⟨x1, dx, fs, rfl, i1, i2, ?_⟩
            walk_at "vc"
            refine x_ixL (SqL.of (T10.get (r := rp1) (o := .lst ((rows1 ++ [z]).map strV)) (by simp))) (v := .str (S z)) (by rw [List.map_append]; exact atI_last _ _) ?_
            walk_at "vc"
            refine ⟨x1, f1, ⟨L1, g1, l1, sds1, rows1⟩, z, rfl, T10.two.one, hl1, (by show rows1.length ≤ 20; omega), by omega, fun hn => absurd ⟨by omega, hzl⟩ hn, fun _ f' H11 sh fr gr => ?_⟩
            have T11 := T10.op sh fr gr
            walk_at "vc"
            refine hnx _ _ ⟨_, _, f', rows1 ++ [z], rfl, T11, ?_, fun y hy => ?_⟩
            · rw [List.length_append]
              show rows1.length + 1 ≤ j + 1
              omega
            · rcases List.mem_append.mp hy with h | h
              · exact rz1 y h
              · rw [List.mem_singleton.mp h]
                exact ⟨by omega, hzl⟩
          | false =>
            obtain ⟨ini, r, hre⟩ : ∃ ini r, rows1 = ini ++ [r] := ⟨_, _, (List.dropLast_concat_getLast (hc rfl)).symm⟩
            have hr0 := rz1 r (by rw [hre]; simp)
            have hatr : atI (rows1.map strV) (-1) = some (.str (S r)) := by
              rw [hre, List.map_append]
              exact atI_last _ _
            walk_at "vc"
            refine x_ixL (SqL.of (T8.get (r := rp1) (o := .lst (rows1.map strV)) (by simp))) hatr ?_
            walk_at "vc"
            cases hr : r with
            | nil =>
              rw [show (!decide (V.str (S []) = V.str (Str.ofString ""))) = false by rw [decide_eq_true (by rfl)]; rfl]
              walk_at "vc"
              exact hnx _ _ ⟨_, _, f1, rows1, rfl, T8, by omega, rz1⟩
            | cons c0 r1 =>
              rw [show (!decide (V.str (S (c0 :: r1)) = V.str (Str.ofString ""))) = true by
                rw [decide_eq_false (fun h => by
                  have h2 := V.str.inj h
                  rw [show Str.ofString "" = S [] from rfl] at h2
                  exact absurd (S_inj h2) (by simp))]
                rfl]
              subst hr
              have hn0 : 0 < rows1.length := by rw [hre]; simp
              have hnr : rows1[rows1.length - 1]?.getD [] = c0 :: r1 := by rw [hre]; simp
              have h1l : L1[1]? = some L1[1] := List.getElem?_eq_getElem (by omega)
              have zL : (S L1).length ≤ sizeLine := hp_sz (by rw [len_S]; omega)
              walk_at "vc"
              refine x_ixL (SqL.of (T8.get (r := lp) (o := .lst [.ref x1, .ref x2]) (by simp))) (v := .ref x1) rfl ?_
              obtain ⟨dx, fs, i1, _, _, _, _, i6, _⟩ := T8.two.one.ins
              refine ⟨x1, dx, fs, rfl, i1, i6, ?_⟩
              have hrp8 := T8.get (r := rp1) (o := .lst (rows1.map strV)) (by simp)
              walk_at "vc"
              rw [List.length_map, show ((rows1.length : Nat) : Int) - 1 = ((rows1.length - 1 : Nat) : Int) by omega]
              refine x_ixS zL (c := L1[1]) (atI_nat (j := 1) h1l) ?_
              walk_at "vc"
              refine ⟨x1, f1, ⟨L1, g1, l1, sds1, rows1⟩, rows1.length - 1, 0, L1[1], rfl, T8.two.one, (by show rows1.length - 1 < rows1.length; omega), (by show 0 < (rows1[rows1.length - 1]?.getD []).length; rw [hnr]; simp), List.getElem_mem _, (by show (rows1[rows1.length - 1]?.getD []).length ≤ 60; rw [hnr]; exact hr0.1), fun f' H9 rr sh fr gr _ _ _ => ?_⟩
              have T9 := T8.op sh fr gr
              have hrp9 := T9.get (r := rp1) (o := .lst (rows1.map strV)) (by simp)
              clear T8 hrp8 sh
              walk_at "vc"
              refine x_ixS zL (c := L1[1]) (atI_nat (j := 1) h1l) ?_
              walk_at "vc"
              refine x_slS (hp_sz (by rw [len_S]; have := hr0.1; omega)) ?_
              rw [show (some (1 : Int)) = some ((1 : Nat) : Int) from rfl, cutS_drop]
              refine x_addS'' (by rw [len_S]; show 1 + (List.drop 1 (c0 :: r1)).length ≤ 1000000; have := hr0.1; simp at this ⊢; omega) ?_
              rw [show (⟨#[L1[1]]⟩ : Str) = S [L1[1]] from rfl, S_app]
              walk_at "vc"
              refine x_setL (k := rows1.length - 1) hrp9 (by rw [List.length_map]; exact ixN_neg1 hn0) ?_
              have em : (rows1.map strV).set (rows1.length - 1) (V.str (S ([L1[1]] ++ List.drop 1 (c0 :: r1)))) = (rows1.set (rows1.length - 1) (chg (rows1[rows1.length - 1]?.getD []) 0 L1[1])).map strV := by
                rw [hnr, chg0, List.map_set]
                rfl
              rw [em]
              have T10 := T9.chg (o' := .lst ((rows1.set (rows1.length - 1) (chg (rows1[rows1.length - 1]?.getD []) 0 L1[1])).map strV)) (fun tt htt => (by simp only [List.mem_cons, List.not_mem_nil, or_false] at htt; rcases htt with e | e | e | e | e | e | e <;> rw [e] <;> first | assumption | exact Ne.symm (by assumption))) (fun xs e => nomatch e)
              walk_at "vc"
              refine hnx _ _ ⟨_, _, f', rows1.set (rows1.length - 1) (chg (rows1[rows1.length - 1]?.getD []) 0 L1[1]), rfl, T10, (by rw [List.length_set]; exact Nat.le_succ_of_le rl1), fun y hy => ?_⟩
              rcases List.mem_or_eq_of_mem_set hy with h | h
              · exact rz1 y h
              · rw [h, hnr, chg0]
                refine ⟨by have := hr0.1; simp at this ⊢; omega, fun c hc => ?_⟩
                rcases List.mem_cons.mp hc with e | e
                · rw [e]; exact List.getElem_mem _
                · exact hr0.2 c (List.mem_cons_of_mem _ e)
        clear T7 hCd
        rintro _ H9 ⟨y7', y10', f1', rows1', rfl, T9, rl1', rz1'⟩
        walk_at "vc"
        refine x_ixL (SqL.of (T9.get (r := lp) (o := .lst [.ref x1, .ref x2]) (by simp))) (v := .ref x1) rfl ?_
        walk_at "vc"
        refine ⟨a, b, L1, 30, rfl, T9.src, by omega, by omega, by omega, by omega, fun z H10 hz hzl hs10 k10 => ?_⟩
        have T10 := T9.kp k10 hs10
        clear T9 k10 hs10
        walk_at "vc"
        refine ⟨x1, f1', ⟨L1, g1, l1, sds1, rows1'⟩, z, rfl, T10.two.one, hl1, (by show rows1'.length ≤ 8; omega), (fun y hy => (rz1' y hy).1), by omega, hzl, barM_ok hsd1, fun H11 sm11 => ?_⟩
        have T11 : TwoS cShelf H11 a b x1 f1' ⟨L1, g1, l1, sds1, rows1'⟩ x2 f2 ⟨L2, g2, l2, sds2, rows2⟩ [(rp1, .lst (rows1'.map strV)), (rp2, .lst (rows2.map strV)), (lp, .lst [.ref x1, .ref x2]), (tl, .lst [.ref t1, .ref t2]), (t1, .tup [.str (S L1), .ref sp1, .ref rp1]), (sp1, .lst (sds1.map strV)), (t2, .tup [.str (S L2), .ref sp2, .ref rp2]), (sp2, .lst (sds2.map strV))] := ((T10.same sm11)).less (fun tt htt => by simp only [List.mem_cons, List.not_mem_nil, or_false] at htt ⊢; rcases htt with e | e | e | e | e | e | e | e <;> simp [e])
        clear T10 sm11
        walk_at "vc"
        refine for_range (n := 2) (fun k σ H' => ∃ y10, σ = [some (.ref a0), some (.ref a), some (.ref lp), some (.ref tl), some (.int 0), some (.str (S L1)), some (.ref sp1), y7', some (.int (0 + (j : Int))), some (.ref rp1), y10] ∧ TwoS cShelf H' a b x1 f1' ⟨L1, g1, l1, sds1, rows1'⟩ x2 f2 ⟨L2, g2, l2, sds2, rows2⟩ [(rp1, .lst (rows1'.map strV)), (rp2, .lst (rows2.map strV)), (lp, .lst [.ref x1, .ref x2]), (tl, .lst [.ref t1, .ref t2]), (t1, .tup [.str (S L1), .ref sp1, .ref rp1]), (sp1, .lst (sds1.map strV)), (t2, .tup [.str (S L2), .ref sp2, .ref rp2]), (sp2, .lst (sds2.map strV))]) ⟨_, rfl, T11⟩ ?_ ?_
        · clear T11
          rintro k σ H12 hk ⟨y10, rfl, T12⟩
          have hk2 : k = 0 ∨ k = 1 := by omega
          rcases hk2 with rfl | rfl
          · have hCd : Cd rows1' := fun z hz c hc => lc1 c ((rz1' z hz).2 c hc)
            have hz60 : ∀ y ∈ rows1', y.length ≤ 60 := fun y hy => (rz1' y hy).1
            walk_at "vc"
            refine x_ixL (SqL.of (T12.get (r := lp) (o := .lst [.ref x1, .ref x2]) (by simp))) (v := .ref x1) rfl ?_
            obtain ⟨dx, fs, i1, _, i3, _⟩ := T12.two.one.ins
            refine ⟨x1, dx, fs, rfl, i1, i3, ?_⟩
            walk_at "vc"
            refine ⟨x1, f1', ⟨L1, g1, l1, sds1, rows1'⟩, rfl, T12.two.one, (by show rows1'.length ≤ 20; omega), fun H13 r13 sm13 _ hr13 => ?_⟩
            have T13 := T12.same sm13
            clear T12 i1 sm13
            walk_at "vc"
            refine x_ixL (SqL.of (T13.get (r := tl) (o := .lst [.ref t1, .ref t2]) (by simp))) (v := .ref t1) rfl ?_
            walk_at "vc"
            refine x_ixT (SqT.of (T13.get (r := t1) (o := .tup [.str (S L1), .ref sp1, .ref rp1]) (by simp))) (v := .ref rp1) (atI_nat (j := 2) rfl) ?_
            refine ne_strs_same hCd (SqL.of hr13) (SqL.of (T13.get (r := rp1) (o := .lst (rows1'.map strV)) (by simp))) ?_
            walk_at "vc"
            refine x_ixL (SqL.of (T13.get (r := lp) (o := .lst [.ref x1, .ref x2]) (by simp))) (v := .ref x1) rfl ?_
            obtain ⟨dx', fs', j1, _, _, j4, _⟩ := T13.two.one.ins
            refine ⟨x1, dx', fs', rfl, j1, j4, ?_⟩
            walk_at "vc"
            refine ⟨x1, f1', ⟨L1, g1, l1, sds1, rows1'⟩, rfl, T13.two.one, (by show rows1'.length ≤ 20; omega), hz60, fun H14 r14 as14 sm14 _ hr14 hw14 => ?_⟩
            have T14 := T13.same sm14
            clear T13 j1 sm14 hr13
            walk_at "vc"
            refine x_ixL (SqL.of (T14.get (r := tl) (o := .lst [.ref t1, .ref t2]) (by simp))) (v := .ref t1) rfl ?_
            walk_at "vc"
            refine x_ixT (SqT.of (T14.get (r := t1) (o := .tup [.str (S L1), .ref sp1, .ref rp1]) (by simp))) (v := .ref sp1) (atI_nat (j := 1) rfl) ?_
            walk_at "vc"
            refine x_ixL (SqL.of (T14.get (r := tl) (o := .lst [.ref t1, .ref t2]) (by simp))) (v := .ref t1) rfl ?_
            walk_at "vc"
            refine x_ixT (SqT.of (T14.get (r := t1) (o := .tup [.str (S L1), .ref sp1, .ref rp1]) (by simp))) (v := .ref rp1) (atI_nat (j := 2) rfl) ?_
            walk_at "vc"
            refine ⟨sp1, rp1, sds1, rows1', rfl, SqL.of (T14.get (r := sp1) (o := .lst (sds1.map strV)) (by simp)), SqL.of (T14.get (r := rp1) (o := .lst (rows1'.map strV)) (by simp)), hsd1, by omega, by omega, hz60, fun D15 as15 H15 sm15 _ hD15 hw15 => ?_⟩
            walk_at "vc"
            refine ne_wins_eq (L := winsUp sds1 rows1') (fun wn hwn c hc => ?_) (SqL.of (sm15 _ _ hr14)) (hw14.same sm15) (SqL.of hD15) hw15 ?_
            · obtain ⟨rr, hrr, hcr⟩ := winsUp_mem hwn c hc
              exact hCd rr hrr c hcr
            walk_at "vc"
            exact ⟨_, rfl, T14.same sm15⟩
          · have hCd : Cd rows2 := fun z hz c hc => lc2 c ((rz2 z hz).2 c hc)
            have hz60 : ∀ y ∈ rows2, y.length ≤ 60 := fun y hy => (rz2 y hy).1
            walk_at "vc"
            refine x_ixL (SqL.of (T12.get (r := lp) (o := .lst [.ref x1, .ref x2]) (by simp))) (v := .ref x2) rfl ?_
            obtain ⟨dx, fs, i1, _, i3, _⟩ := T12.two.two.ins
            refine ⟨x2, dx, fs, rfl, i1, i3, ?_⟩
            walk_at "vc"
            refine ⟨x2, f2, ⟨L2, g2, l2, sds2, rows2⟩, rfl, T12.two.two, (by show rows2.length ≤ 20; omega), fun H13 r13 sm13 _ hr13 => ?_⟩
            have T13 := T12.same sm13
            clear T12 i1 sm13
            walk_at "vc"
            refine x_ixL (SqL.of (T13.get (r := tl) (o := .lst [.ref t1, .ref t2]) (by simp))) (v := .ref t2) rfl ?_
            walk_at "vc"
            refine x_ixT (SqT.of (T13.get (r := t2) (o := .tup [.str (S L2), .ref sp2, .ref rp2]) (by simp))) (v := .ref rp2) (atI_nat (j := 2) rfl) ?_
            refine ne_strs_same hCd (SqL.of hr13) (SqL.of (T13.get (r := rp2) (o := .lst (rows2.map strV)) (by simp))) ?_
            walk_at "vc"
            refine x_ixL (SqL.of (T13.get (r := lp) (o := .lst [.ref x1, .ref x2]) (by simp))) (v := .ref x2) rfl ?_
            obtain ⟨dx', fs', j1, _, _, j4, _⟩ := T13.two.two.ins
            refine ⟨x2, dx', fs', rfl, j1, j4, ?_⟩
            walk_at "vc"
            refine ⟨x2, f2, ⟨L2, g2, l2, sds2, rows2⟩, rfl, T13.two.two, (by show rows2.length ≤ 20; omega), hz60, fun H14 r14 as14 sm14 _ hr14 hw14 => ?_⟩
            have T14 := T13.same sm14
            clear T13 j1 sm14 hr13
            walk_at "vc"
            refine x_ixL (SqL.of (T14.get (r := tl) (o := .lst [.ref t1, .ref t2]) (by simp))) (v := .ref t2) rfl ?_
            walk_at "vc"
            refine x_ixT (SqT.of (T14.get (r := t2) (o := .tup [.str (S L2), .ref sp2, .ref rp2]) (by simp))) (v := .ref sp2) (atI_nat (j := 1) rfl) ?_
            walk_at "vc"
            refine x_ixL (SqL.of (T14.get (r := tl) (o := .lst [.ref t1, .ref t2]) (by simp))) (v := .ref t2) rfl ?_
            walk_at "vc"
            refine x_ixT (SqT.of (T14.get (r := t2) (o := .tup [.str (S L2), .ref sp2, .ref rp2]) (by simp))) (v := .ref rp2) (atI_nat (j := 2) rfl) ?_
            walk_at "vc"
            refine ⟨sp2, rp2, sds2, rows2, rfl, SqL.of (T14.get (r := sp2) (o := .lst (sds2.map strV)) (by simp)), SqL.of (T14.get (r := rp2) (o := .lst (rows2.map strV)) (by simp)), hsd2, by omega, by omega, hz60, fun D15 as15 H15 sm15 _ hD15 hw15 => ?_⟩
            walk_at "vc"
            refine ne_wins_eq (L := winsUp sds2 rows2) (fun wn hwn c hc => ?_) (SqL.of (sm15 _ _ hr14)) (hw14.same sm15) (SqL.of hD15) hw15 ?_
            · obtain ⟨rr, hrr, hcr⟩ := winsUp_mem hwn c hc
              exact hCd rr hrr c hcr
            walk_at "vc"
            exact ⟨_, rfl, T14.same sm15⟩
        · rintro σ H12 ⟨y10, rfl, T12⟩
          walk_at "vc"
          exact ⟨_, _, _, _, _, _, _, f1', rows1', f2, rows2, rfl, T12, by omega, by omega, rz1', rz2⟩
      · have T7 : TwoS cShelf H6 a b x2 f2 ⟨L2, g2, l2, sds2, rows2⟩ x1 f1 ⟨L1, g1, l1, sds1, rows1⟩ [(rp2, .lst (rows2.map strV)), (rp1, .lst (rows1.map strV)), (lp, .lst [.ref x1, .ref x2]), (tl, .lst [.ref t1, .ref t2]), (t1, .tup [.str (S L1), .ref sp1, .ref rp1]), (sp1, .lst (sds1.map strV)), (t2, .tup [.str (S L2), .ref sp2, .ref rp2]), (sp2, .lst (sds2.map strV))] := T6.swap.less (fun tt htt => by simp only [List.mem_cons, List.not_mem_nil, or_false] at htt ⊢; rcases htt with e | e | e | e | e | e | e | e <;> simp [e])
        clear T6
        have hCd : Cd rows2 := fun z hz c hc => lc2 c ((rz2 z hz).2 c hc)
        walk_at "vc"
        refine x_ixL (SqL.of (T7.get (r := tl) (o := .lst [.ref t1, .ref t2]) (by simp))) (v := .ref t2) rfl ?_
        refine x_gTup (SqT.of (T7.get (r := t2) (o := .tup [.str (S L2), .ref sp2, .ref rp2]) (by simp))) rfl ?_
        walk_at "vc0"
        refine x_cutS (fun σ H' => ∃ y7 y10 f' rows', σ = [some (.ref a0), some (.ref a), some (.ref lp), some (.ref tl), some (.int 1), some (.str (S L2)), some (.ref sp2), y7, some (.int (0 + (j : Int))), some (.ref rp2), y10] ∧ TwoS cShelf H' a b x2 f' ⟨L2, g2, l2, sds2, rows'⟩ x1 f1 ⟨L1, g1, l1, sds1, rows1⟩ [(rp2, .lst (rows'.map strV)), (rp1, .lst (rows1.map strV)), (lp, .lst [.ref x1, .ref x2]), (tl, .lst [.ref t1, .ref t2]), (t1, .tup [.str (S L1), .ref sp1, .ref rp1]), (sp1, .lst (sds1.map strV)), (t2, .tup [.str (S L2), .ref sp2, .ref rp2]), (sp2, .lst (sds2.map strV))] ∧ rows'.length ≤ j + 1 ∧ ∀ z ∈ rows', z.length ≤ 60 ∧ ∀ c ∈ z, c ∈ L2) (fun nx hnx => ?_) ?_
        · refine x_ifS ?_
          refine x_cutT (fun c H' => TwoS cShelf H' a b x2 f2 ⟨L2, g2, l2, sds2, rows2⟩ x1 f1 ⟨L1, g1, l1, sds1, rows1⟩ [(rp2, .lst (rows2.map strV)), (rp1, .lst (rows1.map strV)), (lp, .lst [.ref x1, .ref x2]), (tl, .lst [.ref t1, .ref t2]), (t1, .tup [.str (S L1), .ref sp1, .ref rp1]), (sp1, .lst (sds1.map strV)), (t2, .tup [.str (S L2), .ref sp2, .ref rp2]), (sp2, .lst (sds2.map strV))] ∧ (c = false → rows2 ≠ [])) (fun R' hR => ?_) ?_
          · walk_at "vc"
            refine ⟨by decide, fun ep hep => ?_⟩
            have T8 := T7.new (o := .lst []) hep
            generalize upd H6 ep (.lst []) = H7 at T8
            refine eqS_nil hCd (T8.get (r := rp2) (o := .lst (rows2.map strV)) (by simp)) (T8.get (r := ep) (o := .lst []) (by simp)) ?_
            replace T8 := T8.less (Tr' := [(rp2, .lst (rows2.map strV)), (rp1, .lst (rows1.map strV)), (lp, .lst [.ref x1, .ref x2]), (tl, .lst [.ref t1, .ref t2]), (t1, .tup [.str (S L1), .ref sp1, .ref rp1]), (sp1, .lst (sds1.map strV)), (t2, .tup [.str (S L2), .ref sp2, .ref rp2]), (sp2, .lst (sds2.map strV))]) (fun tt htt => List.mem_cons_of_mem _ htt)
            cases hre : rows2 with
            | nil =>
              rw [List.isEmpty_nil]
              walk_at "vc"
              exact hR _ _ ⟨T8, fun h => nomatch h⟩
            | cons r0 rest =>
              rw [show (r0 :: rest).isEmpty = false from rfl]
              walk_at "vc"
              refine ⟨a, b, 2, rfl, T8.src, by omega, by omega, fun v H8 v0 v1 hs8 k8 => ?_⟩
              walk_at "vc"
              exact hR _ _ ⟨T8.kp k8 hs8, fun _ => by rw [hre]; simp⟩
          rintro c H8 ⟨T8, hc⟩
          cases c with
          | true =>
            walk_at "vc"
            refine ⟨.inl ⟨rfl, _, SqL.of (T8.get (r := rp2) (o := .lst (rows2.map strV)) (by simp))⟩, ?_⟩
            walk_at "vc"
            refine ⟨a, b, L2, 30, rfl, T8.src, by omega, by omega, by omega, by omega, fun z H9 hz hzl hs9 k9 => ?_⟩
            have T9 := T8.kp k9 hs9
            clear T8 k9 hs9
            walk_at "vc"
            refine x_append (T9.get (r := rp2) (o := .lst (rows2.map strV)) (by simp)) (by rw [List.length_map]; exact Nat.lt_of_le_of_lt (by omega : _ ≤ 10) (by decide)) ?_
            have T10 := T9.chg (o' := .lst ((rows2 ++ [z]).map strV)) (fun tt htt => (by simp only [List.mem_cons, List.not_mem_nil, or_false] at htt; rcases htt with e | e | e | e | e | e | e <;> rw [e] <;> first | assumption | exact Ne.symm (by assumption))) (fun xs e => nomatch e)
            rw [show rows2.map strV ++ [V.str (S z)] = (rows2 ++ [z]).map strV by rw [List.map_append]; rfl]
            generalize upd H9 rp2 (.lst ((rows2 ++ [z]).map strV)) = H10 at T10 ⊢
            clear T9
            walk_at "vc"
            refine x_ixL (SqL.of (T10.get (r := lp) (o := .lst [.ref x1, .ref x2]) (by simp))) (v := .ref x2) rfl ?_
            obtain ⟨dx, fs, i1, i2, _⟩ := T10.two.one.ins
            refine ⟨x2, dx, fs, rfl, i1, i2, ?_⟩
            walk_at "vc"
            refine x_ixL (SqL.of (T10.get (r := rp2) (o := .lst ((rows2 ++ [z]).map strV)) (by simp))) (v := .str (S z)) (by rw [List.map_append]; exact atI_last _ _) ?_
            walk_at "vc"
            refine ⟨x2, f2, ⟨L2, g2, l2, sds2, rows2⟩, z, rfl, T10.two.one, hl2, (by show rows2.length ≤ 20; omega), by omega, fun hn => absurd ⟨by omega, hzl⟩ hn, fun _ f' H11 sh fr gr => ?_⟩
            have T11 := T10.op sh fr gr
            walk_at "vc"
            refine hnx _ _ ⟨_, _, f', rows2 ++ [z], rfl, T11, ?_, fun y hy => ?_⟩
            · rw [List.length_append]
              show rows2.length + 1 ≤ j + 1
              omega
            · rcases List.mem_append.mp hy with h | h
              · exact rz2 y h
              · rw [List.mem_singleton.mp h]
                exact ⟨by omega, hzl⟩
          | false =>
            obtain ⟨ini, r, hre⟩ : ∃ ini r, rows2 = ini ++ [r] := ⟨_, _, (List.dropLast_concat_getLast (hc rfl)).symm⟩
            have hr0 := rz2 r (by rw [hre]; simp)
            have hatr : atI (rows2.map strV) (-1) = some (.str (S r)) := by
              rw [hre, List.map_append]
              exact atI_last _ _
            walk_at "vc"
            refine x_ixL (SqL.of (T8.get (r := rp2) (o := .lst (rows2.map strV)) (by simp))) hatr ?_
            walk_at "vc"
            cases hr : r with
            | nil =>
              rw [show (!decide (V.str (S []) = V.str (Str.ofString ""))) = false by rw [decide_eq_true (by rfl)]; rfl]
              walk_at "vc"
              exact hnx _ _ ⟨_, _, f2, rows2, rfl, T8, by omega, rz2⟩
            | cons c0 r1 =>
              rw [show (!decide (V.str (S (c0 :: r1)) = V.str (Str.ofString ""))) = true by
                rw [decide_eq_false (fun h => by
                  have h2 := V.str.inj h
                  rw [show Str.ofString "" = S [] from rfl] at h2
                  exact absurd (S_inj h2) (by simp))]
                rfl]
              subst hr
              have hn0 : 0 < rows2.length := by rw [hre]; simp
              have hnr : rows2[rows2.length - 1]?.getD [] = c0 :: r1 := by rw [hre]; simp
              have h1l : L2[1]? = some L2[1] := List.getElem?_eq_getElem (by omega)
              have zL : (S L2).length ≤ sizeLine := hp_sz (by rw [len_S]; omega)
              walk_at "vc"
              refine x_ixL (SqL.of (T8.get (r := lp) (o := .lst [.ref x1, .ref x2]) (by simp))) (v := .ref x2) rfl ?_
              obtain ⟨dx, fs, i1, _, _, _, _, i6, _⟩ := T8.two.one.ins
              refine ⟨x2, dx, fs, rfl, i1, i6, ?_⟩
              have hrp8 := T8.get (r := rp2) (o := .lst (rows2.map strV)) (by simp)
              walk_at "vc"
              rw [List.length_map, show ((rows2.length : Nat) : Int) - 1 = ((rows2.length - 1 : Nat) : Int) by omega]
              refine x_ixS zL (c := L2[1]) (atI_nat (j := 1) h1l) ?_
              walk_at "vc"
              refine ⟨x2, f2, ⟨L2, g2, l2, sds2, rows2⟩, rows2.length - 1, 0, L2[1], rfl, T8.two.one, (by show rows2.length - 1 < rows2.length; omega), (by show 0 < (rows2[rows2.length - 1]?.getD []).length; rw [hnr]; simp), List.getElem_mem _, (by show (rows2[rows2.length - 1]?.getD []).length ≤ 60; rw [hnr]; exact hr0.1), fun f' H9 rr sh fr gr _ _ _ => ?_⟩
              have T9 := T8.op sh fr gr
              have hrp9 := T9.get (r := rp2) (o := .lst (rows2.map strV)) (by simp)
              clear T8 hrp8 sh
              walk_at "vc"
              refine x_ixS zL (c := L2[1]) (atI_nat (j := 1) h1l) ?_
              walk_at "vc"
              refine x_slS (hp_sz (by rw [len_S]; have := hr0.1; omega)) ?_
              rw [show (some (1 : Int)) = some ((1 : Nat) : Int) from rfl, cutS_drop]
              refine x_addS'' (by rw [len_S]; show 1 + (List.drop 1 (c0 :: r1)).length ≤ 1000000; have := hr0.1; simp at this ⊢; omega) ?_
              rw [show (⟨#[L2[1]]⟩ : Str) = S [L2[1]] from rfl, S_app]
              walk_at "vc"
              refine x_setL (k := rows2.length - 1) hrp9 (by rw [List.length_map]; exact ixN_neg1 hn0) ?_
              have em : (rows2.map strV).set (rows2.length - 1) (V.str (S ([L2[1]] ++ List.drop 1 (c0 :: r1)))) = (rows2.set (rows2.length - 1) (chg (rows2[rows2.length - 1]?.getD []) 0 L2[1])).map strV := by
                rw [hnr, chg0, List.map_set]
                rfl
              rw [em]
              have T10 := T9.chg (o' := .lst ((rows2.set (rows2.length - 1) (chg (rows2[rows2.length - 1]?.getD []) 0 L2[1])).map strV)) (fun tt htt => (by simp only [List.mem_cons, List.not_mem_nil, or_false] at htt; rcases htt with e | e | e | e | e | e | e <;> rw [e] <;> first | assumption | exact Ne.symm (by assumption))) (fun xs e => nomatch e)
              walk_at "vc"
              refine hnx _ _ ⟨_, _, f', rows2.set (rows2.length - 1) (chg (rows2[rows2.length - 1]?.getD []) 0 L2[1]), rfl, T10, (by rw [List.length_set]; exact Nat.le_succ_of_le rl2), fun y hy => ?_⟩
              rcases List.mem_or_eq_of_mem_set hy with h | h
              · exact rz2 y h
              · rw [h, hnr, chg0]
                refine ⟨by have := hr0.1; simp at this ⊢; omega, fun c hc => ?_⟩
                rcases List.mem_cons.mp hc with e | e
                · rw [e]; exact List.getElem_mem _
                · exact hr0.2 c (List.mem_cons_of_mem _ e)
        clear T7 hCd
        rintro _ H9 ⟨y7', y10', f2', rows2', rfl, T9, rl2', rz2'⟩
        walk_at "vc"
        refine x_ixL (SqL.of (T9.get (r := lp) (o := .lst [.ref x1, .ref x2]) (by simp))) (v := .ref x2) rfl ?_
        walk_at "vc"
        refine ⟨a, b, L2, 30, rfl, T9.src, by omega, by omega, by omega, by omega, fun z H10 hz hzl hs10 k10 => ?_⟩
        have T10 := T9.kp k10 hs10
        clear T9 k10 hs10
        walk_at "vc"
        refine ⟨x2, f2', ⟨L2, g2, l2, sds2, rows2'⟩, z, rfl, T10.two.one, hl2, (by show rows2'.length ≤ 8; omega), (fun y hy => (rz2' y hy).1), by omega, hzl, barM_ok hsd2, fun H11 sm11 => ?_⟩
        have T11 : TwoS cShelf H11 a b x1 f1 ⟨L1, g1, l1, sds1, rows1⟩ x2 f2' ⟨L2, g2, l2, sds2, rows2'⟩ [(rp1, .lst (rows1.map strV)), (rp2, .lst (rows2'.map strV)), (lp, .lst [.ref x1, .ref x2]), (tl, .lst [.ref t1, .ref t2]), (t1, .tup [.str (S L1), .ref sp1, .ref rp1]), (sp1, .lst (sds1.map strV)), (t2, .tup [.str (S L2), .ref sp2, .ref rp2]), (sp2, .lst (sds2.map strV))] := ((T10.same sm11).swap).less (fun tt htt => by simp only [List.mem_cons, List.not_mem_nil, or_false] at htt ⊢; rcases htt with e | e | e | e | e | e | e | e <;> simp [e])
        clear T10 sm11
        walk_at "vc"
        refine for_range (n := 2) (fun k σ H' => ∃ y10, σ = [some (.ref a0), some (.ref a), some (.ref lp), some (.ref tl), some (.int 1), some (.str (S L2)), some (.ref sp2), y7', some (.int (0 + (j : Int))), some (.ref rp2), y10] ∧ TwoS cShelf H' a b x1 f1 ⟨L1, g1, l1, sds1, rows1⟩ x2 f2' ⟨L2, g2, l2, sds2, rows2'⟩ [(rp1, .lst (rows1.map strV)), (rp2, .lst (rows2'.map strV)), (lp, .lst [.ref x1, .ref x2]), (tl, .lst [.ref t1, .ref t2]), (t1, .tup [.str (S L1), .ref sp1, .ref rp1]), (sp1, .lst (sds1.map strV)), (t2, .tup [.str (S L2), .ref sp2, .ref rp2]), (sp2, .lst (sds2.map strV))]) ⟨_, rfl, T11⟩ ?_ ?_
        · clear T11
          rintro k σ H12 hk ⟨y10, rfl, T12⟩
          have hk2 : k = 0 ∨ k = 1 := by omega
          rcases hk2 with rfl | rfl
          · have hCd : Cd rows1 := fun z hz c hc => lc1 c ((rz1 z hz).2 c hc)
            have hz60 : ∀ y ∈ rows1, y.length ≤ 60 := fun y hy => (rz1 y hy).1
            walk_at "vc"
            refine x_ixL (SqL.of (T12.get (r := lp) (o := .lst [.ref x1, .ref x2]) (by simp))) (v := .ref x1) rfl ?_
            obtain ⟨dx, fs, i1, _, i3, _⟩ := T12.two.one.ins
            refine ⟨x1, dx, fs, rfl, i1, i3, ?_⟩
            walk_at "vc"
            refine ⟨x1, f1, ⟨L1, g1, l1, sds1, rows1⟩, rfl, T12.two.one, (by show rows1.length ≤ 20; omega), fun H13 r13 sm13 _ hr13 => ?_⟩
            have T13 := T12.same sm13
            clear T12 i1 sm13
            walk_at "vc"
            refine x_ixL (SqL.of (T13.get (r := tl) (o := .lst [.ref t1, .ref t2]) (by simp))) (v := .ref t1) rfl ?_
            walk_at "vc"
            refine x_ixT (SqT.of (T13.get (r := t1) (o := .tup [.str (S L1), .ref sp1, .ref rp1]) (by simp))) (v := .ref rp1) (atI_nat (j := 2) rfl) ?_
            refine ne_strs_same hCd (SqL.of hr13) (SqL.of (T13.get (r := rp1) (o := .lst (rows1.map strV)) (by simp))) ?_
            walk_at "vc"
            refine x_ixL (SqL.of (T13.get (r := lp) (o := .lst [.ref x1, .ref x2]) (by simp))) (v := .ref x1) rfl ?_
            obtain ⟨dx', fs', j1, _, _, j4, _⟩ := T13.two.one.ins
            refine ⟨x1, dx', fs', rfl, j1, j4, ?_⟩
            walk_at "vc"
            refine ⟨x1, f1, ⟨L1, g1, l1, sds1, rows1⟩, rfl, T13.two.one, (by show rows1.length ≤ 20; omega), hz60, fun H14 r14 as14 sm14 _ hr14 hw14 => ?_⟩
            have T14 := T13.same sm14
            clear T13 j1 sm14 hr13
            walk_at "vc"
            refine x_ixL (SqL.of (T14.get (r := tl) (o := .lst [.ref t1, .ref t2]) (by simp))) (v := .ref t1) rfl ?_
            walk_at "vc"
            refine x_ixT (SqT.of (T14.get (r := t1) (o := .tup [.str (S L1), .ref sp1, .ref rp1]) (by simp))) (v := .ref sp1) (atI_nat (j := 1) rfl) ?_
            walk_at "vc"
            refine x_ixL (SqL.of (T14.get (r := tl) (o := .lst [.ref t1, .ref t2]) (by simp))) (v := .ref t1) rfl ?_
            walk_at "vc"
            refine x_ixT (SqT.of (T14.get (r := t1) (o := .tup [.str (S L1), .ref sp1, .ref rp1]) (by simp))) (v := .ref rp1) (atI_nat (j := 2) rfl) ?_
            walk_at "vc"
            refine ⟨sp1, rp1, sds1, rows1, rfl, SqL.of (T14.get (r := sp1) (o := .lst (sds1.map strV)) (by simp)), SqL.of (T14.get (r := rp1) (o := .lst (rows1.map strV)) (by simp)), hsd1, by omega, by omega, hz60, fun D15 as15 H15 sm15 _ hD15 hw15 => ?_⟩
            walk_at "vc"
            refine ne_wins_eq (L := winsUp sds1 rows1) (fun wn hwn c hc => ?_) (SqL.of (sm15 _ _ hr14)) (hw14.same sm15) (SqL.of hD15) hw15 ?_
            · obtain ⟨rr, hrr, hcr⟩ := winsUp_mem hwn c hc
              exact hCd rr hrr c hcr
            walk_at "vc"
            exact ⟨_, rfl, T14.same sm15⟩
          · have hCd : Cd rows2' := fun z hz c hc => lc2 c ((rz2' z hz).2 c hc)
            have hz60 : ∀ y ∈ rows2', y.length ≤ 60 := fun y hy => (rz2' y hy).1
            walk_at "vc"
            refine x_ixL (SqL.of (T12.get (r := lp) (o := .lst [.ref x1, .ref x2]) (by simp))) (v := .ref x2) rfl ?_
            obtain ⟨dx, fs, i1, _, i3, _⟩ := T12.two.two.ins
            refine ⟨x2, dx, fs, rfl, i1, i3, ?_⟩
            walk_at "vc"
            refine ⟨x2, f2', ⟨L2, g2, l2, sds2, rows2'⟩, rfl, T12.two.two, (by show rows2'.length ≤ 20; omega), fun H13 r13 sm13 _ hr13 => ?_⟩
            have T13 := T12.same sm13
            clear T12 i1 sm13
            walk_at "vc"
            refine x_ixL (SqL.of (T13.get (r := tl) (o := .lst [.ref t1, .ref t2]) (by simp))) (v := .ref t2) rfl ?_
            walk_at "vc"
            refine x_ixT (SqT.of (T13.get (r := t2) (o := .tup [.str (S L2), .ref sp2, .ref rp2]) (by simp))) (v := .ref rp2) (atI_nat (j := 2) rfl) ?_
            refine ne_strs_same hCd (SqL.of hr13) (SqL.of (T13.get (r := rp2) (o := .lst (rows2'.map strV)) (by simp))) ?_
            walk_at "vc"
            refine x_ixL (SqL.of (T13.get (r := lp) (o := .lst [.ref x1, .ref x2]) (by simp))) (v := .ref x2) rfl ?_
            obtain ⟨dx', fs', j1, _, _, j4, _⟩ := T13.two.two.ins
            refine ⟨x2, dx', fs', rfl, j1, j4, ?_⟩
            walk_at "vc"
            refine ⟨x2, f2', ⟨L2, g2, l2, sds2, rows2'⟩, rfl, T13.two.two, (by show rows2'.length ≤ 20; omega), hz60, fun H14 r14 as14 sm14 _ hr14 hw14 => ?_⟩
            have T14 := T13.same sm14
            clear T13 j1 sm14 hr13
            walk_at "vc"
            refine x_ixL (SqL.of (T14.get (r := tl) (o := .lst [.ref t1, .ref t2]) (by simp))) (v := .ref t2) rfl ?_
            walk_at "vc"
            refine x_ixT (SqT.of (T14.get (r := t2) (o := .tup [.str (S L2), .ref sp2, .ref rp2]) (by simp))) (v := .ref sp2) (atI_nat (j := 1) rfl) ?_
            walk_at "vc"
            refine x_ixL (SqL.of (T14.get (r := tl) (o := .lst [.ref t1, .ref t2]) (by simp))) (v := .ref t2) rfl ?_
            walk_at "vc"
            refine x_ixT (SqT.of (T14.get (r := t2) (o := .tup [.str (S L2), .ref sp2, .ref rp2]) (by simp))) (v := .ref rp2) (atI_nat (j := 2) rfl) ?_
            walk_at "vc"
            refine ⟨sp2, rp2, sds2, rows2', rfl, SqL.of (T14.get (r := sp2) (o := .lst (sds2.map strV)) (by simp)), SqL.of (T14.get (r := rp2) (o := .lst (rows2'.map strV)) (by simp)), hsd2, by omega, by omega, hz60, fun D15 as15 H15 sm15 _ hD15 hw15 => ?_⟩
            walk_at "vc"
            refine ne_wins_eq (L := winsUp sds2 rows2') (fun wn hwn c hc => ?_) (SqL.of (sm15 _ _ hr14)) (hw14.same sm15) (SqL.of hD15) hw15 ?_
            · obtain ⟨rr, hrr, hcr⟩ := winsUp_mem hwn c hc
              exact hCd rr hrr c hcr
            walk_at "vc"
            exact ⟨_, rfl, T14.same sm15⟩
        · rintro σ H12 ⟨y10, rfl, T12⟩
          walk_at "vc"
          exact ⟨_, _, _, _, _, _, _, f1, rows1, f2', rows2', rfl, T12, by omega, by omega, rz1, rz2'⟩
    · rintro σ H5 ⟨y4, y5, y6, y7, y8, y9, y10, f1, rows1, f2, rows2, rfl, T5, rl1, rl2, rz1, rz2⟩
      walk_at "vc"
      exact q _

end
theorem all_mk {l : PySem.W.OpenLaw} {w : World} {K : PySem.W.Frag} {h : Heap} {mg : Str → Option Value} {fa : Addr} (X : K.In h) (G : h.Ns mainGlobals mg) (OT : TabF K mg h "_best_behind") (hfa : mg "law" = some (.ref fa))
    {cShelf : Addr} {aBadRow : Addr} {aTooLow : Addr} {giTooLow ceTooLow cdTooLow : Addr} {oiTooLow kViTooLow dciTooLow pmiTooLow ctiTooLow koTooLow loTooLow : Value} {odiTooLow aniTooLow kdTooLow ldTooLow : Option Addr} {sliTooLow ksTooLow lsTooLow : Array (Option Value)} {cvTooLow : Array Value} {flTooLow : Str} {tfTooLow : Tok} {cc PT : Addr} {tec : Value} {tdd : Option Addr} {tvs : Array Value} {tsl : Array (Option Value)} {od0 an0 : Option Addr} {sl0 : Array (Option Value)} {oc0 kV0 dc0 pm0 cd0 ct0 : Value} {g0 : Addr} {od1 an1 : Option Addr} {sl1 : Array (Option Value)} {oc1 kV1 dc1 pm1 cd1 ct1 : Value} {g1 : Addr} {od2 an2 : Option Addr} {sl2 : Array (Option Value)} {oc2 kV2 dc2 pm2 cd2 ct2 : Value} {g2 : Addr} {od3 an3 : Option Addr} {sl3 : Array (Option Value)} {oc3 kV3 dc3 pm3 cd3 ct3 : Value} {g3 : Addr} {od4 an4 : Option Addr} {sl4 : Array (Option Value)} {oc4 kV4 dc4 pm4 cd4 ct4 : Value} {g4 : Addr} {od5 an5 : Option Addr} {sl5 : Array (Option Value)} {oc5 kV5 dc5 pm5 cd5 ct5 : Value} {g5 : Addr} {od6 an6 : Option Addr} {sl6 : Array (Option Value)} {oc6 kV6 dc6 pm6 cd6 ct6 : Value} {g6 : Addr} {od7 an7 : Option Addr} {sl7 : Array (Option Value)} {oc7 kV7 dc7 pm7 cd7 ct7 : Value} {g7 : Addr} {od8 an8 : Option Addr} {sl8 : Array (Option Value)} {oc8 kV8 dc8 pm8 cd8 ct8 : Value} {g8 : Addr} {od9 an9 : Option Addr} {sl9 : Array (Option Value)} {oc9 kV9 dc9 pm9 cd9 ct9 : Value} {g9 : Addr} {od10 an10 : Option Addr} {sl10 : Array (Option Value)} {oc10 kV10 dc10 pm10 cd10 ct10 : Value} {g10 : Addr} {od11 an11 : Option Addr} {sl11 : Array (Option Value)} {oc11 kV11 dc11 pm11 cd11 ct11 : Value} {g11 : Addr} {od12 an12 : Option Addr} {sl12 : Array (Option Value)} {oc12 kV12 dc12 pm12 cd12 ct12 : Value} {g12 : Addr} {od13 an13 : Option Addr} {sl13 : Array (Option Value)} {oc13 kV13 dc13 pm13 cd13 ct13 : Value} {g13 : Addr} {od14 an14 : Option Addr} {sl14 : Array (Option Value)} {oc14 kV14 dc14 pm14 cd14 ct14 : Value} {g14 : Addr} {od15 an15 : Option Addr} {sl15 : Array (Option Value)} {oc15 kV15 dc15 pm15 cd15 ct15 : Value} {g15 : Addr} {od16 an16 : Option Addr} {sl16 : Array (Option Value)} {oc16 kV16 dc16 pm16 cd16 ct16 : Value} {g16 : Addr} {od17 an17 : Option Addr} {sl17 : Array (Option Value)} {oc17 kV17 dc17 pm17 cd17 ct17 : Value} {g17 : Addr} {od18 an18 : Option Addr} {sl18 : Array (Option Value)} {oc18 kV18 dc18 pm18 ct18 : Value} {g18 : Addr} {od19 an19 : Option Addr} {sl19 : Array (Option Value)} {oc19 kV19 dc19 pm19 cd19 ct19 : Value} {g19 : Addr} {od20 an20 : Option Addr} {sl20 : Array (Option Value)} {oc20 kV20 dc20 pm20 cd20 ct20 : Value} {g20 : Addr} {od21 an21 : Option Addr} {sl21 : Array (Option Value)} {oc21 kV21 dc21 pm21 cd21 ct21 : Value} {g21 : Addr} {od22 an22 : Option Addr} {sl22 : Array (Option Value)} {oc22 kV22 dc22 pm22 cd22 ct22 : Value} {g22 : Addr} {od23 an23 : Option Addr} {sl23 : Array (Option Value)} {oc23 kV23 dc23 pm23 cd23 ct23 : Value} {g23 : Addr} {od24 an24 : Option Addr} {sl24 : Array (Option Value)} {oc24 kV24 dc24 pm24 cd24 ct24 : Value} {g24 : Addr} {od25 an25 : Option Addr} {sl25 : Array (Option Value)} {oc25 kV25 dc25 pm25 cd25 ct25 : Value} {g25 : Addr} {od26 an26 : Option Addr} {sl26 : Array (Option Value)} {oc26 kV26 dc26 pm26 cd26 ct26 : Value} {g26 : Addr} {od27 an27 : Option Addr} {sl27 : Array (Option Value)} {oc27 kV27 dc27 pm27 cd27 ct27 : Value} {g27 : Addr} {od28 an28 : Option Addr} {sl28 : Array (Option Value)} {oc28 kV28 dc28 pm28 cd28 ct28 : Value} {g28 : Addr} {od29 an29 : Option Addr} {sl29 : Array (Option Value)} {oc29 kV29 dc29 pm29 cd29 ct29 : Value} {g29 : Addr} {od30 an30 : Option Addr} {sl30 : Array (Option Value)} {oc30 kV30 dc30 pm30 cd30 ct30 : Value} {g30 : Addr} {od31 an31 : Option Addr} {sl31 : Array (Option Value)} {oc31 kV31 dc31 pm31 cd31 ct31 : Value} {g31 : Addr} {od32 an32 : Option Addr} {sl32 : Array (Option Value)} {oc32 kV32 dc32 pm32 cd32 ct32 : Value} {g32 : Addr} {od33 an33 : Option Addr} {sl33 : Array (Option Value)} {oc33 kV33 dc33 pm33 cd33 ct33 : Value} {g33 : Addr} {od34 an34 : Option Addr} {sl34 : Array (Option Value)} {oc34 kV34 dc34 pm34 cd34 ct34 : Value} {g34 : Addr} {od35 an35 : Option Addr} {sl35 : Array (Option Value)} {oc35 kV35 dc35 pm35 cd35 ct35 : Value} {g35 : Addr} {od36 an36 : Option Addr} {sl36 : Array (Option Value)} {oc36 kV36 dc36 pm36 cd36 ct36 : Value} {g36 : Addr} {od37 an37 : Option Addr} {sl37 : Array (Option Value)} {oc37 kV37 dc37 pm37 cd37 ct37 : Value} {g37 : Addr} {od38 an38 : Option Addr} {sl38 : Array (Option Value)} {oc38 kV38 dc38 pm38 cd38 ct38 : Value} {g38 : Addr} {od39 an39 : Option Addr} {sl39 : Array (Option Value)} {oc39 kV39 dc39 pm39 cd39 ct39 : Value} {g39 : Addr} {od40 an40 : Option Addr} {sl40 : Array (Option Value)} {oc40 kV40 dc40 pm40 cd40 ct40 : Value} {g40 : Addr} {od41 an41 : Option Addr} {sl41 : Array (Option Value)} {oc41 kV41 dc41 pm41 cd41 ct41 : Value} {g41 : Addr} {od42 an42 : Option Addr} {sl42 : Array (Option Value)} {oc42 kV42 dc42 pm42 cd42 ct42 : Value} {g42 : Addr} {t_FEWEST_LETTERS : Tok} {t_MOST_LETTERS : Tok} {t_ALPHABET : Tok} {t_LONGEST_ROW : Tok} {t_LEAST_WEIGHT : Tok} {t_MOST_WEIGHT : Tok} {t_LIKE : Tok} {t_UNLIKE : Tok} {t_SHORTEST_SEED : Tok} {t_LONGEST_SEED : Tok} {t_PICK : Tok} {t_GAP : Tok} {t_FEWEST_SEEDS : Tok} {t_MOST_SEEDS : Tok} {t_BAR : Tok} {t_ENDLESS : Tok}
    (aCShelf : PySem.W.nsIn K mainGlobals "Shelf" = some (some (.ref cShelf))) (pgShelf : PySem.W.plainGet K cShelf Str.empty = true) (hdShelf : PySem.W.hasDictIn K cShelf = true) (poShelf : PySem.W.plainOver K cShelf = true) (saShelf : PySem.W.findIn K (.ref cShelf) "__setattr__" = some (some (.builtin "object.__setattr__"))) (mkShelf : PySem.W.makesIn K cShelf = true) (kcShelf : PySem.W.keepIn K (.ref cShelf) = true) (nShelf_letters : PySem.W.findIn K (.ref cShelf) "letters" = some none) (nShelf_scale : PySem.W.findIn K (.ref cShelf) "scale" = some none) (nShelf_seeds : PySem.W.findIn K (.ref cShelf) "seeds" = some none) (nShelf_limit : PySem.W.findIn K (.ref cShelf) "limit" = some none) (nShelf_laid : PySem.W.findIn K (.ref cShelf) "laid" = some none) (gxBadRow : PySem.W.nsIn K mainGlobals "BadRow" = some (some (.ref aBadRow))) (hdBadRow : PySem.W.hasDictIn K aBadRow = true) (tpBadRow : PySem.W.typeIn K (.ref aBadRow) = some (.type "type")) (bsBadRow : PySem.W.subIn K (.ref aBadRow) (.type "BaseException") = some true) (gxTooLow : PySem.W.nsIn K mainGlobals "TooLow" = some (some (.ref aTooLow))) (hdTooLow : PySem.W.hasDictIn K aTooLow = true) (tpTooLow : PySem.W.typeIn K (.ref aTooLow) = some (.type "type")) (bsTooLow : PySem.W.subIn K (.ref aTooLow) (.type "BaseException") = some true) (obTooLow : L2.oexB K aTooLow = true) (kxTooLow : PySem.W.keepIn K (.ref aTooLow) = true) (saTooLow : PySem.W.findIn K (.ref aTooLow) "__setattr__" = some (some (.builtin "object.__setattr__"))) (icTooLow : PySem.W.findIn K (.ref aTooLow) "__init__" = some (some (.ref giTooLow))) (tiTooLow : PySem.W.typeIn K (.ref giTooLow) = some (.type "function")) (liTooLow : K.lookup giTooLow = some ⟨oiTooLow, odiTooLow, .func (PySem.W.fnX "__init__" "TooLow.__init__" (defArgs sTooLow___init__) (defBody sTooLow___init__) (defScope sTooLow___init__) [("__class__", ceTooLow)] .none kViTooLow dciTooLow pmiTooLow aniTooLow (.ref cdTooLow) ctiTooLow), sliTooLow⟩) (ciTooLow : PySem.W.codeIn K (.ref cdTooLow) "TooLow.__init__" = true) (clTooLow : K.lookup ceTooLow = some ⟨loTooLow, ldTooLow, .cell (some (.ref aTooLow)), lsTooLow⟩) (coTooLow : K.lookup cdTooLow = some ⟨koTooLow, kdTooLow, .fields cvTooLow, ksTooLow⟩) (cwTooLow : cvTooLow[2]? = some (.str flTooLow tfTooLow)) (alTooLow : PySem.W.ks_superIn K aTooLow aTooLow "__init__" = some (some (.builtin "ValueError.__init__"))) (baTooLow : PySem.W.findIn K (.ref aTooLow) "bar" = some none) (mrTooLow : PySem.W.mroIn K aTooLow (.ref aTooLow) = some true) (thTooLow : PySem.W.nsIn K cStatics "thirdparty.any" = some none) (spTooLow : PySem.W.nsIn K mainGlobals "super" = some none) (pfTooLow : (l.prog.main.file == flTooLow) = true) (ptTooLow : (l.prog.main.scope.names.lookup ("super" : Str)).isSome = false) (hgTooLow : PySem.W.findIn K (.ref aTooLow) "__getattribute__" = some (some (.builtin "BaseException.__getattribute__"))) (hkTooLow : PySem.W.findIn K (.ref aTooLow) "__getattr__" = some none) (hcTooLow : PySem.W.findIn K (.ref aTooLow) "__class__" = some (some (.builtin "object.__class__"))) (hmTooLow : PySem.W.mroIn K aTooLow (.type "object") = some true) (veTooLow : PySem.W.subIn K (.ref aTooLow) (.type "ValueError") = some true) (suTooLow_BadRow : PySem.W.subIn K (.ref aTooLow) (.ref aBadRow) = some false) (suTooLow_TooLow : PySem.W.subIn K (.ref aTooLow) (.ref aTooLow) = some true) (xpBadRow : PySem.W.excIn K aBadRow [.type "ValueError", .type "Exception", .type "BaseException", .type "object"] "ValueError.__new__" = true) (kxBadRow : PySem.W.keepIn K (.ref aBadRow) = true) (hgBadRow : PySem.W.findIn K (.ref aBadRow) "__getattribute__" = some (some (.builtin "BaseException.__getattribute__"))) (hkBadRow : PySem.W.findIn K (.ref aBadRow) "__getattr__" = some none) (hcBadRow : PySem.W.findIn K (.ref aBadRow) "__class__" = some (some (.builtin "object.__class__"))) (hmBadRow : PySem.W.mroIn K aBadRow (.type "object") = some true) (veBadRow : PySem.W.subIn K (.ref aBadRow) (.type "ValueError") = some true) (suBadRow_BadRow : PySem.W.subIn K (.ref aBadRow) (.ref aBadRow) = some true) (suBadRow_TooLow : PySem.W.subIn K (.ref aBadRow) (.ref aTooLow) = some false) (xhn : PySem.W.specialIn K (.builtin "object.__class__") "__get__" = some (some (.builtin "getset_descriptor.__get__"))) (xht : PySem.W.takesIn K (.builtin "object.__class__") = some true) (a0 : PySem.W.nsIn K mainGlobals "need_letters" = some (some (.ref g0))) (l0 : K.lookup g0 = some ⟨oc0, od0, .func (PySem.W.fnOf "need_letters" "need_letters" (defArgs sneed_letters) (defBody sneed_letters) (defScope sneed_letters) .none kV0 dc0 pm0 an0 cd0 ct0), sl0⟩) (c0 : PySem.W.codeIn K cd0 "need_letters" = true) (k0 : PySem.W.keepIn K (.ref g0) = true) (a1 : PySem.W.nsIn K mainGlobals "need_row" = some (some (.ref g1))) (l1 : K.lookup g1 = some ⟨oc1, od1, .func (PySem.W.fnOf "need_row" "need_row" (defArgs sneed_row) (defBody sneed_row) (defScope sneed_row) .none kV1 dc1 pm1 an1 cd1 ct1), sl1⟩) (c1 : PySem.W.codeIn K cd1 "need_row" = true) (k1 : PySem.W.keepIn K (.ref g1) = true) (a2 : PySem.W.nsIn K mainGlobals "need_scale" = some (some (.ref g2))) (l2 : K.lookup g2 = some ⟨oc2, od2, .func (PySem.W.fnOf "need_scale" "need_scale" (defArgs sneed_scale) (defBody sneed_scale) (defScope sneed_scale) .none kV2 dc2 pm2 an2 cd2 ct2), sl2⟩) (c2 : PySem.W.codeIn K cd2 "need_scale" = true) (k2 : PySem.W.keepIn K (.ref g2) = true) (a3 : PySem.W.nsIn K mainGlobals "lane_begin" = some (some (.ref g3))) (l3 : K.lookup g3 = some ⟨oc3, od3, .func (PySem.W.fnOf "lane_begin" "lane_begin" (defArgs slane_begin) (defBody slane_begin) (defScope slane_begin) .none kV3 dc3 pm3 an3 cd3 ct3), sl3⟩) (c3 : PySem.W.codeIn K cd3 "lane_begin" = true) (k3 : PySem.W.keepIn K (.ref g3) = true) (a4 : PySem.W.nsIn K mainGlobals "likes_of" = some (some (.ref g4))) (l4 : K.lookup g4 = some ⟨oc4, od4, .func (PySem.W.fnOf "likes_of" "likes_of" (defArgs slikes_of) (defBody slikes_of) (defScope slikes_of) .none kV4 dc4 pm4 an4 cd4 ct4), sl4⟩) (c4 : PySem.W.codeIn K cd4 "likes_of" = true) (k4 : PySem.W.keepIn K (.ref g4) = true) (a5 : PySem.W.nsIn K mainGlobals "worth_of" = some (some (.ref g5))) (l5 : K.lookup g5 = some ⟨oc5, od5, .func (PySem.W.fnOf "worth_of" "worth_of" (defArgs sworth_of) (defBody sworth_of) (defScope sworth_of) .none kV5 dc5 pm5 an5 cd5 ct5), sl5⟩) (c5 : PySem.W.codeIn K cd5 "worth_of" = true) (k5 : PySem.W.keepIn K (.ref g5) = true) (a6 : PySem.W.nsIn K mainGlobals "_last_below" = some (some (.ref g6))) (l6 : K.lookup g6 = some ⟨oc6, od6, .func (PySem.W.fnOf "_last_below" "_last_below" (defArgs s_last_below) (defBody s_last_below) (defScope s_last_below) .none kV6 dc6 pm6 an6 cd6 ct6), sl6⟩) (c6 : PySem.W.codeIn K cd6 "_last_below" = true) (k6 : PySem.W.keepIn K (.ref g6) = true) (a7 : PySem.W.nsIn K mainGlobals "_join" = some (some (.ref g7))) (l7 : K.lookup g7 = some ⟨oc7, od7, .func (PySem.W.fnOf "_join" "_join" (defArgs s_join) (defBody s_join) (defScope s_join) .none kV7 dc7 pm7 an7 cd7 ct7), sl7⟩) (c7 : PySem.W.codeIn K cd7 "_join" = true) (k7 : PySem.W.keepIn K (.ref g7) = true) (a8 : PySem.W.nsIn K mainGlobals "ripe" = some (some (.ref g8))) (l8 : K.lookup g8 = some ⟨oc8, od8, .func (PySem.W.fnOf "ripe" "ripe" (defArgs sripe) (defBody sripe) (defScope sripe) .none kV8 dc8 pm8 an8 cd8 ct8), sl8⟩) (c8 : PySem.W.codeIn K cd8 "ripe" = true) (k8 : PySem.W.keepIn K (.ref g8) = true) (a9 : PySem.W.nsIn K mainGlobals "lane_reaches" = some (some (.ref g9))) (l9 : K.lookup g9 = some ⟨oc9, od9, .func (PySem.W.fnOf "lane_reaches" "lane_reaches" (defArgs slane_reaches) (defBody slane_reaches) (defScope slane_reaches) .none kV9 dc9 pm9 an9 cd9 ct9), sl9⟩) (c9 : PySem.W.codeIn K cd9 "lane_reaches" = true) (k9 : PySem.W.keepIn K (.ref g9) = true) (a10 : PySem.W.nsIn K mainGlobals "_need_seed" = some (some (.ref g10))) (l10 : K.lookup g10 = some ⟨oc10, od10, .func (PySem.W.fnOf "_need_seed" "_need_seed" (defArgs s_need_seed) (defBody s_need_seed) (defScope s_need_seed) .none kV10 dc10 pm10 an10 cd10 ct10), sl10⟩) (c10 : PySem.W.codeIn K cd10 "_need_seed" = true) (k10 : PySem.W.keepIn K (.ref g10) = true) (a11 : PySem.W.nsIn K mainGlobals "need_seeds" = some (some (.ref g11))) (l11 : K.lookup g11 = some ⟨oc11, od11, .func (PySem.W.fnOf "need_seeds" "need_seeds" (defArgs sneed_seeds) (defBody sneed_seeds) (defScope sneed_seeds) .none kV11 dc11 pm11 an11 cd11 ct11), sl11⟩) (c11 : PySem.W.codeIn K cd11 "need_seeds" = true) (k11 : PySem.W.keepIn K (.ref g11) = true) (a12 : PySem.W.nsIn K mainGlobals "unlike_under" = some (some (.ref g12))) (l12 : K.lookup g12 = some ⟨oc12, od12, .func (PySem.W.fnOf "unlike_under" "unlike_under" (defArgs sunlike_under) (defBody sunlike_under) (defScope sunlike_under) .none kV12 dc12 pm12 an12 cd12 ct12), sl12⟩) (c12 : PySem.W.codeIn K cd12 "unlike_under" = true) (k12 : PySem.W.keepIn K (.ref g12) = true) (a13 : PySem.W.nsIn K mainGlobals "fits" = some (some (.ref g13))) (l13 : K.lookup g13 = some ⟨oc13, od13, .func (PySem.W.fnOf "fits" "fits" (defArgs sfits) (defBody sfits) (defScope sfits) .none kV13 dc13 pm13 an13 cd13 ct13), sl13⟩) (c13 : PySem.W.codeIn K cd13 "fits" = true) (k13 : PySem.W.keepIn K (.ref g13) = true) (a14 : PySem.W.nsIn K mainGlobals "_tail" = some (some (.ref g14))) (l14 : K.lookup g14 = some ⟨oc14, od14, .func (PySem.W.fnOf "_tail" "_tail" (defArgs s_tail) (defBody s_tail) (defScope s_tail) .none kV14 dc14 pm14 an14 cd14 ct14), sl14⟩) (c14 : PySem.W.codeIn K cd14 "_tail" = true) (k14 : PySem.W.keepIn K (.ref g14) = true) (a15 : PySem.W.nsIn K mainGlobals "_steps_from" = some (some (.ref g15))) (l15 : K.lookup g15 = some ⟨oc15, od15, .func (PySem.W.fnOf "_steps_from" "_steps_from" (defArgs s_steps_from) (defBody s_steps_from) (defScope s_steps_from) .none kV15 dc15 pm15 an15 cd15 ct15), sl15⟩) (c15 : PySem.W.codeIn K cd15 "_steps_from" = true) (k15 : PySem.W.keepIn K (.ref g15) = true) (a16 : PySem.W.nsIn K mainGlobals "_steps" = some (some (.ref g16))) (l16 : K.lookup g16 = some ⟨oc16, od16, .func (PySem.W.fnOf "_steps" "_steps" (defArgs s_steps) (defBody s_steps) (defScope s_steps) .none kV16 dc16 pm16 an16 cd16 ct16), sl16⟩) (c16 : PySem.W.codeIn K cd16 "_steps" = true) (k16 : PySem.W.keepIn K (.ref g16) = true) (a17 : PySem.W.nsIn K mainGlobals "_ring" = some (some (.ref g17))) (l17 : K.lookup g17 = some ⟨oc17, od17, .func (PySem.W.fnOf "_ring" "_ring" (defArgs s_ring) (defBody s_ring) (defScope s_ring) .none kV17 dc17 pm17 an17 cd17 ct17), sl17⟩) (c17 : PySem.W.codeIn K cd17 "_ring" = true) (k17 : PySem.W.keepIn K (.ref g17) = true) (a18 : PySem.W.nsIn K mainGlobals "_best_behind" = some (some (.ref g18))) (l18 : K.lookup g18 = some ⟨oc18, od18, .func (PySem.W.fnOf "_best_behind" "_best_behind" (defArgs s_best_behind) (defBody s_best_behind) (defScope s_best_behind) .none kV18 dc18 pm18 an18 (.ref cc) ct18), sl18⟩) (c18 : PySem.W.codeIn K (.ref cc) "_best_behind" = true) (k18 : PySem.W.keepIn K (.ref g18) = true) (tab1 : K.lookup cc = some ⟨tec, tdd, .fields tvs, tsl⟩) (tab2 : tvs[11]? = some (.ref PT)) (tab3 : PySem.W.codeHdIn K cc PT = true) (tab4 : K.lookup PT = none) (a19 : PySem.W.nsIn K mainGlobals "bar" = some (some (.ref g19))) (l19 : K.lookup g19 = some ⟨oc19, od19, .func (PySem.W.fnOf "bar" "bar" (defArgs sbar) (defBody sbar) (defScope sbar) .none kV19 dc19 pm19 an19 cd19 ct19), sl19⟩) (c19 : PySem.W.codeIn K cd19 "bar" = true) (k19 : PySem.W.keepIn K (.ref g19) = true) (a20 : PySem.W.nsIn K mainGlobals "need_above" = some (some (.ref g20))) (l20 : K.lookup g20 = some ⟨oc20, od20, .func (PySem.W.fnOf "need_above" "need_above" (defArgs sneed_above) (defBody sneed_above) (defScope sneed_above) .none kV20 dc20 pm20 an20 cd20 ct20), sl20⟩) (c20 : PySem.W.codeIn K cd20 "need_above" = true) (k20 : PySem.W.keepIn K (.ref g20) = true) (a21 : PySem.W.findIn K (.ref cShelf) "__init__" = some (some (.ref g21))) (i21 : PySem.W.isFn K (.ref g21) = true) (l21 : K.lookup g21 = some ⟨oc21, od21, .func (PySem.W.fnOf "__init__" "Shelf.__init__" (defArgs sShelf___init__) (defBody sShelf___init__) (defScope sShelf___init__) .none kV21 dc21 pm21 an21 cd21 ct21), sl21⟩) (c21 : PySem.W.codeIn K cd21 "Shelf.__init__" = true) (k21 : PySem.W.keepIn K (.ref g21) = true) (a22 : PySem.W.findIn K (.ref cShelf) "lay" = some (some (.ref g22))) (i22 : PySem.W.isFn K (.ref g22) = true) (l22 : K.lookup g22 = some ⟨oc22, od22, .func (PySem.W.fnOf "lay" "Shelf.lay" (defArgs sShelf_lay) (defBody sShelf_lay) (defScope sShelf_lay) .none kV22 dc22 pm22 an22 cd22 ct22), sl22⟩) (c22 : PySem.W.codeIn K cd22 "Shelf.lay" = true) (k22 : PySem.W.keepIn K (.ref g22) = true) (a23 : PySem.W.findIn K (.ref cShelf) "rows" = some (some (.ref g23))) (i23 : PySem.W.isFn K (.ref g23) = true) (l23 : K.lookup g23 = some ⟨oc23, od23, .func (PySem.W.fnOf "rows" "Shelf.rows" (defArgs sShelf_rows) (defBody sShelf_rows) (defScope sShelf_rows) .none kV23 dc23 pm23 an23 cd23 ct23), sl23⟩) (c23 : PySem.W.codeIn K cd23 "Shelf.rows" = true) (k23 : PySem.W.keepIn K (.ref g23) = true) (a24 : PySem.W.nsIn K mainGlobals "_picked" = some (some (.ref g24))) (l24 : K.lookup g24 = some ⟨oc24, od24, .func (PySem.W.fnOf "_picked" "_picked" (defArgs s_picked) (defBody s_picked) (defScope s_picked) .none kV24 dc24 pm24 an24 cd24 ct24), sl24⟩) (c24 : PySem.W.codeIn K cd24 "_picked" = true) (k24 : PySem.W.keepIn K (.ref g24) = true) (a25 : PySem.W.nsIn K mainGlobals "_windows_of" = some (some (.ref g25))) (l25 : K.lookup g25 = some ⟨oc25, od25, .func (PySem.W.fnOf "_windows_of" "_windows_of" (defArgs s_windows_of) (defBody s_windows_of) (defScope s_windows_of) .none kV25 dc25 pm25 an25 cd25 ct25), sl25⟩) (c25 : PySem.W.codeIn K cd25 "_windows_of" = true) (k25 : PySem.W.keepIn K (.ref g25) = true) (a26 : PySem.W.findIn K (.ref cShelf) "windows" = some (some (.ref g26))) (i26 : PySem.W.isFn K (.ref g26) = true) (l26 : K.lookup g26 = some ⟨oc26, od26, .func (PySem.W.fnOf "windows" "Shelf.windows" (defArgs sShelf_windows) (defBody sShelf_windows) (defScope sShelf_windows) .none kV26 dc26 pm26 an26 cd26 ct26), sl26⟩) (c26 : PySem.W.codeIn K cd26 "Shelf.windows" = true) (k26 : PySem.W.keepIn K (.ref g26) = true) (a27 : PySem.W.findIn K (.ref cShelf) "_seeded_lanes" = some (some (.ref g27))) (i27 : PySem.W.isFn K (.ref g27) = true) (l27 : K.lookup g27 = some ⟨oc27, od27, .func (PySem.W.fnOf "_seeded_lanes" "Shelf._seeded_lanes" (defArgs sShelf__seeded_lanes) (defBody sShelf__seeded_lanes) (defScope sShelf__seeded_lanes) .none kV27 dc27 pm27 an27 cd27 ct27), sl27⟩) (c27 : PySem.W.codeIn K cd27 "Shelf._seeded_lanes" = true) (k27 : PySem.W.keepIn K (.ref g27) = true) (a28 : PySem.W.findIn K (.ref cShelf) "find" = some (some (.ref g28))) (i28 : PySem.W.isFn K (.ref g28) = true) (l28 : K.lookup g28 = some ⟨oc28, od28, .func (PySem.W.fnOf "find" "Shelf.find" (defArgs sShelf_find) (defBody sShelf_find) (defScope sShelf_find) .none kV28 dc28 pm28 an28 cd28 ct28), sl28⟩) (c28 : PySem.W.codeIn K cd28 "Shelf.find" = true) (k28 : PySem.W.keepIn K (.ref g28) = true) (a29 : PySem.W.nsIn K mainGlobals "_need_place" = some (some (.ref g29))) (l29 : K.lookup g29 = some ⟨oc29, od29, .func (PySem.W.fnOf "_need_place" "_need_place" (defArgs s_need_place) (defBody s_need_place) (defScope s_need_place) .none kV29 dc29 pm29 an29 cd29 ct29), sl29⟩) (c29 : PySem.W.codeIn K cd29 "_need_place" = true) (k29 : PySem.W.keepIn K (.ref g29) = true) (a30 : PySem.W.nsIn K mainGlobals "_need_sign" = some (some (.ref g30))) (l30 : K.lookup g30 = some ⟨oc30, od30, .func (PySem.W.fnOf "_need_sign" "_need_sign" (defArgs s_need_sign) (defBody s_need_sign) (defScope s_need_sign) .none kV30 dc30 pm30 an30 cd30 ct30), sl30⟩) (c30 : PySem.W.codeIn K cd30 "_need_sign" = true) (k30 : PySem.W.keepIn K (.ref g30) = true) (a31 : PySem.W.nsIn K mainGlobals "_windows_over" = some (some (.ref g31))) (l31 : K.lookup g31 = some ⟨oc31, od31, .func (PySem.W.fnOf "_windows_over" "_windows_over" (defArgs s_windows_over) (defBody s_windows_over) (defScope s_windows_over) .none kV31 dc31 pm31 an31 cd31 ct31), sl31⟩) (c31 : PySem.W.codeIn K cd31 "_windows_over" = true) (k31 : PySem.W.keepIn K (.ref g31) = true) (a32 : PySem.W.findIn K (.ref cShelf) "_row_of" = some (some (.ref g32))) (i32 : PySem.W.isFn K (.ref g32) = true) (l32 : K.lookup g32 = some ⟨oc32, od32, .func (PySem.W.fnOf "_row_of" "Shelf._row_of" (defArgs sShelf__row_of) (defBody sShelf__row_of) (defScope sShelf__row_of) .none kV32 dc32 pm32 an32 cd32 ct32), sl32⟩) (c32 : PySem.W.codeIn K cd32 "Shelf._row_of" = true) (k32 : PySem.W.keepIn K (.ref g32) = true) (a33 : PySem.W.findIn K (.ref cShelf) "change" = some (some (.ref g33))) (i33 : PySem.W.isFn K (.ref g33) = true) (l33 : K.lookup g33 = some ⟨oc33, od33, .func (PySem.W.fnOf "change" "Shelf.change" (defArgs sShelf_change) (defBody sShelf_change) (defScope sShelf_change) .none kV33 dc33 pm33 an33 cd33 ct33), sl33⟩) (c33 : PySem.W.codeIn K cd33 "Shelf.change" = true) (k33 : PySem.W.keepIn K (.ref g33) = true) (a34 : PySem.W.nsIn K mainGlobals "_law_next" = some (some (.ref g34))) (l34 : K.lookup g34 = some ⟨oc34, od34, .func (PySem.W.fnOf "_law_next" "_law_next" (defArgs s_law_next) (defBody s_law_next) (defScope s_law_next) .none kV34 dc34 pm34 an34 cd34 ct34), sl34⟩) (c34 : PySem.W.codeIn K cd34 "_law_next" = true) (k34 : PySem.W.keepIn K (.ref g34) = true) (a35 : PySem.W.nsIn K mainGlobals "_law_letters" = some (some (.ref g35))) (l35 : K.lookup g35 = some ⟨oc35, od35, .func (PySem.W.fnOf "_law_letters" "_law_letters" (defArgs s_law_letters) (defBody s_law_letters) (defScope s_law_letters) .none kV35 dc35 pm35 an35 cd35 ct35), sl35⟩) (c35 : PySem.W.codeIn K cd35 "_law_letters" = true) (k35 : PySem.W.keepIn K (.ref g35) = true) (a36 : PySem.W.nsIn K mainGlobals "_law_row" = some (some (.ref g36))) (l36 : K.lookup g36 = some ⟨oc36, od36, .func (PySem.W.fnOf "_law_row" "_law_row" (defArgs s_law_row) (defBody s_law_row) (defScope s_law_row) .none kV36 dc36 pm36 an36 cd36 ct36), sl36⟩) (c36 : PySem.W.codeIn K cd36 "_law_row" = true) (k36 : PySem.W.keepIn K (.ref g36) = true) (a37 : PySem.W.nsIn K mainGlobals "_law_scale" = some (some (.ref g37))) (l37 : K.lookup g37 = some ⟨oc37, od37, .func (PySem.W.fnOf "_law_scale" "_law_scale" (defArgs s_law_scale) (defBody s_law_scale) (defScope s_law_scale) .none kV37 dc37 pm37 an37 cd37 ct37), sl37⟩) (c37 : PySem.W.codeIn K cd37 "_law_scale" = true) (k37 : PySem.W.keepIn K (.ref g37) = true) (a38 : PySem.W.nsIn K mainGlobals "_law_seed" = some (some (.ref g38))) (l38 : K.lookup g38 = some ⟨oc38, od38, .func (PySem.W.fnOf "_law_seed" "_law_seed" (defArgs s_law_seed) (defBody s_law_seed) (defScope s_law_seed) .none kV38 dc38 pm38 an38 cd38 ct38), sl38⟩) (c38 : PySem.W.codeIn K cd38 "_law_seed" = true) (k38 : PySem.W.keepIn K (.ref g38) = true) (a39 : PySem.W.nsIn K mainGlobals "_law_seeds" = some (some (.ref g39))) (l39 : K.lookup g39 = some ⟨oc39, od39, .func (PySem.W.fnOf "_law_seeds" "_law_seeds" (defArgs s_law_seeds) (defBody s_law_seeds) (defScope s_law_seeds) .none kV39 dc39 pm39 an39 cd39 ct39), sl39⟩) (c39 : PySem.W.codeIn K cd39 "_law_seeds" = true) (k39 : PySem.W.keepIn K (.ref g39) = true) (a40 : PySem.W.nsIn K mainGlobals "_law_windows" = some (some (.ref g40))) (l40 : K.lookup g40 = some ⟨oc40, od40, .func (PySem.W.fnOf "_law_windows" "_law_windows" (defArgs s_law_windows) (defBody s_law_windows) (defScope s_law_windows) .none kV40 dc40 pm40 an40 cd40 ct40), sl40⟩) (c40 : PySem.W.codeIn K cd40 "_law_windows" = true) (k40 : PySem.W.keepIn K (.ref g40) = true) (a41 : PySem.W.nsIn K mainGlobals "_law_tried" = some (some (.ref g41))) (l41 : K.lookup g41 = some ⟨oc41, od41, .func (PySem.W.fnOf "_law_tried" "_law_tried" (defArgs s_law_tried) (defBody s_law_tried) (defScope s_law_tried) .none kV41 dc41 pm41 an41 cd41 ct41), sl41⟩) (c41 : PySem.W.codeIn K cd41 "_law_tried" = true) (k41 : PySem.W.keepIn K (.ref g41) = true) (a42 : PySem.W.nsIn K mainGlobals "law" = some (some (.ref g42))) (l42 : K.lookup g42 = some ⟨oc42, od42, .func (PySem.W.fnOf "law" "law" (defArgs slaw) (defBody slaw) (defScope slaw) .none kV42 dc42 pm42 an42 cd42 ct42), sl42⟩) (c42 : PySem.W.codeIn K cd42 "law" = true) (k42 : PySem.W.keepIn K (.ref g42) = true) (z_len : PySem.W.nsIn K mainGlobals "len" = some none) (z_max : PySem.W.nsIn K mainGlobals "max" = some none) (z_min : PySem.W.nsIn K mainGlobals "min" = some none) (z_range : PySem.W.nsIn K mainGlobals "range" = some none) (z_enumerate : PySem.W.nsIn K mainGlobals "enumerate" = some none) (z_any : PySem.W.nsIn K mainGlobals "any" = some none) (z_list : PySem.W.nsIn K mainGlobals "list" = some none) (z_sorted : PySem.W.nsIn K mainGlobals "sorted" = some none) (z_set : PySem.W.nsIn K mainGlobals "set" = some none) (y_FEWEST_LETTERS : PySem.W.nsIn K mainGlobals "FEWEST_LETTERS" = some (some (Value.int (2) t_FEWEST_LETTERS))) (y_MOST_LETTERS : PySem.W.nsIn K mainGlobals "MOST_LETTERS" = some (some (Value.int (6) t_MOST_LETTERS))) (y_ALPHABET : PySem.W.nsIn K mainGlobals "ALPHABET" = some (some (Value.str "abcdefghijklmnopqrstuvwxyz" t_ALPHABET))) (y_LONGEST_ROW : PySem.W.nsIn K mainGlobals "LONGEST_ROW" = some (some (Value.int (60) t_LONGEST_ROW))) (y_LEAST_WEIGHT : PySem.W.nsIn K mainGlobals "LEAST_WEIGHT" = some (some (Value.int (1) t_LEAST_WEIGHT))) (y_MOST_WEIGHT : PySem.W.nsIn K mainGlobals "MOST_WEIGHT" = some (some (Value.int (9) t_MOST_WEIGHT))) (y_LIKE : PySem.W.nsIn K mainGlobals "LIKE" = some (some (Value.str "=" t_LIKE))) (y_UNLIKE : PySem.W.nsIn K mainGlobals "UNLIKE" = some (some (Value.str "/" t_UNLIKE))) (y_SHORTEST_SEED : PySem.W.nsIn K mainGlobals "SHORTEST_SEED" = some (some (Value.int (1) t_SHORTEST_SEED))) (y_LONGEST_SEED : PySem.W.nsIn K mainGlobals "LONGEST_SEED" = some (some (Value.int (8) t_LONGEST_SEED))) (y_PICK : PySem.W.nsIn K mainGlobals "PICK" = some (some (Value.str "#" t_PICK))) (y_GAP : PySem.W.nsIn K mainGlobals "GAP" = some (some (Value.str "-" t_GAP))) (y_FEWEST_SEEDS : PySem.W.nsIn K mainGlobals "FEWEST_SEEDS" = some (some (Value.int (1) t_FEWEST_SEEDS))) (y_MOST_SEEDS : PySem.W.nsIn K mainGlobals "MOST_SEEDS" = some (some (Value.int (3) t_MOST_SEEDS))) (y_BAR : PySem.W.nsIn K mainGlobals "BAR" = some (some (Value.str "bar" t_BAR))) (y_ENDLESS : PySem.W.nsIn K mainGlobals "ENDLESS" = some (some (Value.str "endless" t_ENDLESS))) :
    LamX.LawAtS l w K CX0 8 63 "_law_script" mg fa h := by
  have e := hfa.symm.trans (PySem.W.mg_of X G a42)
  cases e
  have F0 := fun_mk (st := sneed_letters) l0 c0 k0
  have F1 := fun_mk (st := sneed_row) l1 c1 k1
  have F2 := fun_mk (st := sneed_scale) l2 c2 k2
  have F3 := fun_mk (st := slane_begin) l3 c3 k3
  have F4 := fun_mk (st := slikes_of) l4 c4 k4
  have F5 := fun_mk (st := sworth_of) l5 c5 k5
  have F6 := fun_mk (st := s_last_below) l6 c6 k6
  have F7 := fun_mk (st := s_join) l7 c7 k7
  have F8 := fun_mk (st := sripe) l8 c8 k8
  have F9 := fun_mk (st := slane_reaches) l9 c9 k9
  have F10 := fun_mk (st := s_need_seed) l10 c10 k10
  have F11 := fun_mk (st := sneed_seeds) l11 c11 k11
  have F12 := fun_mk (st := sunlike_under) l12 c12 k12
  have F13 := fun_mk (st := sfits) l13 c13 k13
  have F14 := fun_mk (st := s_tail) l14 c14 k14
  have F15 := fun_mk (st := s_steps_from) l15 c15 k15
  have F16 := fun_mk (st := s_steps) l16 c16 k16
  have F17 := fun_mk (st := s_ring) l17 c17 k17
  have F18 := fun_mk (st := s_best_behind) l18 c18 k18
  have F19 := fun_mk (st := sbar) l19 c19 k19
  have F20 := fun_mk (st := sneed_above) l20 c20 k20
  have F21 := fun_mk (st := sShelf___init__) l21 c21 k21
  have F22 := fun_mk (st := sShelf_lay) l22 c22 k22
  have F23 := fun_mk (st := sShelf_rows) l23 c23 k23
  have F24 := fun_mk (st := s_picked) l24 c24 k24
  have F25 := fun_mk (st := s_windows_of) l25 c25 k25
  have F26 := fun_mk (st := sShelf_windows) l26 c26 k26
  have F27 := fun_mk (st := sShelf__seeded_lanes) l27 c27 k27
  have F28 := fun_mk (st := sShelf_find) l28 c28 k28
  have F29 := fun_mk (st := s_need_place) l29 c29 k29
  have F30 := fun_mk (st := s_need_sign) l30 c30 k30
  have F31 := fun_mk (st := s_windows_over) l31 c31 k31
  have F32 := fun_mk (st := sShelf__row_of) l32 c32 k32
  have F33 := fun_mk (st := sShelf_change) l33 c33 k33
  have F34 := fun_mk (st := s_law_next) l34 c34 k34
  have F35 := fun_mk (st := s_law_letters) l35 c35 k35
  have F36 := fun_mk (st := s_law_row) l36 c36 k36
  have F37 := fun_mk (st := s_law_scale) l37 c37 k37
  have F38 := fun_mk (st := s_law_seed) l38 c38 k38
  have F39 := fun_mk (st := s_law_seeds) l39 c39 k39
  have F40 := fun_mk (st := s_law_windows) l40 c40 k40
  have F41 := fun_mk (st := s_law_tried) l41 c41 k41
  have F42 := fun_mk (st := slaw) l42 c42 k42
  have b0 := F0.binds (ps := ["letters"]) fun _ _ _ _ _ _ us hl => match us, hl with | [_], _ => rfl
  have b1 := F1.binds (ps := ["row", "letters"]) fun _ _ _ _ _ _ us hl => match us, hl with | [_, _], _ => rfl
  have b2 := F2.binds (ps := ["scale"]) fun _ _ _ _ _ _ us hl => match us, hl with | [_], _ => rfl
  have b3 := F3.binds (ps := ["shift"]) fun _ _ _ _ _ _ us hl => match us, hl with | [_], _ => rfl
  have b4 := F4.binds (ps := ["one", "other", "shift"]) fun _ _ _ _ _ _ us hl => match us, hl with | [_, _, _], _ => rfl
  have b5 := F5.binds (ps := ["likes", "scale"]) fun _ _ _ _ _ _ us hl => match us, hl with | [_, _], _ => rfl
  have b6 := F6.binds (ps := ["parts", "low"]) fun _ _ _ _ _ _ us hl => match us, hl with | [_, _], _ => rfl
  have b7 := F7.binds (ps := ["parts", "place", "low", "high"]) fun _ _ _ _ _ _ us hl => match us, hl with | [_, _, _, _], _ => rfl
  have b8 := F8.binds (ps := ["likes", "scale"]) fun _ _ _ _ _ _ us hl => match us, hl with | [_, _], _ => rfl
  have b9 := F9.binds (ps := ["one", "other", "shift", "scale", "told"]) fun _ _ _ _ _ _ us hl => match us, hl with | [_, _, _, _, _], _ => rfl
  have b10 := F10.binds (ps := ["seed"]) fun _ _ _ _ _ _ us hl => match us, hl with | [_], _ => rfl
  have b11 := F11.binds (ps := ["seeds"]) fun _ _ _ _ _ _ us hl => match us, hl with | [_], _ => rfl
  have b12 := F12.binds (ps := ["seed", "likes", "place"]) fun _ _ _ _ _ _ us hl => match us, hl with | [_, _, _], _ => rfl
  have b13 := F13.binds (ps := ["seed", "likes", "place"]) fun _ _ _ _ _ _ us hl => match us, hl with | [_, _, _], _ => rfl
  have b14 := F14.binds (ps := ["likes", "keep"]) fun _ _ _ _ _ _ us hl => match us, hl with | [_, _], _ => rfl
  have b15 := F15.binds (ps := ["tail", "seeds"]) fun _ _ _ _ _ _ us hl => match us, hl with | [_, _], _ => rfl
  have b16 := F16.binds (ps := ["seeds"]) fun _ _ _ _ _ _ us hl => match us, hl with | [_], _ => rfl
  have b17 := F17.binds (ps := ["steps", "tail", "likes"]) fun _ _ _ _ _ _ us hl => match us, hl with | [_, _, _], _ => rfl
  have b18 := F18.binds (ps := ["steps", "best", "weights"]) fun _ _ _ _ _ _ us hl => match us, hl with | [_, _, _], _ => rfl
  have b19 := F19.binds (ps := ["seeds", "scale"]) fun _ _ _ _ _ _ us hl => match us, hl with | [_, _], _ => rfl
  have b20 := F20.binds (ps := ["told", "limit"]) fun _ _ _ _ _ _ us hl => match us, hl with | [_, _], _ => rfl
  have b21 := F21.binds (ps := ["self", "letters", "scale", "seeds"]) fun _ _ _ _ _ _ us hl => match us, hl with | [_, _, _, _], _ => rfl
  have b22 := F22.binds (ps := ["self", "row"]) fun _ _ _ _ _ _ us hl => match us, hl with | [_, _], _ => rfl
  have b23 := F23.binds (ps := ["self"]) fun _ _ _ _ _ _ us hl => match us, hl with | [_], _ => rfl
  have b24 := F24.binds (ps := ["seed", "row", "place"]) fun _ _ _ _ _ _ us hl => match us, hl with | [_, _, _], _ => rfl
  have b25 := F25.binds (ps := ["row", "seeds"]) fun _ _ _ _ _ _ us hl => match us, hl with | [_, _], _ => rfl
  have b26 := F26.binds (ps := ["self"]) fun _ _ _ _ _ _ us hl => match us, hl with | [_], _ => rfl
  have b27 := F27.binds (ps := ["self", "row"]) fun _ _ _ _ _ _ us hl => match us, hl with | [_, _], _ => rfl
  have b28 := F28.binds (ps := ["self", "row", "told"]) fun _ _ _ _ _ _ us hl => match us, hl with | [_, _, _], _ => rfl
  have b29 := F29.binds (ps := ["place", "last"]) fun _ _ _ _ _ _ us hl => match us, hl with | [_, _], _ => rfl
  have b30 := F30.binds (ps := ["sign", "letters"]) fun _ _ _ _ _ _ us hl => match us, hl with | [_, _], _ => rfl
  have b31 := F31.binds (ps := ["seeds", "length", "first", "last"]) fun _ _ _ _ _ _ us hl => match us, hl with | [_, _, _, _], _ => rfl
  have b32 := F32.binds (ps := ["self", "number"]) fun _ _ _ _ _ _ us hl => match us, hl with | [_, _], _ => rfl
  have b33 := F33.binds (ps := ["self", "number", "place", "sign"]) fun _ _ _ _ _ _ us hl => match us, hl with | [_, _, _, _], _ => rfl
  have b34 := F34.binds (ps := ["_law_h", "_law_many"]) fun _ _ _ _ _ _ us hl => match us, hl with | [_, _], _ => rfl
  have b35 := F35.binds (ps := ["_law_h"]) fun _ _ _ _ _ _ us hl => match us, hl with | [_], _ => rfl
  have b36 := F36.binds (ps := ["_law_h", "_law_letters_here", "_law_most"]) fun _ _ _ _ _ _ us hl => match us, hl with | [_, _, _], _ => rfl
  have b37 := F37.binds (ps := ["_law_h"]) fun _ _ _ _ _ _ us hl => match us, hl with | [_], _ => rfl
  have b38 := F38.binds (ps := ["_law_h", "_law_most"]) fun _ _ _ _ _ _ us hl => match us, hl with | [_, _], _ => rfl
  have b39 := F39.binds (ps := ["_law_h", "_law_most"]) fun _ _ _ _ _ _ us hl => match us, hl with | [_, _], _ => rfl
  have b40 := F40.binds (ps := ["_law_seeds_here", "_law_rows_here"]) fun _ _ _ _ _ _ us hl => match us, hl with | [_, _], _ => rfl
  have b41 := F41.binds (ps := ["_law_shelf_here", "_law_row_here"]) fun _ _ _ _ _ _ us hl => match us, hl with | [_, _], _ => rfl
  have B : Bl mg := ⟨PySem.W.mg_none_of X G z_len, PySem.W.mg_none_of X G z_max, PySem.W.mg_none_of X G z_min, PySem.W.mg_none_of X G z_range, PySem.W.mg_none_of X G z_enumerate, PySem.W.mg_none_of X G z_any, PySem.W.mg_none_of X G z_list, PySem.W.mg_none_of X G z_sorted, PySem.W.mg_none_of X G z_set⟩
  have C : Cs mg _ _ _ _ _ _ _ _ _ _ _ _ _ _ _ _ := ⟨⟨⟨_, rfl⟩, PySem.W.mg_of X G y_FEWEST_LETTERS⟩, ⟨⟨_, rfl⟩, PySem.W.mg_of X G y_MOST_LETTERS⟩, ⟨⟨_, rfl⟩, PySem.W.mg_of X G y_ALPHABET⟩, ⟨⟨_, rfl⟩, PySem.W.mg_of X G y_LONGEST_ROW⟩, ⟨⟨_, rfl⟩, PySem.W.mg_of X G y_LEAST_WEIGHT⟩, ⟨⟨_, rfl⟩, PySem.W.mg_of X G y_MOST_WEIGHT⟩, ⟨⟨_, rfl⟩, PySem.W.mg_of X G y_LIKE⟩, ⟨⟨_, rfl⟩, PySem.W.mg_of X G y_UNLIKE⟩, ⟨⟨_, rfl⟩, PySem.W.mg_of X G y_SHORTEST_SEED⟩, ⟨⟨_, rfl⟩, PySem.W.mg_of X G y_LONGEST_SEED⟩, ⟨⟨_, rfl⟩, PySem.W.mg_of X G y_PICK⟩, ⟨⟨_, rfl⟩, PySem.W.mg_of X G y_GAP⟩, ⟨⟨_, rfl⟩, PySem.W.mg_of X G y_FEWEST_SEEDS⟩, ⟨⟨_, rfl⟩, PySem.W.mg_of X G y_MOST_SEEDS⟩, ⟨⟨_, rfl⟩, PySem.W.mg_of X G y_BAR⟩, ⟨⟨_, rfl⟩, PySem.W.mg_of X G y_ENDLESS⟩⟩
  refine ⟨PySem.W.fnOf "law" "law" (defArgs slaw) (defBody slaw) (defScope slaw) .none kV42 dc42 pm42 an42 cd42 ct42, [(cc, PT)], splaw K PT, fun p hp => ?_, fun p hp => ?_, fun p hp => ?_, fun s v => .of_eq rfl, fun H a ns hl _ hT hS => ⟨a, ns, rfl, hS, hl, TabS_nil (hT _ List.mem_cons_self), fun _ => rfl⟩, fun base _ _ hTB => ?_⟩
  · rw [List.mem_singleton.mp hp]
    exact OT _ _ _ _ _ _ _ _ _ (PySem.W.mg_of X G a18) l18 rfl rfl tab1 tab2
  · rw [List.mem_singleton.mp hp]
    exact tab4
  · rw [List.mem_singleton.mp hp]
    exact PySem.W.codeHd_of_K X tab3
  have TB := hTB _ List.mem_cons_self
  have XFBadRow : XcF K mg "BadRow" aBadRow := ⟨PySem.W.mg_of X G gxBadRow, xpBadRow, kxBadRow, bsBadRow, tpBadRow⟩
  have oeTooLow : OexC K aTooLow := ⟨oexB_cls obTooLow, saTooLow, bsTooLow, tpTooLow, kxTooLow⟩
  have ZTTooLow : TlS l.prog (defScope sTooLow___init__) flTooLow := ⟨rfl, rfl, rfl, by decide +kernel, rfl, rfl, rfl, rfl, pfTooLow, ptTooLow⟩
  have WTTooLow : TlF K mg aTooLow giTooLow ceTooLow cdTooLow (defScope sTooLow___init__) flTooLow := ⟨PySem.W.mg_none_of X G spTooLow, thTooLow, ⟨_, _, _, clTooLow⟩, ⟨_, _, _, _, _, coTooLow, cwTooLow⟩, alTooLow, veTooLow, baTooLow, mrTooLow⟩
  have XOTooLow : XoF l.prog w K mg base "TooLow" aTooLow giTooLow _ := ⟨PySem.W.mg_of X G gxTooLow, oeTooLow, icTooLow, tiTooLow, okTL oeTooLow WTTooLow ZTTooLow liTooLow ciTooLow ⟨_, rfl, rfl⟩ rfl (fun L => rfl), .all fun us hl => match us, hl with | [_, _], _ => rfl, ⟨hgTooLow, hkTooLow, bsTooLow, hdTooLow⟩, baTooLow⟩
  have XNBadRow : XcN K mg "BadRow" aBadRow := ⟨PySem.W.mg_of X G gxBadRow⟩
  have MM : XM K aBadRow aTooLow := ⟨hdBadRow, tpBadRow, bsBadRow, hdTooLow, tpTooLow, bsTooLow, ⟨hgBadRow, hkBadRow, bsBadRow, hdBadRow, hcBadRow, xhn, xht, hmBadRow⟩, veBadRow, suBadRow_BadRow, suBadRow_TooLow, ⟨hgTooLow, hkTooLow, bsTooLow, hdTooLow, hcTooLow, xhn, xht, hmTooLow⟩, veTooLow, suTooLow_BadRow, suTooLow_TooLow⟩
  have TShelf : KlShelf K mg cShelf g21 := ⟨⟨pgShelf, hdShelf, poShelf, saShelf⟩, PySem.W.mg_of X G aCShelf, ⟨mkShelf, a21, i21, kcShelf⟩, nShelf_letters, nShelf_scale, nShelf_seeds, nShelf_limit, nShelf_laid⟩
  have Dneed_letters : Dn l.prog w K mg base "need_letters" 1 ["letters"] (spneed_letters K) g0 _ := ⟨okneed_letters F0 B C, PySem.W.mg_of X G a0, F0.kp, b0⟩
  have Dneed_row : DnX l.prog w K mg base "need_row" 1 ["row", "letters"] (spneed_row K aBadRow) g1 _ := ⟨okneed_row F1 B XFBadRow C, PySem.W.mg_of X G a1, F1.kp, b1⟩
  have Dneed_scale : Dn l.prog w K mg base "need_scale" 1 ["scale"] (spneed_scale K) g2 _ := ⟨okneed_scale F2 B C, PySem.W.mg_of X G a2, F2.kp, b2⟩
  have Dlane_begin : Dn l.prog w K mg base "lane_begin" 1 ["shift"] (splane_begin K) g3 _ := ⟨oklane_begin F3 B, PySem.W.mg_of X G a3, F3.kp, b3⟩
  have Dlikes_of : Dn l.prog w K mg base "likes_of" 2 ["one", "other", "shift"] (splikes_of K) g4 _ := ⟨oklikes_of F4 B C Dlane_begin, PySem.W.mg_of X G a4, F4.kp, b4⟩
  have Dworth_of : Dn l.prog w K mg base "worth_of" 1 ["likes", "scale"] (spworth_of K) g5 _ := ⟨okworth_of F5 B C, PySem.W.mg_of X G a5, F5.kp, b5⟩
  have D_last_below : Dn l.prog w K mg base "_last_below" 1 ["parts", "low"] (sp_last_below K) g6 _ := ⟨ok_last_below F6 B, PySem.W.mg_of X G a6, F6.kp, b6⟩
  have D_join : Dn l.prog w K mg base "_join" 2 ["parts", "place", "low", "high"] (sp_join K) g7 _ := ⟨ok_join F7 B D_last_below, PySem.W.mg_of X G a7, F7.kp, b7⟩
  have Dripe : Dn l.prog w K mg base "ripe" 3 ["likes", "scale"] (spripe K) g8 _ := ⟨okripe F8 B C D_join, PySem.W.mg_of X G a8, F8.kp, b8⟩
  have Dlane_reaches : Dn l.prog w K mg base "lane_reaches" 4 ["one", "other", "shift", "scale", "told"] (splane_reaches K) g9 _ := ⟨oklane_reaches F9 B Dlikes_of Dlane_begin Dripe Dworth_of, PySem.W.mg_of X G a9, F9.kp, b9⟩
  have D_need_seed : Dn l.prog w K mg base "_need_seed" 1 ["seed"] (sp_need_seed K) g10 _ := ⟨ok_need_seed F10 B C, PySem.W.mg_of X G a10, F10.kp, b10⟩
  have Dneed_seeds : Dn l.prog w K mg base "need_seeds" 2 ["seeds"] (spneed_seeds K) g11 _ := ⟨okneed_seeds F11 B C D_need_seed, PySem.W.mg_of X G a11, F11.kp, b11⟩
  have Dunlike_under : Dn l.prog w K mg base "unlike_under" 1 ["seed", "likes", "place"] (spunlike_under K) g12 _ := ⟨okunlike_under F12 B C, PySem.W.mg_of X G a12, F12.kp, b12⟩
  have Dfits : Dn l.prog w K mg base "fits" 2 ["seed", "likes", "place"] (spfits K) g13 _ := ⟨okfits F13 B Dunlike_under, PySem.W.mg_of X G a13, F13.kp, b13⟩
  have D_tail : Dn l.prog w K mg base "_tail" 1 ["likes", "keep"] (sp_tail K) g14 _ := ⟨ok_tail F14 B C, PySem.W.mg_of X G a14, F14.kp, b14⟩
  have D_steps_from : Dn l.prog w K mg base "_steps_from" 3 ["tail", "seeds"] (sp_steps_from K) g15 _ := ⟨ok_steps_from F15 B C D_tail Dfits, PySem.W.mg_of X G a15, F15.kp, b15⟩
  have D_steps : Dn l.prog w K mg base "_steps" 4 ["seeds"] (sp_steps K) g16 _ := ⟨ok_steps F16 B D_steps_from, PySem.W.mg_of X G a16, F16.kp, b16⟩
  have D_ring : Dn l.prog w K mg base "_ring" 1 ["steps", "tail", "likes"] (sp_ring K) g17 _ := ⟨ok_ring F17 B, PySem.W.mg_of X G a17, F17.kp, b17⟩
  have D_best_behind : Dn l.prog w K mg base "_best_behind" 3 ["steps", "best", "weights"] (sp_best_behind K PT) g18 _ := ⟨ok_best_behind l18 c18 TB B, PySem.W.mg_of X G a18, F18.kp, b18⟩
  have Dbar : Dn l.prog w K mg base "bar" 5 ["seeds", "scale"] (spbar K PT) g19 _ := ⟨okbar F19 B C D_steps Dworth_of D_ring D_best_behind, PySem.W.mg_of X G a19, F19.kp, b19⟩
  have Dneed_above : DnX l.prog w K mg base "need_above" 3 ["told", "limit"] (spneed_above K aTooLow) g20 _ := ⟨okneed_above F20 B XOTooLow C, PySem.W.mg_of X G a20, F20.kp, b20⟩
  have DShelf___init__ : Dm l.prog w K mg base cShelf "__init__" 6 ["self", "letters", "scale", "seeds"] (spShelf___init__ K PT cShelf) g21 _ := ⟨okShelf___init__ F21 B TShelf Dneed_letters Dneed_scale Dneed_seeds Dbar, ⟨a21, i21, k21⟩, b21⟩
  have DShelf_lay : DmX l.prog w K mg base cShelf "lay" 2 ["self", "row"] (spShelf_lay K aBadRow cShelf) g22 _ := ⟨okShelf_lay F22 B TShelf Dneed_row, ⟨a22, i22, k22⟩, b22⟩
  have DShelf_rows : Dm l.prog w K mg base cShelf "rows" 1 ["self"] (spShelf_rows K cShelf) g23 _ := ⟨okShelf_rows F23 B TShelf, ⟨a23, i23, k23⟩, b23⟩
  have D_picked : Dn l.prog w K mg base "_picked" 1 ["seed", "row", "place"] (sp_picked K) g24 _ := ⟨ok_picked F24 B C, PySem.W.mg_of X G a24, F24.kp, b24⟩
  have D_windows_of : Dn l.prog w K mg base "_windows_of" 2 ["row", "seeds"] (sp_windows_of K) g25 _ := ⟨ok_windows_of F25 B D_picked, PySem.W.mg_of X G a25, F25.kp, b25⟩
  have DShelf_windows : Dm l.prog w K mg base cShelf "windows" 3 ["self"] (spShelf_windows K cShelf) g26 _ := ⟨okShelf_windows F26 B TShelf D_windows_of, ⟨a26, i26, k26⟩, b26⟩
  have DShelf__seeded_lanes : Dm l.prog w K mg base cShelf "_seeded_lanes" 4 ["self", "row"] (spShelf__seeded_lanes K cShelf) g27 _ := ⟨okShelf__seeded_lanes F27 B TShelf D_windows_of DShelf_windows, ⟨a27, i27, k27⟩, b27⟩
  have DShelf_find : DmX l.prog w K mg base cShelf "find" 5 ["self", "row", "told"] (spShelf_find K aBadRow aTooLow cShelf) g28 _ := ⟨okShelf_find F28 B TShelf Dneed_row Dneed_above Dlane_reaches DShelf__seeded_lanes, ⟨a28, i28, k28⟩, b28⟩
  have D_need_place : Dn l.prog w K mg base "_need_place" 1 ["place", "last"] (sp_need_place K) g29 _ := ⟨ok_need_place F29 B, PySem.W.mg_of X G a29, F29.kp, b29⟩
  have D_need_sign : Dn l.prog w K mg base "_need_sign" 1 ["sign", "letters"] (sp_need_sign K) g30 _ := ⟨ok_need_sign F30 B, PySem.W.mg_of X G a30, F30.kp, b30⟩
  have D_windows_over : Dn l.prog w K mg base "_windows_over" 1 ["seeds", "length", "first", "last"] (sp_windows_over K) g31 _ := ⟨ok_windows_over F31 B, PySem.W.mg_of X G a31, F31.kp, b31⟩
  have DShelf__row_of : Dm l.prog w K mg base cShelf "_row_of" 1 ["self", "number"] (spShelf__row_of K cShelf) g32 _ := ⟨okShelf__row_of F32 B TShelf, ⟨a32, i32, k32⟩, b32⟩
  have DShelf_change : Dm l.prog w K mg base cShelf "change" 2 ["self", "number", "place", "sign"] (spShelf_change K cShelf) g33 _ := ⟨okShelf_change F33 B TShelf D_need_place D_need_sign D_windows_over DShelf__row_of, ⟨a33, i33, k33⟩, b33⟩
  have D_law_next : Dn l.prog w K mg base "_law_next" 1 ["_law_h", "_law_many"] (sp_law_next K) g34 _ := ⟨ok_law_next F34 B, PySem.W.mg_of X G a34, F34.kp, b34⟩
  have D_law_letters : Dn l.prog w K mg base "_law_letters" 2 ["_law_h"] (sp_law_letters K) g35 _ := ⟨ok_law_letters F35 B D_law_next, PySem.W.mg_of X G a35, F35.kp, b35⟩
  have D_law_row : Dn l.prog w K mg base "_law_row" 2 ["_law_h", "_law_letters_here", "_law_most"] (sp_law_row K) g36 _ := ⟨ok_law_row F36 B D_law_next, PySem.W.mg_of X G a36, F36.kp, b36⟩
  have D_law_scale : Dn l.prog w K mg base "_law_scale" 2 ["_law_h"] (sp_law_scale K) g37 _ := ⟨ok_law_scale F37 B D_law_next, PySem.W.mg_of X G a37, F37.kp, b37⟩
  have D_law_seed : Dn l.prog w K mg base "_law_seed" 2 ["_law_h", "_law_most"] (sp_law_seed K) g38 _ := ⟨ok_law_seed F38 B D_law_next, PySem.W.mg_of X G a38, F38.kp, b38⟩
  have D_law_seeds : Dn l.prog w K mg base "_law_seeds" 3 ["_law_h", "_law_most"] (sp_law_seeds K) g39 _ := ⟨ok_law_seeds F39 B D_law_seed D_law_next, PySem.W.mg_of X G a39, F39.kp, b39⟩
  have D_law_windows : Dn l.prog w K mg base "_law_windows" 1 ["_law_seeds_here", "_law_rows_here"] (sp_law_windows K) g40 _ := ⟨ok_law_windows F40 B, PySem.W.mg_of X G a40, F40.kp, b40⟩
  have D_law_tried : Dn l.prog w K mg base "_law_tried" 6 ["_law_shelf_here", "_law_row_here"] (sp_law_tried K cShelf) g41 _ := ⟨ok_law_tried F41 B XNBadRow XOTooLow MM TShelf DShelf_find DShelf_lay, PySem.W.mg_of X G a41, F41.kp, b41⟩
  exact oklaw F42 B TShelf D_law_letters D_law_seeds D_law_next DShelf___init__ D_law_tried D_law_scale D_law_row D_law_windows DShelf_lay DShelf_change DShelf_rows DShelf_windows
end Sr
open PySem PySem.W PyProof.Rows
set_option maxHeartbeats 0 in
theorem PySem.Challenge.cw_seedreach_k21_two_shelves_apart_holds : PySem.Challenge.rw_seedreach_k21_two_shelves_apart.Holds := by
  w_on; o_law; k_head; (case hw => w_witness2)
  k_fill
  refine L2.walk_ofTab (l := PySem.Challenge.rw_seedreach_k21_two_shelves_apart) (n := 63) (k := 8) (x := "_law_script") (y := "_best_behind") (CX := fun _ => L2.CX0) rfl (by decide) rfl ⟨rfl, by decide, by decide⟩ (by decide +kernel) (fun w h Y => PySem.W.km_in_of Y) ?F (fun _ _ _ _ _ h => h)
  case F =>
    intro w mg fa h Y KX G hmg OT
    refine' Sr.all_mk KX G OT hmg ?aCShelf ?pgShelf ?hdShelf ?poShelf ?saShelf ?mkShelf ?kcShelf ?nShelf_letters ?nShelf_scale ?nShelf_seeds ?nShelf_limit ?nShelf_laid ?gxBadRow ?hdBadRow ?tpBadRow ?bsBadRow ?gxTooLow ?hdTooLow ?tpTooLow ?bsTooLow ?obTooLow ?kxTooLow ?saTooLow ?icTooLow ?tiTooLow ?liTooLow ?ciTooLow ?clTooLow ?coTooLow ?cwTooLow ?alTooLow ?baTooLow ?mrTooLow ?thTooLow ?spTooLow ?pfTooLow ?ptTooLow ?hgTooLow ?hkTooLow ?hcTooLow ?hmTooLow ?veTooLow ?suTooLow_BadRow ?suTooLow_TooLow ?xpBadRow ?kxBadRow ?hgBadRow ?hkBadRow ?hcBadRow ?hmBadRow ?veBadRow ?suBadRow_BadRow ?suBadRow_TooLow ?xhn ?xht ?a0 ?l0 ?c0 ?k0 ?a1 ?l1 ?c1 ?k1 ?a2 ?l2 ?c2 ?k2 ?a3 ?l3 ?c3 ?k3 ?a4 ?l4 ?c4 ?k4 ?a5 ?l5 ?c5 ?k5 ?a6 ?l6 ?c6 ?k6 ?a7 ?l7 ?c7 ?k7 ?a8 ?l8 ?c8 ?k8 ?a9 ?l9 ?c9 ?k9 ?a10 ?l10 ?c10 ?k10 ?a11 ?l11 ?c11 ?k11 ?a12 ?l12 ?c12 ?k12 ?a13 ?l13 ?c13 ?k13 ?a14 ?l14 ?c14 ?k14 ?a15 ?l15 ?c15 ?k15 ?a16 ?l16 ?c16 ?k16 ?a17 ?l17 ?c17 ?k17 ?a18 ?l18 ?c18 ?k18 ?tab1 ?tab2 ?tab3 ?tab4 ?a19 ?l19 ?c19 ?k19 ?a20 ?l20 ?c20 ?k20 ?a21 ?i21 ?l21 ?c21 ?k21 ?a22 ?i22 ?l22 ?c22 ?k22 ?a23 ?i23 ?l23 ?c23 ?k23 ?a24 ?l24 ?c24 ?k24 ?a25 ?l25 ?c25 ?k25 ?a26 ?i26 ?l26 ?c26 ?k26 ?a27 ?i27 ?l27 ?c27 ?k27 ?a28 ?i28 ?l28 ?c28 ?k28 ?a29 ?l29 ?c29 ?k29 ?a30 ?l30 ?c30 ?k30 ?a31 ?l31 ?c31 ?k31 ?a32 ?i32 ?l32 ?c32 ?k32 ?a33 ?i33 ?l33 ?c33 ?k33 ?a34 ?l34 ?c34 ?k34 ?a35 ?l35 ?c35 ?k35 ?a36 ?l36 ?c36 ?k36 ?a37 ?l37 ?c37 ?k37 ?a38 ?l38 ?c38 ?k38 ?a39 ?l39 ?c39 ?k39 ?a40 ?l40 ?c40 ?k40 ?a41 ?l41 ?c41 ?k41 ?a42 ?l42 ?c42 ?k42 ?z_len ?z_max ?z_min ?z_range ?z_enumerate ?z_any ?z_list ?z_sorted ?z_set ?y_FEWEST_LETTERS ?y_MOST_LETTERS ?y_ALPHABET ?y_LONGEST_ROW ?y_LEAST_WEIGHT ?y_MOST_WEIGHT ?y_LIKE ?y_UNLIKE ?y_SHORTEST_SEED ?y_LONGEST_SEED ?y_PICK ?y_GAP ?y_FEWEST_SEEDS ?y_MOST_SEEDS ?y_BAR ?y_ENDLESS
    (case aCShelf => k_is)
    (case pgShelf => k_is)
    (case hdShelf => k_is)
    (case poShelf => k_is)
    (case saShelf => k_is)
    (case mkShelf => k_is)
    (case kcShelf => k_is)
    (case nShelf_letters => k_is)
    (case nShelf_scale => k_is)
    (case nShelf_seeds => k_is)
    (case nShelf_limit => k_is)
    (case nShelf_laid => k_is)
    (case gxBadRow => k_is)
    (case hdBadRow => k_is)
    (case tpBadRow => k_is)
    (case bsBadRow => k_is)
    (case gxTooLow => k_is)
    (case hdTooLow => k_is)
    (case tpTooLow => k_is)
    (case bsTooLow => k_is)
    (case obTooLow => first | rfl | k_exc | k_is | decide +kernel)
    (case kxTooLow => k_is)
    (case saTooLow => k_is)
    (case icTooLow => k_is)
    (case tiTooLow => k_is)
    (case liTooLow => k_is)
    (case ciTooLow => k_is)
    (case clTooLow => k_is)
    (case coTooLow => k_is)
    (case cwTooLow => rfl)
    (case alTooLow => rfl)
    (case baTooLow => k_is)
    (case mrTooLow => k_is)
    (case thTooLow => k_is)
    (case spTooLow => k_is)
    (case pfTooLow => first | rfl | k_exc | k_is | decide +kernel)
    (case ptTooLow => first | rfl | k_exc | k_is | decide +kernel)
    (case hgTooLow => k_is)
    (case hkTooLow => k_is)
    (case hcTooLow => k_is)
    (case hmTooLow => k_is)
    (case veTooLow => k_is)
    (case suTooLow_BadRow => k_is)
    (case suTooLow_TooLow => k_is)
    (case xpBadRow => k_exc)
    (case kxBadRow => k_is)
    (case hgBadRow => k_is)
    (case hkBadRow => k_is)
    (case hcBadRow => k_is)
    (case hmBadRow => k_is)
    (case veBadRow => k_is)
    (case suBadRow_BadRow => k_is)
    (case suBadRow_TooLow => k_is)
    (case xhn => k_is)
    (case xht => k_is)
    (case a0 => k_is)
    (case l0 => k_is)
    (case c0 => k_is)
    (case k0 => k_is)
    (case a1 => k_is)
    (case l1 => k_is)
    (case c1 => k_is)
    (case k1 => k_is)
    (case a2 => k_is)
    (case l2 => k_is)
    (case c2 => k_is)
    (case k2 => k_is)
    (case a3 => k_is)
    (case l3 => k_is)
    (case c3 => k_is)
    (case k3 => k_is)
    (case a4 => k_is)
    (case l4 => k_is)
    (case c4 => k_is)
    (case k4 => k_is)
    (case a5 => k_is)
    (case l5 => k_is)
    (case c5 => k_is)
    (case k5 => k_is)
    (case a6 => k_is)
    (case l6 => k_is)
    (case c6 => k_is)
    (case k6 => k_is)
    (case a7 => k_is)
    (case l7 => k_is)
    (case c7 => k_is)
    (case k7 => k_is)
    (case a8 => k_is)
    (case l8 => k_is)
    (case c8 => k_is)
    (case k8 => k_is)
    (case a9 => k_is)
    (case l9 => k_is)
    (case c9 => k_is)
    (case k9 => k_is)
    (case a10 => k_is)
    (case l10 => k_is)
    (case c10 => k_is)
    (case k10 => k_is)
    (case a11 => k_is)
    (case l11 => k_is)
    (case c11 => k_is)
    (case k11 => k_is)
    (case a12 => k_is)
    (case l12 => k_is)
    (case c12 => k_is)
    (case k12 => k_is)
    (case a13 => k_is)
    (case l13 => k_is)
    (case c13 => k_is)
    (case k13 => k_is)
    (case a14 => k_is)
    (case l14 => k_is)
    (case c14 => k_is)
    (case k14 => k_is)
    (case a15 => k_is)
    (case l15 => k_is)
    (case c15 => k_is)
    (case k15 => k_is)
    (case a16 => k_is)
    (case l16 => k_is)
    (case c16 => k_is)
    (case k16 => k_is)
    (case a17 => k_is)
    (case l17 => k_is)
    (case c17 => k_is)
    (case k17 => k_is)
    (case a18 => k_is)
    (case l18 => k_is)
    (case c18 => k_is)
    (case k18 => k_is)
    (case tab1 => k_is)
    (case tab2 => rfl)
    (case tab3 => rfl)
    (case tab4 => rfl)
    (case a19 => k_is)
    (case l19 => k_is)
    (case c19 => k_is)
    (case k19 => k_is)
    (case a20 => k_is)
    (case l20 => k_is)
    (case c20 => k_is)
    (case k20 => k_is)
    (case a21 => k_is)
    (case i21 => k_is)
    (case l21 => k_is)
    (case c21 => k_is)
    (case k21 => k_is)
    (case a22 => k_is)
    (case i22 => k_is)
    (case l22 => k_is)
    (case c22 => k_is)
    (case k22 => k_is)
    (case a23 => k_is)
    (case i23 => k_is)
    (case l23 => k_is)
    (case c23 => k_is)
    (case k23 => k_is)
    (case a24 => k_is)
    (case l24 => k_is)
    (case c24 => k_is)
    (case k24 => k_is)
    (case a25 => k_is)
    (case l25 => k_is)
    (case c25 => k_is)
    (case k25 => k_is)
    (case a26 => k_is)
    (case i26 => k_is)
    (case l26 => k_is)
    (case c26 => k_is)
    (case k26 => k_is)
    (case a27 => k_is)
    (case i27 => k_is)
    (case l27 => k_is)
    (case c27 => k_is)
    (case k27 => k_is)
    (case a28 => k_is)
    (case i28 => k_is)
    (case l28 => k_is)
    (case c28 => k_is)
    (case k28 => k_is)
    (case a29 => k_is)
    (case l29 => k_is)
    (case c29 => k_is)
    (case k29 => k_is)
    (case a30 => k_is)
    (case l30 => k_is)
    (case c30 => k_is)
    (case k30 => k_is)
    (case a31 => k_is)
    (case l31 => k_is)
    (case c31 => k_is)
    (case k31 => k_is)
    (case a32 => k_is)
    (case i32 => k_is)
    (case l32 => k_is)
    (case c32 => k_is)
    (case k32 => k_is)
    (case a33 => k_is)
    (case i33 => k_is)
    (case l33 => k_is)
    (case c33 => k_is)
    (case k33 => k_is)
    (case a34 => k_is)
    (case l34 => k_is)
    (case c34 => k_is)
    (case k34 => k_is)
    (case a35 => k_is)
    (case l35 => k_is)
    (case c35 => k_is)
    (case k35 => k_is)
    (case a36 => k_is)
    (case l36 => k_is)
    (case c36 => k_is)
    (case k36 => k_is)
    (case a37 => k_is)
    (case l37 => k_is)
    (case c37 => k_is)
    (case k37 => k_is)
    (case a38 => k_is)
    (case l38 => k_is)
    (case c38 => k_is)
    (case k38 => k_is)
    (case a39 => k_is)
    (case l39 => k_is)
    (case c39 => k_is)
    (case k39 => k_is)
    (case a40 => k_is)
    (case l40 => k_is)
    (case c40 => k_is)
    (case k40 => k_is)
    (case a41 => k_is)
    (case l41 => k_is)
    (case c41 => k_is)
    (case k41 => k_is)
    (case a42 => k_is)
    (case l42 => k_is)
    (case c42 => k_is)
    (case k42 => k_is)
    (case z_len => k_is)
    (case z_max => k_is)
    (case z_min => k_is)
    (case z_range => k_is)
    (case z_enumerate => k_is)
    (case z_any => k_is)
    (case z_list => k_is)
    (case z_sorted => k_is)
    (case z_set => k_is)
    (case y_FEWEST_LETTERS => k_is)
    (case y_MOST_LETTERS => k_is)
    (case y_ALPHABET => k_is)
    (case y_LONGEST_ROW => k_is)
    (case y_LEAST_WEIGHT => k_is)
    (case y_MOST_WEIGHT => k_is)
    (case y_LIKE => k_is)
    (case y_UNLIKE => k_is)
    (case y_SHORTEST_SEED => k_is)
    (case y_LONGEST_SEED => k_is)
    (case y_PICK => k_is)
    (case y_GAP => k_is)
    (case y_FEWEST_SEEDS => k_is)
    (case y_MOST_SEEDS => k_is)
    (case y_BAR => k_is)
    (case y_ENDLESS => k_is)
