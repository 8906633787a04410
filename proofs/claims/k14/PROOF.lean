import PyProof.Rows.All
import Wide.All
import OpenK.AllK
import Wide.FinOn
import HandS.ForMost
import HandS.IsInst
import HandS.Walk
import KE.SortData
import HandS.Style
import HandS.Flow
import HandS.ExcInit
import HandS.ExcField
import HandS.TryMany
import KE.KExcSuper
import KE.KSuper
import KE.KSuperObj
import HandS.Exc
import HandS.ExcOwn
import HandS.WordsExc
import HandS.ExcIs
import HandS.TryOnly
import HandS.SetFor
import KE.KExcIs
import HandS.TupSets
import KE.SortData
import HandS.SetTxt0
import PyProof.DictMoreH
import HandS.Style
import KE.KRevSl
import HandS.Lambda
import HandS.SortKw
import HandS.DictComp
import HandS.StrMore
import HandS.EndTab
import HandS.ListItems
import KE.DataMinKey
import PySem.Challenge.RW_seedreach_k14_too_low
set_option Elab.async false
set_option linter.all false
set_option maxRecDepth 100000
set_option maxHeartbeats 4000000
namespace L2
open PySem PySem.Spec PyProof.Rows
/-! ### readings, one step a lemma -/
section
variable {σ : St} {H : Hp} {Q : VK} {i j : Int} {n : Nat} {v : V} {ta tb tc te : TE} {K : PySem.W.Frag} {a p : Addr} {xs ys : List V} {z z' : Str}
theorem x_var (h : σ[n]? = some (some v)) (q : Q v H) : tVar n σ H Q := ⟨v, h, q⟩
theorem x_c (q : Q v H) : tC v σ H Q := q
theorem x_op {r : R2} (q : ta σ H fun x H1 => tb σ H1 fun y H2 => r x y H2 Q) : tOp r ta tb σ H Q := q
theorem x_un {r : V → Hp → VK → Prop} (q : ta σ H fun x H1 => r x H1 Q) : tUn r ta σ H Q := q
theorem x_rI {C : Int → Int → Prop} {g : Int → Int → V} (h : C i j) (q : Q (g i j) H) : rI C g (.int i) (.int j) H Q := ⟨i, j, rfl, rfl, h, q⟩
theorem x_rI0 {g : Int → Int → V} (q : Q (g i j) H) : rI0 g (.int i) (.int j) H Q := ⟨i, j, rfl, rfl, q⟩
theorem x_rU {g : Int → V} (q : Q (g i) H) : rU g (.int i) H Q := ⟨i, rfl, q⟩
theorem x_rEq {x y : V} (h : scal x y = true) (q : Q (.bl (decide (x = y))) H) : rEq x y H Q := ⟨h, q⟩
theorem x_rNe {x y : V} (h : scal x y = true) (q : Q (.bl (!decide (x = y))) H) : rNe x y H Q := ⟨h, q⟩
theorem x_test {t : TE} {R : Bool → Hp → Prop} (q : t σ H fun x H' => ∃ k, x = .bl k ∧ R k H') : tTest t σ H R := q
theorem x_b {t : TE} {R : Bool → Hp → Prop} (q : t σ H fun x H' => ∃ k, x = .bl k ∧ R k H') : tB t σ H R := q
theorem x_bl {b : Bool} {R : Bool → Prop} (q : R b) : ∃ k, V.bl b = V.bl k ∧ R k := ⟨b, rfl, q⟩
theorem x_ifE {t : TT} (q : t σ H fun c H1 => if c = true then ta σ H1 Q else tb σ H1 Q) : tIf t ta tb σ H Q := q
theorem x_ifS {t : TT} {u1 u2 : TS} {D : Ends} (q : t σ H fun c H1 => if c = true then u1 D σ H1 else u2 D σ H1) : tIfS t u1 u2 D σ H := q
theorem x_and {t u : TT} {R : Bool → Hp → Prop} (q : t σ H fun c H1 => if c = true then u σ H1 R else R false H1) : tAnd t u σ H R := q
theorem x_or {t u : TT} {R : Bool → Hp → Prop} (q : t σ H fun c H1 => if c = true then R true H1 else u σ H1 R) : tOr t u σ H R := q
theorem x_not {t : TT} {R : Bool → Hp → Prop} (q : t σ H fun c H1 => R (!c) H1) : tNot t σ H R := q
theorem x_notV (q : ta σ H fun x H1 => ∃ c, x = .bl c ∧ Q (.bl (!c)) H1) : tNotV ta σ H Q := q
theorem x_andV (q : ta σ H fun x H1 => ∃ c, x = .bl c ∧ if c = true then tb σ H1 Q else Q (.bl false) H1) : tAndV ta tb σ H Q := q
theorem x_orV (q : ta σ H fun x H1 => ∃ c, x = .bl c ∧ if c = true then Q (.bl true) H1 else tb σ H1 Q) : tOrV ta tb σ H Q := q
theorem x_cons {tr : TA} {R : List V → Hp → Prop} (q : ta σ H fun x H1 => tr σ H1 fun xs H2 => R (x :: xs) H2) : tCons ta tr σ H R := q
theorem x_nil {R : List V → Hp → Prop} (q : R [] H) : tNil σ H R := q
theorem x_tup {t : TA} (q : t σ H fun xs H1 => xs.length ≤ sizeLine ∧ ∀ p, H1 p = none → Q (.ref p) (upd H1 p (.tup xs))) : tTup t σ H Q := q
theorem x_lst {t : TA} (q : t σ H fun xs H1 => xs.length ≤ sizeLine ∧ ∀ p, H1 p = none → Q (.ref p) (upd H1 p (.lst xs))) : tLst t σ H Q := q
theorem x_cb {r : List V → Hp → VK → Prop} {t : TA} (q : t σ H fun vs H1 => r vs H1 Q) : tCB r t σ H Q := q
theorem x_call {sp : Sp} {dvs : List V} {E : XK} {t : TA} (q : t σ H fun vs H1 => sp (vs ++ dvs) H1 Q E) : tCall sp dvs E t σ H Q := q
theorem x_ixL (h : SqL K H p xs) (e : atI xs i = some v) (q : Q v H) : rIxL K (.ref p) (.int i) H Q := ⟨p, xs, i, v, rfl, rfl, h, e, q⟩
theorem x_ixT (h : SqT K H p xs) (e : atI xs i = some v) (q : Q v H) : rIxT K (.ref p) (.int i) H Q := ⟨p, xs, i, v, rfl, rfl, h, e, q⟩
theorem x_ixS {c : Nat} (h : z.length ≤ sizeLine) (e : atI z.cps.toList i = some c) (q : Q (.str ⟨#[c]⟩) H) : rIxS (.str z) (.int i) H Q := ⟨z, i, c, rfl, rfl, h, e, q⟩
theorem x_lenL {R : List V → Prop} (h : SqL K H p ys ∨ SqT K H p ys) (q : R ys) : ∃ (p' : Addr) (ys : List V), [V.ref p] = [V.ref p'] ∧ (SqL K H p' ys ∨ SqT K H p' ys) ∧ R ys := ⟨p, ys, rfl, h, q⟩
theorem x_lenS {R : Str → Prop} (h : z.length ≤ sizeLine) (q : R z) : ∃ z', [V.str z] = [V.str z'] ∧ z'.length ≤ sizeLine ∧ R z' := ⟨z, rfl, h, q⟩
theorem x_two {R : Int → Int → Prop} (q : R i j) : ∃ i' j', [V.int i, V.int j] = [V.int i', V.int j'] ∧ R i' j' := ⟨i, j, rfl, q⟩
theorem x_intB {R : Int → Prop} {S : Bool → Prop} {k : Bool} (q : S k) : (∃ i, [V.bl k] = [V.int i] ∧ R i) ∨ ∃ k', [V.bl k] = [V.bl k'] ∧ S k' := .inr ⟨k, rfl, q⟩
theorem x_addS {R : Str → Str → Prop} (h : z.length + z'.length ≤ sizeLine) (q : R z z') : ∃ i j, V.str z = V.str i ∧ V.str z' = V.str j ∧ i.length + j.length ≤ sizeLine ∧ R i j := ⟨z, z', rfl, rfl, h, q⟩
theorem x_chain {r r' : R2} (q : ta σ H fun x H1 => tb σ H1 fun y H2 => r x y H2 fun z H3 => ∃ k, z = .bl k ∧ if k = true then tc σ H3 fun w H4 => r' y w H4 Q else Q (.bl false) H3) : tChain r r' ta tb tc σ H Q := q
theorem x_seq {t u : TS} {D : Ends} (q : t { D with nx := u D } σ H) : tSeq t u D σ H := q
theorem x_next {D : Ends} (q : D.nx σ H) : tNext D σ H := q
theorem x_asg {g : TG} {D : Ends} (q : te σ H fun x H1 => g x σ H1 D.nx) : tAsg te g D σ H := q
theorem x_name {R : St → Hp → Prop} (q : R (σ.set n (some v)) H) : gName n v σ H R := q
theorem x_drop {D : Ends} (q : te σ H fun _ H1 => D.nx σ H1) : tDrop te D σ H := q
theorem x_ret {D : Ends} (q : te σ H D.rt) : tRet te D σ H := q
theorem x_gTup {t : TGs} {R : St → Hp → Prop} (h : SqT K H a xs) (hl : xs.length = n) (q : t xs σ H R) : gTup K n t (.ref a) σ H R := ⟨a, xs, rfl, h, hl, q⟩
theorem x_gCons {t : TG} {u : TGs} {vs : List V} {R : St → Hp → Prop} (q : t v σ H fun σ' H' => u vs σ' H' R) : gCons t u (v :: vs) σ H R := ⟨v, vs, rfl, q⟩
theorem x_gNil {R : St → Hp → Prop} (q : R σ H) : gNil [] σ H R := ⟨rfl, q⟩
theorem x_gSub {to ti : TE} {t : TSet} {R : St → Hp → Prop} (q : to σ H fun o H1 => ti σ H1 fun i H2 => t o i v H2 fun H3 => R σ H3) : gSub to ti t v σ H R := q
theorem x_setL {k : Nat} {R : Hp → Prop} (h : H p = some (.lst xs)) (e : ixN xs.length i = some k) (q : R (upd H p (.lst (xs.set k v)))) : rSetL (.ref p) (.int i) v H R := ⟨p, xs, i, k, rfl, rfl, h, e, q⟩
theorem x_bm {T : String} {r : V → List V → Hp → VK → Prop} {to : TE} {t : TA} (q : to σ H fun x H1 => tyV K T x H1 ∧ t σ H1 fun xs H2 => r x xs H2 Q) : tBM K T r to t σ H Q := q
theorem x_m1 {r : V → List V → Hp → VK → Prop} {to : TE} (q : to σ H fun x H1 => (∃ a, x = .str a) ∧ te σ H1 fun y H2 => r x [y] H2 Q) : tM1 r to te σ H Q := q
theorem x_m1s {R : Prop} (q : R) : (∃ a, V.str z = V.str a) ∧ R := ⟨⟨z, rfl⟩, q⟩
theorem x_sl {r : V → Option Int → Option Int → Hp → VK → Prop} {tl th : TO} (q : te σ H fun x H1 => tl σ H1 fun l H2 => th σ H2 fun u H3 => r x l u H3 Q) : tSl r te tl th σ H Q := q
theorem x_noPart {R : Option Int → Hp → Prop} (q : R none H) : tNoPart σ H R := q
theorem x_part {R : Option Int → Hp → Prop} (q : te σ H fun x H1 => ∃ i, x = .int i ∧ R (some i) H1) : tPart te σ H R := q
theorem x_parti {R : Int → Prop} (q : R i) : ∃ i', V.int i = V.int i' ∧ R i' := ⟨i, rfl, q⟩
theorem x_slS {lo hi : Option Int} (h : z.length ≤ sizeLine) (q : Q (.str (cutS z lo hi)) H) : rSlS (.str z) lo hi H Q := ⟨z, rfl, h, q⟩
theorem x_rng1 {t : TA} {R : It → Hp → Prop} (q : t σ H fun vs H1 => ∃ j : Int, vs = [.int j] ∧ -(2 ^ 62) ≤ j ∧ j < 2 ^ 62 ∧ R (Itr 0 j.toNat) H1) : iRng1 t σ H R := q
theorem x_rng1i {R : Int → Prop} (h1 : -(2 ^ 62) ≤ i) (h2 : i < 2 ^ 62) (q : R i) : ∃ j : Int, [V.int i] = [V.int j] ∧ -(2 ^ 62) ≤ j ∧ j < 2 ^ 62 ∧ R j := ⟨i, rfl, h1, h2, q⟩
theorem x_rng2 {t : TA} {R : It → Hp → Prop} (q : t σ H fun vs H1 => ∃ i j : Int, vs = [.int i, .int j] ∧ (-(2 ^ 62) ≤ i ∧ i < 2 ^ 62 ∧ -(2 ^ 62) ≤ j ∧ j < 2 ^ 62) ∧ R (Itr i (j - i).toNat) H1) : iRng2 t σ H R := q
theorem x_rng2i {R : Int → Int → Prop} (h : -(2 ^ 62) ≤ i ∧ i < 2 ^ 62 ∧ -(2 ^ 62) ≤ j ∧ j < 2 ^ 62) (q : R i j) : ∃ i' j' : Int, [V.int i, V.int j] = [V.int i', V.int j'] ∧ (-(2 ^ 62) ≤ i' ∧ i' < 2 ^ 62 ∧ -(2 ^ 62) ≤ j' ∧ j' < 2 ^ 62) ∧ R i' j' := ⟨i, j, rfl, h, q⟩
theorem x_lcR {g : TG} {tt : TT} {vs : List Nat} {wi : TI} (q : wi σ H fun J H1 => ∀ D, H1 D = none → ∃ W : Nat → Nat → Hp → Prop, (∃ m, W 0 m (upd H1 D (.lst []))) ∧ ∀ i m H, W i m H →
  (J.stop i H ∧ Q (.ref D) H) ∨ (J.go i H ∧ ∃ Nx : Hp → Prop, (∀ H', Nx H' → ∃ m', m' < m ∧ W (i + 1) m' H') ∧ ∀ x H', J.yld i H x H' → g x (wipe σ vs) H' fun σ2 H2 => wipe σ2 vs = wipe σ vs ∧ tt σ2 H2 fun b H3 =>
    if b = true then te σ2 H3 fun y H4 => ∃ acc, H4 D = some (.lst acc) ∧ acc.length < sizeLine ∧ Nx (upd H4 D (.lst (acc ++ [y]))) else Nx H3)) : tLc wi g tt te vs σ H Q := q
theorem x_yes {R : Bool → Hp → Prop} (q : R true H) : tYes σ H R := q
theorem x_iList {R : It → Hp → Prop} {tl : TE} (q : tl σ H fun x H1 => ∃ a, x = .ref a ∧ (∃ xs, SqL K H1 a xs) ∧ R (Itl K a) H1) : iList K tl σ H R := q
theorem x_iListi {R : Addr → Prop} (h : SqL K H a xs) (q : R a) : ∃ a', V.ref a = V.ref a' ∧ (∃ xs, SqL K H a' xs) ∧ R a' := ⟨a, rfl, ⟨xs, h⟩, q⟩
theorem x_iStr {R : It → Hp → Prop} (q : te σ H fun v H1 => ∃ x, v = .str x ∧ R (Its x) H1) : iStr te σ H R := q
theorem x_iStri {R : Str → Prop} (q : R z) : ∃ z', V.str z = V.str z' ∧ R z' := ⟨z, rfl, q⟩
theorem x_for {wi : TI} {g : TG} {tb : TS} {D : Ends} (q : wi σ H fun J H1 => ∃ W : Nat → Nat → St → Hp → Prop, (∃ m, W 0 m σ H1) ∧ ∀ i m σ H, W i m σ H →
    ((J.stop i H ∧ D.nx σ H) ∨ (J.go i H ∧ ∃ N : St → Hp → Prop, (∀ σ' H', N σ' H' → ∃ m', m' < m ∧ W (i + 1) m' σ' H') ∧ ∀ x H', J.yld i H x H' → g x σ H' fun σ2 H2 => tb { D with nx := N, ct := N, bk := D.nx } σ2 H2))) : tFor wi g tb D σ H := q
theorem x_append (h : H p = some (.lst xs)) (hl : xs.length < sizeLine) (q : Q .non (upd H p (.lst (xs ++ [v])))) : rAppend (.ref p) [v] H Q := ⟨p, xs, v, rfl, rfl, h, hl, q⟩
theorem x_s1 {R : Str → Str → Prop} (q : R z z') : ∃ a b, V.str z = V.str a ∧ [V.str z'] = [V.str b] ∧ R a b := ⟨z, z', rfl, rfl, q⟩
theorem x_aug {te : TE} {ti : TIp} {D : Ends} {x : V} (h : σ[n]? = some (some x)) (q : te σ H fun y H1 => ti x y H1 fun z H2 => D.nx (σ.set n (some z)) H2) : tAug n te ti D σ H := ⟨x, h, q⟩
theorem x_ipI {f : Int → Int → Int} (q : Q (.int (f i j)) H) : ipI f (.int i) (.int j) H Q := ⟨i, j, rfl, rfl, q⟩
theorem x_enumS {R : Str → Prop} (q : R z) : ∃ x, [V.str z] = [V.str x] ∧ R x := ⟨z, rfl, q⟩
theorem x_par {k : Nat} {t : TA} {D : Ends} (q : t σ H fun vs H1 => ∃ v w, vs = [v, w] ∧ D.nx ((σ.set n (some v)).set k (some w)) H1) : tPar n k t D σ H := q
theorem x_parv {R : V → V → Prop} {v' : V} (q : R v v') : ∃ x y, [v, v'] = [x, y] ∧ R x y := ⟨v, v', rfl, q⟩
theorem x_rIntB {R : Int → Prop} {S : Bool → Prop} (q : R i) : (∃ j, [V.int i] = [V.int j] ∧ R j) ∨ ∃ k, [V.int i] = [V.bl k] ∧ S k := .inl ⟨i, rfl, q⟩
theorem x_join {ys : List Str} {R : Str → List Str → Prop} (h : SqL K H p (ys.map V.str)) (hl : (ys.map (·.length)).sum + ys.length * z.length ≤ 16777216) (q : R z ys) :
    ∃ a p', ∃ ys : List Str, V.str z = V.str a ∧ [V.ref p] = [V.ref p'] ∧ (SqL K H p' (ys.map V.str) ∨ SqT K H p' (ys.map V.str)) ∧ (ys.map (·.length)).sum + ys.length * a.length ≤ 16777216 ∧ R a ys := ⟨z, p, ys, rfl, rfl, .inl h, hl, q⟩
end
theorem x_cutE {te : TE} {σ : St} {H : Hp} {Q : VK} (P : V → Hp → Prop) (h1 : ∀ Q' : VK, (∀ v H', P v H' → Q' v H') → te σ H Q') (h2 : ∀ v H', P v H' → Q v H') : te σ H Q := h1 Q h2
theorem x_cutS {t : TS} {D : Ends} {σ : St} {H : Hp} (P : St → Hp → Prop) (h1 : ∀ nx : St → Hp → Prop, (∀ σ' H', P σ' H' → nx σ' H') → t { D with nx := nx } σ H) (h2 : ∀ σ' H', P σ' H' → D.nx σ' H') : t D σ H := h1 D.nx h2
theorem x_iteNT {A B : Prop} (q : B) : if (!true) = true then A else B := q
theorem x_iteNF {A B : Prop} (q : A) : if (!false) = true then A else B := q
theorem x_iteFe {c : Bool} {A B : Prop} (h : c = false) (q : B) : if c = true then A else B := by
  rw [h]
  exact q
theorem x_iteTe {c : Bool} {A B : Prop} (h : c = true) (q : A) : if c = true then A else B := by
  rw [h]
  exact q
theorem hp_sz {n : Nat} (h : n ≤ 1000000) : n ≤ sizeLine := Nat.le_trans h (by decide)
end L2
namespace L2
open PySem PySem.Spec PyProof.Rows
theorem blkOk_in {X : Cx} {N : List Str} {sc scope inner : Scope} {cl : List (Str × Addr)} {C : Addr} {own : List (Str × Nat)} (hN : X.N = N) (hs : X.env.scope = sc) (h : blkC N (relS scope sc) inner own = true) {s : Shared} {H : Hp} {fp : List Addr} :
    BlkOk (X.blk s H scope (compEnvC scope cl C X.env) fp).N (X.blk s H scope (compEnvC scope cl C X.env) fp).env.scope inner own := by
  subst hN hs
  exact blkOk_by h
end L2

namespace Sr
open PySem PySem.Spec PyProof.Rows L2
/-! ### the source of draws: a list [s, cells, i] at a, its cells at b -/
def Src (H : Hp) (a b : Addr) : Prop := a ≠ b ∧ ∃ (s i : Int) (cs : List Int), H a = some (.lst [.int s, .ref b, .int i]) ∧ H b = some (.lst (cs.map V.int)) ∧ cs.length ≤ 63
/-- all that is tracked but the source stands as it was -/
def Kp (a b : Addr) (H H' : Hp) : Prop := ∀ p o, p ≠ a → p ≠ b → H p = some o → H' p = some o
theorem Kp.refl {a b : Addr} (H : Hp) : Kp a b H H := fun _ _ _ _ h => h
theorem Kp.trans {a b : Addr} {H H1 H2 : Hp} (x : Kp a b H H1) (y : Kp a b H1 H2) : Kp a b H H2 := fun p o h1 h2 h => y p o h1 h2 (x p o h1 h2 h)
theorem Kp.of {a b : Addr} {H H' : Hp} (x : Same H H') : Kp a b H H' := fun p o _ _ h => x p o h
theorem Kp.new {a b p : Addr} {H : Hp} {o : HO} (h : H p = none) : Kp a b H (upd H p o) := fun q u _ _ e => by
  rw [upd_ne (ne_of_none e h)]
  exact e
theorem Kp.at_a {a b : Addr} {H : Hp} {o : HO} : Kp a b H (upd H a o) := fun q u n _ e => by
  rw [upd_ne n]
  exact e
theorem Kp.at_b {a b : Addr} {H : Hp} {o : HO} : Kp a b H (upd H b o) := fun q u _ n e => by
  rw [upd_ne n]
  exact e
theorem Src.new {a b p : Addr} {H : Hp} {o : HO} (x : Src H a b) (h : H p = none) : Src (upd H p o) a b := by
  obtain ⟨n, s, i, cs, h1, h2, h3⟩ := x
  exact ⟨n, s, i, cs, by rw [upd_ne (ne_of_none h1 h)]; exact h1, by rw [upd_ne (ne_of_none h2 h)]; exact h2, h3⟩
/-- an object that is no list of ints and no list that begins so stands apart -/
theorem same_upd {H : Hp} {p : Addr} {o : HO} (h : H p = none) : Same H (upd H p o) := fun b x e => by
  rw [upd_ne (ne_of_none e h)]
  exact e
theorem Src_same {a b : Addr} {H H' : Hp} (x : Src H a b) (e : Same H H') : Src H' a b := by
  obtain ⟨n, s, i, cs, h1, h2, h3⟩ := x
  exact ⟨n, s, i, cs, e _ _ h1, e _ _ h2, h3⟩
theorem atI_of {α : Type} {xs : List α} {i : Int} {v : α} (h0 : 0 ≤ i) (h : xs[i.toNat]? = some v) : atI xs i = some v := by
  have e : i = ((i.toNat : Nat) : Int) := by omega
  rw [e]
  exact atI_nat h
theorem ixN_of {n : Nat} {i : Int} (h0 : 0 ≤ i) (h : i < n) : ixN n i = some i.toNat := by
  unfold ixN
  rw [if_pos h0, if_pos h]
theorem eqv_ints_nil : ∀ cs : List Int, PyData.eqv (.list (cs.map PyData.int)) (.list []) = cs.isEmpty
  | [] => by decide +kernel
  | c :: cs => by
    show PyData.eqv (.list (PyData.int c :: cs.map PyData.int)) (.list []) = false
    simp [PyData.eqv, PyData.eqvAll]
theorem dp_ints {K : PySem.W.Frag} {H : Hp} : ∀ cs : List Int, DpAll K H (cs.map V.int) (cs.map PyData.int)
  | [] => .nil
  | c :: cs => .cons (.int c) (dp_ints cs)
theorem lay_ints : ∀ cs : List Int, PyData.canLayAll0 (cs.map PyData.int) = true
  | [] => by simp [PyData.canLayAll0]
  | c :: cs => by
    have h := lay_ints cs
    simp [PyData.canLayAll0, PyData.canLay0] at h ⊢
    exact h
theorem depth_ints : ∀ cs : List Int, PyData.depthAll (cs.map PyData.int) ≤ 1
  | [] => by simp [PyData.depthAll]
  | c :: cs => by
    have h := depth_ints cs
    simp [PyData.depthAll, PyData.depth] at h ⊢
    omega
theorem shaped_ints (cs : List Int) : SeqAt.shaped (.list (cs.map PyData.int)) = true := by
  unfold SeqAt.shaped
  rw [Bool.and_eq_true]
  refine ⟨lay_ints cs, decide_eq_true ?_⟩
  have h := depth_ints cs
  simp only [PyData.depth]
  omega
theorem ints_at {cs : List Int} {j : Nat} (h : j < cs.length) : (cs.map V.int)[j]? = some (.int cs[j]) := by
  rw [List.getElem?_map, List.getElem?_eq_getElem h]
  rfl
theorem map_set_int (cs : List Int) (j : Nat) (x : Int) : (cs.map V.int).set j (.int x) = (cs.set j x).map V.int := by
  rw [List.map_set]
end Sr

namespace Sr
open PySem PySem.Spec PyProof.Rows L2
open TL (tl)
/-! ### texts by their codes -/
/-- the text of these codes -/
def S (l : List Nat) : Str := ⟨l.toArray⟩
theorem tl_S (l : List Nat) : tl (S l) = l := rfl
theorem S_tl (z : Str) : S (tl z) = z := TL.mk_tl z
theorem S_inj {l m : List Nat} (h : S l = S m) : l = m := congrArg tl h
theorem len_S (l : List Nat) : (S l).length = l.length := by rw [TL.len_tl, tl_S]
theorem S_app (l m : List Nat) : S l ++ S m = S (l ++ m) := TL.ext_tl (by rw [TL.tl_append, tl_S, tl_S, tl_S])
def sg (c : Nat) : Str := ⟨#[c]⟩
theorem sg_S (c : Nat) : sg c = S [c] := rfl
theorem joinL_nil : ∀ ps : List (List Nat), TL.joinL [] ps = ps.flatten
  | [] => rfl
  | [p] => by simp [TL.joinL]
  | p :: q :: r => by
    show p ++ ([] ++ TL.joinL [] (q :: r)) = _
    rw [joinL_nil (q :: r)]
    simp
theorem join_signs (cs : List Nat) : Txt.join "" (cs.map sg) = S cs := by
  refine TL.ext_tl ?_
  rw [TL.join_eq, TL.tl_join, show tl ("" : Str) = [] from rfl, joinL_nil, tl_S, List.map_map]
  induction cs with
  | nil => rfl
  | cons c cs ih =>
    rw [List.map_cons, List.flatten_cons, ih]
    rfl
theorem signs_len (cs : List Nat) : ((cs.map sg).map (·.length)).sum + (cs.map sg).length * ("" : Str).length = cs.length := by
  rw [show ("" : Str).length = 0 from rfl, Nat.mul_zero, Nat.add_zero]
  induction cs with
  | nil => rfl
  | cons c cs ih =>
    rw [List.map_cons, List.map_cons, List.sum_cons, ih, List.length_cons]
    show 1 + cs.length = _
    omega
theorem spl_len (c : Nat) : ∀ (l acc : List Nat), (TL.spl [c] 0 acc l).length = l.count c + 1
  | [], acc => by simp [TL.spl]
  | d :: r, acc => by
    have e : TL.spl [c] 0 acc (d :: r) = if TL.pre [c] (d :: r) = true then acc :: TL.spl [c] 0 [] r else TL.spl [c] 0 (acc ++ [d]) r := rfl
    rw [e]
    by_cases h : d = c
    · subst h
      rw [if_pos (by simp [TL.pre]), List.length_cons, spl_len d r [], List.count_cons_self]
    · have hp : ¬ TL.pre [c] (d :: r) = true := by simp [TL.pre, h]
      rw [if_neg hp, spl_len c r _, List.count_cons_of_ne h]
theorem parts_len (x : Str) (n : Nat) : ∀ (cuts : List Nat) (a : Nat), (StrLaws.partsFrom x n a cuts).length = cuts.length + 1
  | [], _ => rfl
  | c :: r, a => by
    show (_ :: StrLaws.partsFrom x n (c + n) r).length = _
    rw [List.length_cons, parts_len x n r, List.length_cons]
theorem count_sign (z : Str) (c : Nat) : Txt.count z (sg c) = (((tl z).count c : Nat) : Int) := by
  have hy : tl (sg c) ≠ [] := by
    show [c] ≠ []
    simp
  obtain ⟨f, g, hn⟩ := StrLaws.occ_tight z (sg c) (by show 1 ≤ 1; exact Nat.le_refl _)
  have key := congrArg List.length (TL.parts_spl hy _ 0 f (Nat.zero_le _) g hn)
  rw [List.length_map, parts_len, List.drop_zero, show tl (sg c) = [c] from rfl, spl_len] at key
  show ((Builtin.Str.occurrences z (sg c) 0 z.length (z.length + 1)).length : Int) = _
  omega
/-- the worth of likes -/
def wor (g l : Int) : List Nat → Int
  | [] => 0
  | c :: r => (if c = 61 then g else -l) + wor g l r
theorem wor_app (g l : Int) : ∀ a b, wor g l (a ++ b) = wor g l a + wor g l b
  | [], b => by simp [wor]
  | c :: a, b => by
    show (if c = 61 then g else -l) + wor g l (a ++ b) = (if c = 61 then g else -l) + wor g l a + wor g l b
    rw [wor_app g l a b]
    omega
theorem wor_take (g l : Int) {z : List Nat} {i : Nat} (h : i < z.length) : wor g l (z.take (i + 1)) = wor g l (z.take i) + (if z[i] = 61 then g else -l) := by
  rw [List.take_succ_eq_append_getElem h, wor_app]
  show _ + ((if z[i] = 61 then g else -l) + 0) = _
  omega
/-- likes: a text of 61 and 47 alone -/
def Lk (z : List Nat) : Prop := ∀ c ∈ z, c = 61 ∨ c = 47
theorem wor_count (g l : Int) : ∀ {z : List Nat}, Lk z → g * ((z.count 61 : Nat) : Int) - l * ((z.count 47 : Nat) : Int) = wor g l z
  | [], _ => by simp [wor]
  | c :: r, h => by
    have ih := wor_count g l (z := r) fun d hd => h d (List.mem_cons_of_mem _ hd)
    show _ = (if c = 61 then g else -l) + wor g l r
    rcases h c (List.mem_cons_self ..) with e | e
    · subst e
      rw [List.count_cons_self, List.count_cons_of_ne (by decide), if_pos rfl, ← ih, Int.natCast_add, Int.mul_add]
      simp
      omega
    · subst e
      rw [List.count_cons_self, List.count_cons_of_ne (by decide), if_neg (by decide), ← ih, Int.natCast_add, Int.mul_add]
      simp
      omega
/-- the places of a lane -/
def onl (n : Nat) (d : Int) (p : Nat) : Bool := decide (0 ≤ (p : Int) + d) && decide ((p : Int) + d < (n : Int))
def plc (m n : Nat) (d : Int) : List Nat := (List.range m).filter (onl n d)
def bgn (d : Int) : Nat := (-d).toNat
def lkn (m n : Nat) (d : Int) : Nat := (min (m : Int) ((n : Int) - d) - (bgn d : Int)).toNat
theorem plc_eq (n : Nat) (d : Int) : ∀ m, plc m n d = (List.range (lkn m n d)).map (bgn d + ·)
  | 0 => by
    have h : lkn 0 n d = 0 := by unfold lkn bgn; omega
    rw [h]
    rfl
  | m + 1 => by
    have ih := plc_eq n d m
    unfold plc at ih ⊢
    rw [List.range_succ, List.filter_append, ih]
    by_cases h : onl n d m = true
    · have h' : 0 ≤ (m : Int) + d ∧ (m : Int) + d < n := by
        unfold onl at h
        simpa using h
      have e : lkn (m + 1) n d = lkn m n d + 1 := by unfold lkn bgn; omega
      have e2 : m = bgn d + lkn m n d := by unfold lkn bgn; omega
      rw [e, List.range_succ, List.map_append, List.filter_cons, if_pos h]
      show _ ++ [m] = _ ++ [bgn d + lkn m n d]
      rw [← e2]
    · have h' : ¬ (0 ≤ (m : Int) + d ∧ (m : Int) + d < n) := by
        unfold onl at h
        simpa using h
      have e : lkn (m + 1) n d = lkn m n d := by unfold lkn bgn; omega
      rw [e, List.filter_cons, if_neg h]
      simp
/-- the like at a place -/
def lk1 (o t : List Nat) (d : Int) (p : Nat) : Nat := if o[p]? = t[((p : Int) + d).toNat]? then 61 else 47
def likL (o t : List Nat) (d : Int) : List Nat := (plc o.length t.length d).map (lk1 o t d)
theorem likL_Lk (o t : List Nat) (d : Int) : Lk (likL o t d) := fun c h => by
  obtain ⟨p, _, rfl⟩ := List.mem_map.mp h
  unfold lk1
  split
  · exact .inl rfl
  · exact .inr rfl
theorem plc_len (m n : Nat) (d : Int) : (plc m n d).length = lkn m n d := by
  rw [plc_eq, List.length_map, List.length_range]
theorem likL_len (o t : List Nat) (d : Int) : (likL o t d).length = lkn o.length t.length d := by
  unfold likL
  rw [List.length_map, plc_len]
theorem lkn_le (m n : Nat) (d : Int) : lkn m n d ≤ m := by unfold lkn bgn; omega
theorem likL_le (o t : List Nat) (d : Int) : (likL o t d).length ≤ o.length := by rw [likL_len]; exact lkn_le _ _ _
theorem likL_eq (o t : List Nat) (d : Int) : likL o t d = (List.range (lkn o.length t.length d)).map fun i => lk1 o t d (bgn d + i) := by
  unfold likL
  rw [plc_eq, List.map_map]
  rfl
/-- the drawn letters -/
def letL (t n : Nat) : List Nat := (List.range n).map fun k => 97 + (t + 7 * k) % 26
theorem letL_len (t n : Nat) : (letL t n).length = n := by unfold letL; rw [List.length_map, List.length_range]
theorem pv_step {H2 H : Hp} {D : Addr} {f : Nat → V} {i : Nat} {y : V} (hn : H2 D = none) (sm : Same H2 H) (hD : H D = some (.lst ((List.range i).map f))) (hi : i ≤ 1000000) (hy : y = f i) :
    ∃ acc, H D = some (.lst acc) ∧ acc.length < sizeLine ∧ (Same H2 (upd H D (.lst (acc ++ [y]))) ∧ upd H D (.lst (acc ++ [y])) D = some (.lst ((List.range (i + 1)).map f))) := by
  refine ⟨_, hD, ?_, fun b o e => ?_, ?_⟩
  · rw [List.length_map, List.length_range]
    exact Nat.lt_of_le_of_lt hi (by decide)
  · rw [upd_ne (ne_of_none e hn)]
    exact sm b o e
  · rw [upd_same, hy, List.range_succ, List.map_append]
    rfl
theorem lst_map_signs (cs : List Nat) : (cs.map sg).map V.str = cs.map fun c => V.str (sg c) := by rw [List.map_map]; rfl
/-- the end of ''.join of signs -/
theorem join_end {K : PySem.W.Frag} {H : Hp} {p : Addr} {cs : List Nat} {Q : VK} (h : H p = some (.lst (cs.map fun c => V.str (sg c)))) (hl : cs.length ≤ 1000000) (q : Q (.str (S cs)) H) :
    ∃ a p', ∃ ys : List Str, V.str (Str.ofString "") = V.str a ∧ [V.ref p] = [V.ref p'] ∧ (SqL K H p' (ys.map V.str) ∨ SqT K H p' (ys.map V.str)) ∧ (ys.map (·.length)).sum + ys.length * a.length ≤ 16777216 ∧ Q (V.str (Txt.join a ys)) H := by
  refine ⟨_, p, cs.map sg, rfl, rfl, .inl (SqL.of ?_), ?_, ?_⟩
  · rw [lst_map_signs]
    exact h
  · have e := signs_len cs
    show ((cs.map sg).map (·.length)).sum + (cs.map sg).length * ("" : Str).length ≤ 16777216
    rw [e]
    omega
  · have e := join_signs cs
    show Q (V.str (Txt.join "" (cs.map sg))) H
    rw [e]
    exact q
/-- what a comprehension of drawn signs keeps -/
def Dr (a b : Addr) (H0 : Hp) (D : Addr) (ok : Nat → Prop) (i : Nat) (H : Hp) : Prop := ∃ cs : List Nat, cs.length = i ∧ (∀ c ∈ cs, ok c) ∧ Src H a b ∧ Kp a b H0 H ∧ H D = some (.lst (cs.map fun c => V.str (sg c)))
theorem Dr.start {a b : Addr} {H0 : Hp} {D : Addr} {ok : Nat → Prop} (hs : Src H0 a b) (hn : H0 D = none) : Dr a b H0 D ok 0 (upd H0 D (.lst [])) :=
  ⟨[], rfl, (fun c h => nomatch h), hs.new hn, Kp.new hn, upd_same⟩
theorem Src.ne_a {a b D : Addr} {H : Hp} (h : Src H a b) (hn : H D = none) : D ≠ a := by
  obtain ⟨_, _, _, _, h1, _⟩ := h
  exact (ne_of_none h1 hn).symm
theorem Src.ne_b {a b D : Addr} {H : Hp} (h : Src H a b) (hn : H D = none) : D ≠ b := by
  obtain ⟨_, _, _, _, _, h1, _⟩ := h
  exact (ne_of_none h1 hn).symm
theorem Src.upd {a b D : Addr} {H : Hp} {o : HO} (h : Src H a b) (na : D ≠ a) (nb : D ≠ b) : Src (upd H D o) a b := by
  obtain ⟨n, s, i, cs, h1, h2, h3⟩ := h
  exact ⟨n, s, i, cs, by rw [upd_ne na.symm]; exact h1, by rw [upd_ne nb.symm]; exact h2, h3⟩
/-- a turn: the element drew in between (H to H'), then its sign is appended -/
theorem Dr.step {a b : Addr} {H0 H H' : Hp} {D : Addr} {ok : Nat → Prop} {i c : Nat} (hn : H0 D = none) (hs0 : Src H0 a b) (h : Dr a b H0 D ok i H) (hi : i ≤ 1000000) (hs : Src H' a b) (k : Kp a b H H') (hc : ok c) :
    ∃ acc, H' D = some (.lst acc) ∧ acc.length < sizeLine ∧ Dr a b H0 D ok (i + 1) (L2.upd H' D (.lst (acc ++ [V.str (sg c)]))) := by
  obtain ⟨cs, hl, hok, _, k0, hD⟩ := h
  have na := hs0.ne_a hn
  have nb := hs0.ne_b hn
  refine ⟨_, k D _ na nb hD, ?_, cs ++ [c], ?_, ?_, hs.upd na nb, fun p o h1 h2 e => ?_, ?_⟩
  · rw [List.length_map, hl]
    exact Nat.lt_of_le_of_lt hi (by decide)
  · rw [List.length_append, hl]
    rfl
  · intro d hd
    rcases List.mem_append.mp hd with h1 | h1
    · exact hok d h1
    · rw [List.mem_singleton.mp h1]
      exact hc
  · rw [upd_ne (ne_of_none e hn)]
    exact k p o h1 h2 (k0 p o h1 h2 e)
  · rw [upd_same, List.map_append]
    rfl
end Sr
namespace Sr
open PySem PySem.Spec PyProof.Rows L2
/-! ### data that the law compares -/
inductive Gd : PyData → Prop where
  | int (i : Int) : Gd (.int i)
  | str (x : Str) : Gd (.str x)
  | bl (b : Bool) : Gd (.bool b)
  | lst (ds : List PyData) (hl : ds.length ≤ 100000) (h : ∀ d ∈ ds, Gd d) : Gd (.list ds)
  | tup (ds : List PyData) (hl : ds.length ≤ 100000) (h : ∀ d ∈ ds, Gd d) : Gd (.tuple ds)
theorem SqT_same {K : PySem.W.Frag} {H H' : Hp} {a : Addr} {xs : List V} (e : Same H H') (h : SqT K H a xs) : SqT K H' a xs := by
  rcases h with (h | ⟨o, h⟩) | h
  · exact .inl (.inl (e _ _ h))
  · exact .inl (.inr ⟨o, e _ _ h⟩)
  · exact .inr h
section
variable {K : PySem.W.Frag} {H H' : Hp}
mutual
theorem Dp_same (e : Same H H') : ∀ (d : PyData) (v : V), Dp K H v d → Dp K H' v d
  | .none, _, h => by cases h; exact .non
  | .bool b, _, h => by cases h; exact .bl b
  | .int i, _, h => by cases h; exact .int i
  | .str x, _, h => by cases h; exact .str x
  | .list ds, _, h => by
    cases h with
    | lst hs ha => exact .lst (e.seq hs) (DpAll_same e ds _ ha)
  | .tuple ds, _, h => by
    cases h with
    | tup hs ha => exact .tup (SqT_same e hs) (DpAll_same e ds _ ha)
  | .dict _, _, h => by cases h
theorem DpAll_same (e : Same H H') : ∀ (ds : List PyData) (vs : List V), DpAll K H vs ds → DpAll K H' vs ds
  | [], _, h => by cases h; exact .nil
  | d :: ds, _, h => by
    cases h with
    | cons h1 h2 => exact .cons (Dp_same e d _ h1) (DpAll_same e ds _ h2)
end
theorem DpAll_len : ∀ {ds : List PyData} {vs : List V}, DpAll K H vs ds → vs.length = ds.length
  | [], _, h => by cases h; rfl
  | d :: ds, _, h => by
    cases h with
    | cons h1 h2 => rw [List.length_cons, List.length_cons, DpAll_len h2]
theorem DpAll_get : ∀ {ds : List PyData} {vs : List V} (i : Nat), DpAll K H vs ds → i < ds.length → ∃ v d, vs[i]? = some v ∧ ds[i]? = some d ∧ Dp K H v d
  | [], _, i, h, hi => by simp at hi
  | d :: ds, _, 0, h, hi => by
    cases h with
    | cons h1 h2 => exact ⟨_, _, rfl, rfl, h1⟩
  | d :: ds, _, i + 1, h, hi => by
    cases h with
    | cons h1 h2 =>
      obtain ⟨v, d', e1, e2, h3⟩ := DpAll_get i h2 (by simpa using hi)
      exact ⟨v, d', e1, e2, h3⟩
def tname : PyData → String
  | .none => "NoneType"
  | .bool _ => "bool"
  | .int _ => "int"
  | .str _ => "str"
  | .list _ => "list"
  | .tuple _ => "tuple"
  | .dict _ => "dict"
theorem dp_ty {v : V} {d : PyData} (h : Dp K H v d) : TyX K H v (.type (tname d)) := by
  cases h with
  | non => exact .base .non
  | bl b => exact .base (.bl b)
  | int i => exact .base (.int i)
  | str x => exact .base (.str x)
  | lst hs _ =>
    rcases hs with (h | ⟨o, h⟩) | ⟨o, its, n, h1, h2, _⟩
    · exact .base (.lst h)
    · exact .base (.frz h)
    · exact .kList h1 h2
  | tup hs _ =>
    rcases hs with (h | ⟨o, h⟩) | ⟨o, its, n, h1, h2, _⟩
    · exact .base (.tup h)
    · exact .fTuple h
    · exact .kTuple h1 h2
theorem kit_lt {tn : String} {b1 b2 : Bool} (h1 : PySem.W.kitOne K (.type tn) (.type "list") = some b1) (h2 : PySem.W.kitOne K (.type tn) (.type "tuple") = some b2) :
    PySem.W.kitAny K (.type tn) [.type "list", .type "tuple"] = some (b1 || b2) :=
  kitAny_cons h1 (fun e => kitAny_cons h2 (fun e2 => by rw [e, e2]; exact kitAny_nil) fun e2 => by rw [e2, Bool.or_true]) fun e => by rw [e, Bool.true_or]
/-- a def that is never called where its promise asks the impossible -/
theorem fn_never {P : Program} {w : World} {mg : Str → Option Value} {base : Heap} {CX : CXT} {k : Nat} {f : Addr} {fd : FuncData} {ps : List Str} {sp : Sp} (h : ∀ vs H Q E, ¬ sp vs H Q E) : FnOk P w K mg base CX k f fd ps sp :=
  ⟨fun vs H Q E z => (h vs H Q E z).elim, fun _ _ _ _ _ _ _ _ _ _ _ _ _ z => (h _ _ _ _ z).elim⟩
theorem x_ixQ {p : Addr} {xs : List V} {i : Int} {v : V} {Q : VK} (h : SqL K H p xs ∨ SqT K H p xs) (e : atI xs i = some v) (q : Q v H) : rIx K (.ref p) (.int i) H Q := by
  rcases h with h | h
  · exact .inl ⟨p, xs, i, v, rfl, rfl, h, e, q⟩
  · exact .inr (.inl ⟨p, xs, i, v, rfl, rfl, h, e, q⟩)
theorem x_isi {x : V} {n tn : String} {b : Bool} {Q : VK} (ht : TyX K H x (.type tn)) (k : PySem.W.kitOne K (.type tn) (.type n) = some b) (q : Q (.bl b) H) : rIsi K [x, .ty n] H Q :=
  ⟨x, .ty n, _, _, b, rfl, .ty n, ht, k, q⟩
theorem x_isiLT {x : V} {tn : String} {p : Addr} {b : Bool} {Q : VK} (hp : H p = some (.tup [.ty "list", .ty "tuple"])) (ht : TyX K H x (.type tn)) (k : PySem.W.kitAny K (.type tn) [.type "list", .type "tuple"] = some b) (q : Q (.bl b) H) : rIsiT K [x, .ref p] H Q :=
  ⟨x, p, _, _, _, b, rfl, hp, .cons (.ty _) (.cons (.ty _) .nil), ht, k, q⟩
theorem TyX_same (e : Same H H') {v : V} {d : PyData} (h : Dp K H v d) : TyX K H' v (.type (tname d)) := dp_ty (Dp_same e d v h)
theorem depth_mem : ∀ {ds : List PyData} {d : PyData}, d ∈ ds → d.depth ≤ PyData.depthAll ds
  | x :: xs, d, h => by
    simp only [PyData.depthAll]
    rcases List.mem_cons.mp h with e | e
    · subst e
      exact Nat.le_max_left _ _
    · exact Nat.le_trans (depth_mem e) (Nat.le_max_right _ _)
end
end Sr
namespace Sr
open PySem PySem.Spec PyProof.Rows L2
theorem cutS_take (z : List Nat) (k : Nat) : cutS (S z) none (some (k : Int)) = S (z.take k) := by
  unfold cutS
  have e0 : HT.sIx (S z).length 0 none = 0 := rfl
  have e1 : HT.sIx (S z).length (S z).length (some (k : Int)) = min k (S z).length := HT.sIx_nat _ _ _
  rw [e0, e1, List.drop_zero, Nat.sub_zero, len_S]
  show S (z.take (min k z.length)) = _
  congr 1
  by_cases h : k ≤ z.length
  · rw [Nat.min_eq_left h]
  · rw [Nat.min_eq_right (by omega), List.take_of_length_le (Nat.le_refl _), List.take_of_length_le (by omega)]
theorem cutS_drop (z : List Nat) (k : Nat) : cutS (S z) (some (k : Int)) none = S (z.drop k) := by
  unfold cutS
  have e0 : HT.sIx (S z).length 0 (some (k : Int)) = min k (S z).length := HT.sIx_nat _ _ _
  have e1 : HT.sIx (S z).length (S z).length none = (S z).length := rfl
  rw [e0, e1, len_S]
  show S ((z.drop (min k z.length)).take (z.length - min k z.length)) = _
  congr 1
  by_cases h : k ≤ z.length
  · rw [Nat.min_eq_left h]
    exact List.take_of_length_le (by rw [List.length_drop]; exact Nat.le_refl _)
  · rw [Nat.min_eq_right (by omega), List.drop_eq_nil_of_le (Nat.le_refl _), List.drop_eq_nil_of_le (by omega)]
    simp
theorem cutS_cut (z : List Nat) (i j : Nat) (h : j ≤ z.length) : cutS (S z) (some (i : Int)) (some (j : Int)) = S ((z.drop i).take (j - i)) := by
  unfold cutS
  have e0 : HT.sIx (S z).length 0 (some (i : Int)) = min i (S z).length := HT.sIx_nat _ _ _
  have e1 : HT.sIx (S z).length (S z).length (some (j : Int)) = min j (S z).length := HT.sIx_nat _ _ _
  rw [e0, e1, len_S, Nat.min_eq_left h]
  show S ((z.drop (min i z.length)).take (j - min i z.length)) = _
  congr 1
  by_cases h2 : i ≤ z.length
  · rw [Nat.min_eq_left h2]
  · rw [Nat.min_eq_right (by omega), List.drop_eq_nil_of_le (Nat.le_refl _), List.drop_eq_nil_of_le (by omega)]
    simp
end Sr
namespace Sr
open PySem PySem.Spec PyProof.Rows L2
theorem seq_view {K : PySem.W.Frag} {H : Hp} {x y : V} {d : PyData} (hx : Dp K H x d) (hy : Dp K H y d) (g : Gd d) :
    (∃ i, x = .int i ∧ y = .int i ∧ tname d = "int") ∨ (∃ z, x = .str z ∧ y = .str z ∧ tname d = "str") ∨ (∃ b, x = .bl b ∧ y = .bl b ∧ tname d = "bool") ∨
    ∃ (ds : List PyData) (px py : Addr) (xs ys : List V) (b1 b2 : Bool), x = .ref px ∧ y = .ref py ∧ (SqL K H px xs ∨ SqT K H px xs) ∧ (SqL K H py ys ∨ SqT K H py ys) ∧ DpAll K H xs ds ∧ DpAll K H ys ds ∧ ds.length ≤ 100000 ∧ (∀ d ∈ ds, Gd d) ∧
      d.depth = PyData.depthAll ds + 1 ∧ PySem.W.kitOne K (.type (tname d)) (.type "list") = some b1 ∧ PySem.W.kitOne K (.type (tname d)) (.type "tuple") = some b2 ∧ (b1 || b2) = true := by
  cases g with
  | int i =>
    cases hx
    cases hy
    exact .inl ⟨i, rfl, rfl, rfl⟩
  | str z =>
    cases hx
    cases hy
    exact .inr (.inl ⟨z, rfl, rfl, rfl⟩)
  | bl b =>
    cases hx
    cases hy
    exact .inr (.inr (.inl ⟨b, rfl, rfl, rfl⟩))
  | lst ds hl h =>
    cases hx with
    | lst h1 h2 =>
      cases hy with
      | lst h3 h4 => exact .inr (.inr (.inr ⟨ds, _, _, _, _, true, false, rfl, rfl, .inl h1, .inl h3, h2, h4, hl, h, by simp only [PyData.depth], kit_ty (a := "list") (by decide +kernel), kit_ty (a := "list") (by decide +kernel), rfl⟩))
  | tup ds hl h =>
    cases hx with
    | tup h1 h2 =>
      cases hy with
      | tup h3 h4 => exact .inr (.inr (.inr ⟨ds, _, _, _, _, false, true, rfl, rfl, .inr h1, .inr h3, h2, h4, hl, h, by simp only [PyData.depth], kit_ty (a := "tuple") (by decide +kernel), kit_ty (a := "tuple") (by decide +kernel), rfl⟩))
theorem Sq_same {K : PySem.W.Frag} {H H' : Hp} {a : Addr} {xs : List V} (e : Same H H') (h : SqL K H a xs ∨ SqT K H a xs) : SqL K H' a xs ∨ SqT K H' a xs := h.elim (fun h => .inl (e.seq h)) fun h => .inr (SqT_same e h)
end Sr

namespace L2
open PySem PySem.Spec PyProof.Rows
/-! ### del xs[a:], by the model's own list.__delitem__ -/
section
variable {prog : Program} {w : World} {A : Around} {E : Value → Shared → Prop} {s : Shared}
theorem cut_zip {p : Nat → Bool} {a : Nat} : ∀ (l : List Value) (i : Nat), (∀ k, i ≤ k → k < i + l.length → p k = decide (a ≤ k)) → (l.zipIdx i).filterMap (fun (x, k) => if p k then none else some x) = l.take (a - i)
  | [], i, _ => by simp
  | x :: l, i, h => by
    rw [List.zipIdx_cons, List.filterMap_cons]
    have ih := cut_zip (p := p) (a := a) l (i + 1) fun k h1 h2 => h k (by omega) (by rw [List.length_cons]; omega)
    have h0 := h i (Nat.le_refl _) (by rw [List.length_cons]; omega)
    by_cases hai : a ≤ i
    · rw [decide_eq_true hai] at h0
      simp only [h0, if_true]
      rw [ih, show a - (i + 1) = 0 by omega, show a - i = 0 by omega]
      simp
    · rw [decide_eq_false hai] at h0
      simp only [h0, Bool.false_eq_true, if_false]
      rw [ih, show a - i = (a - (i + 1)) + 1 by omega, List.take_succ_cons]
theorem bounds_from {a n : Nat} (h : a ≤ n) : sliceBounds (some (a : Int)) none none n = ((a : Int), (n : Int), 1) := by
  simp only [sliceBounds, Option.getD_none]
  have h1 : ¬ ((a : Int) < 0) := by omega
  simp only [h1, if_false, show (1 : Int) > 0 by decide, if_true]
  congr 1
  omega
set_option maxRecDepth 100000 in
theorem delItem_from {l sl : Addr} {items : Array Value} {n : Nat} {vl : Value} {a : Nat} {Q : Unit → Shared → Prop}
    (e : s.heap.get? l = some { cls := .type "list", data := .seq items n }) (hs : s.heap.IsSliceOf sl vl .none .none) (pl : IsPart vl (some (a : Int))) (ha : a ≤ items.size)
    (hsz : items.size ≤ sizeLine) (h : ∀ f : Array Value → Array Value, f items = (items.toList.take a).toArray → Q () { s with heap := s.heap.update l (Obj.mapSeq f) }) :
    wpAny (model prog w) A (delItem (.ref l) (.ref sl)) Q E s := by
  have hl : s.heap.IsList l items := PySem.IsL.isList e
  obtain ⟨os, hos, hcs, hds⟩ := id hs
  have hTs : s.TypeIs (.ref sl) "slice" := ⟨os, hos, hcs⟩
  have hstep : ¬ ((rawPart none == rawInt 0) = true) := Bool.false_ne_true
  refine wpAny_delItem_slot hl.typeIs (by decide) F.slot_list_delitem (wpAny_call_entry F.slot_list_delitem hl.typeIs F.entry_list_delitem ?_ (F.args_list_delitem_2 _ _))
  show wpAny _ _ (Builtin.List.listSubscript? (.ref sl) >>= _) _ _ s
  refine wpAny_bind ?_
  unfold Builtin.List.listSubscript?
  refine wpAny_bind (wpAny_specialOf hTs slice_no_index ?_)
  simp only [Option.isNone_none, if_true]
  refine wpAny_pure ?_
  show wpAny _ _ (typeOf (.ref sl) >>= _) _ _ s
  refine wpAny_bind (wpAny_typeOf hTs ?_)
  rw [if_neg (by decide)]
  rw [listSliceParts_eq]
  refine wpAny_bind (wpAny_bind (wpAny_field hos hds (x := .none) rfl (wpAny_bind (wpAny_listPart .none ?_))))
  rw [if_neg hstep]
  refine wpAny_bind (wpAny_field hos hds (x := vl) rfl (wpAny_bind (wpAny_listPart pl ?_)))
  refine wpAny_bind (wpAny_field hos hds (x := .none) rfl (wpAny_bind (wpAny_listPart .none (wpAny_pure ?_))))
  unfold Builtin.List.listItems
  refine wpAny_bind (wpAny_bind (wpAny_seqItems e rfl (wpAny_pure ?_)))
  refine wpAny_bind (wpAny_of_eq ((sliceIndices_raw (some (a : Int)) none none items.size (by simp)).trans (congrArg (pure : Int × Int × Int → Sem (Int × Int × Int)) (bounds_from ha))) ?_)
  refine wpAny_bind (wpAny_rule ?_)
  have key : ∀ (p : Nat → Bool) (f : Array Value → Array Value), (∀ k, k < items.size → p k = decide (a ≤ k)) → (∀ xs, f xs = (xs.toList.zipIdx.filterMap fun (x, k) => if p k then none else some x).toArray) → f items = (items.toList.take a).toArray := fun p f hp hf => by
    rw [hf, cut_zip (a := a) items.toList 0 fun k _ h2 => hp k (by simpa using h2)]
    rfl
  have sz : ∀ f : Array Value → Array Value, f items = (items.toList.take a).toArray → (f items).size ≤ sizeLine + 1 := fun f hf => by
    rw [hf, List.size_toArray, List.length_take, Array.length_toList]
    omega
  have pk : ∀ k, k < items.size → (if (1 : Int) > 0 then decide ((a : Int) ≤ (k : Int)) && decide ((k : Int) < (items.size : Int)) && (((k : Int) - (a : Int)) % 1 == 0) else decide ((items.size : Int) < (k : Int)) && decide ((k : Int) ≤ (a : Int)) && (((a : Int) - (k : Int)) % (-1) == 0)) = decide (a ≤ k) := fun k hk => by
    rw [if_pos (by decide), Int.emod_one, decide_eq_true (show (k : Int) < (items.size : Int) by omega), Bool.and_true]
    simp
  have fk : (fun xs : Array Value => (xs.toList.zipIdx.filterMap fun (x, k) => if (if (1 : Int) > 0 then decide ((a : Int) ≤ (k : Int)) && decide ((k : Int) < (items.size : Int)) && (((k : Int) - (a : Int)) % 1 == 0) else decide ((items.size : Int) < (k : Int)) && decide ((k : Int) ≤ (a : Int)) && (((a : Int) - (k : Int)) % (-1) == 0)) then none else some x).toArray) items = (items.toList.take a).toArray := key (fun k : Nat => (if (1 : Int) > 0 then decide ((a : Int) ≤ (k : Int)) && decide ((k : Int) < (items.size : Int)) && (((k : Int) - (a : Int)) % 1 == 0) else decide ((items.size : Int) < (k : Int)) && decide ((k : Int) ≤ (a : Int)) && (((a : Int) - (k : Int)) % (-1) == 0))) _ pk (fun xs => rfl)
  generalize hf0 : (fun xs : Array Value => (xs.toList.zipIdx.filterMap fun (x, k) => if (if (1 : Int) > 0 then decide ((a : Int) ≤ (k : Int)) && decide ((k : Int) < (items.size : Int)) && (((k : Int) - (a : Int)) % 1 == 0) else decide ((items.size : Int) < (k : Int)) && decide ((k : Int) ≤ (a : Int)) && (((a : Int) - (k : Int)) % (-1) == 0)) then none else some x).toArray) = f0 at fk
  refine wpAny_bind (wpAny_updateSeq (hz := hsz) (_hz' := by have z := sz f0 fk; subst hf0; exact z) e rfl ?_)
  refine wpAny_bind (wpAny_letGo ?_)
  exact wpAny_pure ⟨.none, rfl, by have z := h f0 fk; subst hf0; exact z⟩
end
end L2
namespace L2
open PySem PySem.Spec PyProof.Rows
section
variable {X : Cx}
/-- del xs[a:] -/
def tDelFrom (to tl : TE) : TS := fun D σ H => to σ H fun x H1 => tl σ H1 fun y H2 => ∃ (l : Addr) (xs : List V) (a : Nat), x = .ref l ∧ y = .int (a : Nat) ∧ H2 l = some (.lst xs) ∧ a ≤ xs.length ∧ D.nx σ (upd H2 l (.lst (xs.take a)))
theorem ps_delFrom {o lo : Expr} {to tl : TE} {tpos p2 pos : Pos} (ho : PE X o to) (hl : PE X lo tl) : PS X (.Delete [.Subscript o (.Slice (some lo) none none p2) tpos] pos) (tDelFrom to tl) := by
  refine ⟨fun pins s σ H D I h => ?_⟩
  refine wpAny_Delete (wpAny_deleteEach_cons (wpAny_delete_Subscript (thn (ho.run pins s σ H _ I h) fun u s1 ⟨x, H1, I1, rx, q1⟩ => ?_)))
  refine wpAny_Slice ?_
  rw [evalPart_some, evalPart_none]
  refine thn (hl.run pins s1 σ H1 _ I1 q1) fun vl s2 ⟨y, H2, I2, ry, q2⟩ => ?_
  refine wpAny_pure ?_
  refine wpAny_pure ?_
  obtain ⟨l, xs, a, ex, ey, hH, ha, q⟩ := q2
  subst ex
  subst ey
  cases (show u = Value.ref l from rx)
  obtain ⟨t, rfl⟩ := (show ∃ t, vl = Value.int (a : Nat) t from ry)
  have I3 : Inv X pins σ H2 { s2 with heap := s2.heap.push { cls := .type "slice", data := .fields #[.int (a : Nat) t, .none, .none] } } := I2.kept (t' := s2.toks) fun b ob z => Heap.get?_push_of_some _ z
  obtain ⟨z, its, n, r, hlen, e⟩ := I3.lstM hH
  refine delItem_from (a := a) e (Heap.IsSliceOf.new ..) (.int _ _) (by rw [List.size_toArray]; omega) (by rw [List.size_toArray]; omega) fun f hf => ?_
  refine wpAny_deleteEach_nil ⟨σ, _, ?_, q⟩
  refine I3.lset (its' := its.take a) (t' := s2.toks) hH e ?_ (r.take a) ?_
  · rw [hf]
  · rw [List.length_take]
    omega
end
/-! ### enumerate(text) -/
def Ities (x : Str) : It :=
  ⟨fun i _ => i < x.cps.size, fun i H v H' => ∃ T c, v = .ref T ∧ H T = none ∧ x.cps[i]? = some c ∧ H' = upd H T (.tup [.int (i : Nat), .str ⟨#[c]⟩]), fun i _ => i = x.cps.size⟩
theorem turn_enumS {P : Program} {w : World} {K : PySem.W.Frag} {elts : List Expr} {kk : Nat} {tpos : Pos} (x : Str) (t : Tok) (e it : Addr) (ty : String) (hty : ty = "str_ascii_iterator" ∨ ty = "str_iterator") :
    Turn P w K (.Tuple elts kk tpos) (Ities x) [e, it] e (fun i h => (∃ old, IsEnum h e it ((i : Nat) : Int) old) ∧ h.IsStrIter it ty x t i ∧ e ≠ it) where
  mem := by simp
  obj := fun i h st b hb => by
    obtain ⟨⟨old, he⟩, ⟨o, ho, hc, hd⟩, _⟩ := st
    have e' : b = e ∨ b = it := by simpa using hb
    rcases e' with z | z
    · rw [z]; exact ⟨_, he, fun v q => nomatch q⟩
    · rw [z]; exact ⟨o, ho, fun v q => by rw [hd] at q; cases q⟩
  keep := fun i h h' st k => let ⟨⟨old, he⟩, ⟨o, ho, r⟩, hne⟩ := st; ⟨⟨old, k e (by simp) _ he⟩, ⟨o, k it (by simp) o ho, r⟩, hne⟩
  item := by
    intro X hP hw hK hc i pins s σ H E I hf st hg
    subst hP hw hK
    obtain ⟨⟨old, he⟩, hit, hne⟩ := st
    have hel : e < s.heap.objs.size := Heap.lt_size he
    have hil : it < s.heap.objs.size := by obtain ⟨_, q, _⟩ := hit; exact Heap.lt_size q
    have W : Draws X.prog X.w X.A.in1 it [it] x.cps.size (fun i v => ∃ c u, x.cps[i]? = some c ∧ v = .str ⟨#[c]⟩ u) (fun i h => h.IsStrIter it ty x t i) := by
      rcases hty with q | q
      · rw [q]; exact Draws.strAscii (A := X.A.in1) (show X.A.in1.handled = none from I.ok.hd hc) it x t
      · rw [q]; exact Draws.strWide (A := X.A.in1) (show X.A.in1.handled = none from I.ok.hd hc) it x t
    refine wpAny_pyNext_enum_itemD W he hit hg hne (by simpa using hne) fun v h' tk hv ho hit' hT hsz hk => ?_
    obtain ⟨c, u, hcx, rfl⟩ := hv
    refine ⟨_, rfl, wpAny_letOwnedTupleGo_enum (s := { s with heap := h', toks := tk + 1 }) ho fun h'' he' sb => ?_⟩
    have hT2 : h''.get? s.heap.objs.size = some { cls := .type "tuple", data := .seq #[.int i tk, .str ⟨#[c]⟩ u] } := (sb.2 _ (Nat.ne_of_gt hel)).trans hT
    have new : ObjOk X.prog X.w (upd H s.heap.objs.size (.tup [.int (i : Nat), .str ⟨#[c]⟩])) h'' s.heap.objs.size (.tup [.int (i : Nat), .str ⟨#[c]⟩]) :=
      ⟨by show 2 ≤ sizeLine; decide, [.int i tk, .str ⟨#[c]⟩ u], .cons ⟨_, rfl⟩ (.cons ⟨_, rfl⟩ .nil), ⟨_, hT2, rfl, _, rfl⟩⟩
    have I1 : Inv X pins σ (upd H s.heap.objs.size (.tup [.int (i : Nat), .str ⟨#[c]⟩])) { s with heap := h'', toks := tk + 1 } :=
      I.turnedNew (ch := [e, it]) (fun b ob hb q => (sb.2 b (fun z => hb (by simp [z]))).trans (hk b ob (fun z => hb (by simp [z])) (fun z => hb (by simp [z])) q)) hf (Nat.le_refl _) new
    refine ⟨.ref s.heap.objs.size, _, I1, rfl, ⟨_, c, rfl, I.hok.fresh (Nat.le_refl _), hcx, rfl⟩, ⟨⟨.str ⟨#[c]⟩ u, ?_⟩, ?_, hne⟩, fun b hb => ?_⟩
    · have e1 : ((i + 1 : Nat) : Int) = (i : Int) + 1 := by omega
      rw [e1]; exact he'
    · obtain ⟨o, ho2, r⟩ := hit'
      exact ⟨o, (sb.2 it (Ne.symm hne)).trans ho2, r⟩
    · have hb' : b < s.heap.objs.size := by
        have e' : b = e ∨ b = it := by simpa using hb
        rcases e' with z | z
        · rw [z]; exact hel
        · rw [z]; exact hil
      rw [upd_ne (Nat.ne_of_lt hb')]
      exact (hf b hb).1
  done := by
    intro X hP hw hK hc i pins s σ H E I hf st hg
    subst hP hw hK
    obtain ⟨⟨old, he⟩, hit, hne⟩ := st
    have hg' : i = x.cps.size := hg
    subst hg'
    have W : Draws X.prog X.w X.A.in1 it [it] x.cps.size (fun i v => ∃ c u, x.cps[i]? = some c ∧ v = .str ⟨#[c]⟩ u) (fun i h => h.IsStrIter it ty x t i) := by
      rcases hty with q | q
      · rw [q]; exact Draws.strAscii (A := X.A.in1) (show X.A.in1.handled = none from I.ok.hd hc) it x t
      · rw [q]; exact Draws.strWide (A := X.A.in1) (show X.A.in1.handled = none from I.ok.hd hc) it x t
    obtain ⟨f0, f1, f2, f3, f4, f5⟩ := hf it (by simp)
    exact wpAny_pyNext_enum_endD W he hit fun h' eb => ⟨rfl, I.turned (t' := s.toks) (fun b o hb q => eb b o hb q) f0 f1 f3 f4 f5⟩
  self := fun A i s Q E st h => let ⟨⟨_, he⟩, _⟩ := st; wpAny_pyIter_enum he h
def iEnumS (ta : TA) : TI := fun σ H R => ta σ H fun vs H1 => ∃ x, vs = [.str x] ∧ R (Ities x) H1
theorem pi_enumS {X : Cx} {e : Expr} {ta : TA} {p pos tpos : Pos} {elts : List Expr} {kk : Nat} (hg : Gl X "enumerate") (hm : X.mg "enumerate" = none) (ha : PA X [e] ta) (hs : starEach [e] X.env = [(false, eval e X.env)] := by rfl) :
    PI X (.Tuple elts kk tpos) (.Call (.Name "enumerate" p) [e] [] pos) (iEnumS ta) := by
  refine ⟨fun pins s σ H R I h => ?_⟩
  refine Call_ (ld_blt I hg hm boot_enumerate (PyProof.Rows.callWith_type1 (thn (ha.run pos pins s σ H _ I h) fun us s1 ⟨vs, H1, I1, r1, q1⟩ => ?_) hs rfl))
  obtain ⟨x, ex, q⟩ := q1
  subst ex
  cases r1 with
  | cons r rr =>
    cases rr
    obtain ⟨t, rfl⟩ := r
    refine call_enumerate_str fun h' he hit hsz hk => wpAny_pyIter_enum he ?_
    have I2 : Inv X pins σ H1 { s1 with heap := h' } := I1.kept (t' := s1.toks) hk
    have hty : strIterType x = "str_ascii_iterator" ∨ strIterType x = "str_iterator" := by
      unfold strIterType
      split
      · exact .inl rfl
      · exact .inr rfl
    refine ⟨s1.heap.objs.size + 1, [s1.heap.objs.size + 1, s1.heap.objs.size], _, _, H1, rfl, I2, turn_enumS x t (s1.heap.objs.size + 1) s1.heap.objs.size _ hty, ⟨⟨.none, he⟩, hit, Nat.succ_ne_self _⟩, fun b hb => ?_, q⟩
    have e' : b = s1.heap.objs.size + 1 ∨ b = s1.heap.objs.size := by simpa using hb
    have hle : s1.heap.objs.size ≤ b := by
      rcases e' with z | z
      · rw [z]; exact Nat.le_add_right _ _
      · rw [z]; exact Nat.le_refl _
    exact I1.fpOk hle (I1.hok.fresh hle)
theorem walk_enumS {x : Str} : Walk (Ities x) x.cps.size (fun _ => True) (fun i H v H' => ∃ T c, v = .ref T ∧ H T = none ∧ x.cps[i]? = some c ∧ H' = upd H T (.tup [.int (i : Nat), .str ⟨#[c]⟩])) :=
  ⟨fun _ _ hi _ => hi, fun _ _ => rfl, fun _ _ _ _ _ _ y => y⟩
end L2
namespace L2
open PySem PySem.Spec PyProof.Rows
theorem x_del {to tl : TE} {D : Ends} {σ : St} {H : Hp} (q : to σ H fun x H1 => tl σ H1 fun y H2 => ∃ (l : Addr) (xs : List V) (a : Nat), x = .ref l ∧ y = .int (a : Nat) ∧ H2 l = some (.lst xs) ∧ a ≤ xs.length ∧ D.nx σ (upd H2 l (.lst (xs.take a)))) : tDelFrom to tl D σ H := q
theorem x_iEnumS {t : TA} {σ : St} {H : Hp} {R : It → Hp → Prop} (q : t σ H fun vs H1 => ∃ x, vs = [.str x] ∧ R (Ities x) H1) : iEnumS t σ H R := q
theorem x_delFrom {p : Addr} {xs : List V} {i : Int} {k : Nat} {H : Hp} {R : Addr → List V → Nat → Prop} (h : H p = some (.lst xs)) (e : i = (k : Int)) (hk : k ≤ xs.length) (q : R p xs k) :
    ∃ (l : Addr) (xs : List V) (a : Nat), V.ref p = .ref l ∧ V.int i = .int (a : Nat) ∧ H l = some (.lst xs) ∧ a ≤ xs.length ∧ R l xs a := ⟨p, xs, k, rfl, by rw [e], h, hk, q⟩
end L2
namespace L2
open PySem PySem.Spec PyProof.Rows
/-! ### a test of three comparisons in a row -/
section
variable {X : Cx} {a b c d : Expr} {ta tb tc td : TE} {pos : Pos}
def tChain3 (r r' r'' : R2) (ta tb tc td : TE) : TT := fun σ H R => ta σ H fun x H1 => tb σ H1 fun y H2 => r x y H2 fun z H3 => ∃ k, z = .bl k ∧
  (if k = true then tc σ H3 fun w' H4 => r' y w' H4 fun z2 H5 => ∃ k2, z2 = .bl k2 ∧ (if k2 = true then td σ H5 fun v' H6 => r'' w' v' H6 fun z3 H7 => ∃ k3, z3 = .bl k3 ∧ R k3 H7 else R false H5) else R false H3)
theorem pt_chain3 {op op' op'' : CmpOp} {r r' r'' : R2} (ho : OpR X (compareOp op) r) (ho' : OpR X (compareOp op') r') (ho'' : OpR X (compareOp op'') r'') (ha : PE X a ta) (hb : PE X b tb) (hc : PE X c tc) (hd : PE X d td)
    (hm : lastMarks [op, op', op''] [b, c, d] = false := by with_unfolding_all rfl) : PT X (.Compare a [op, op', op''] [b, c, d] pos) (tChain3 r r' r'' ta tb tc td) := by
  refine ⟨fun pins s σ H Q I h => ?_⟩
  refine isTrue_chain (thn (ha.run pins s σ H _ I h) fun v s1 ⟨x, H1, I1, r1, q1⟩ => test_link (thn (hb.run pins s1 σ H1 _ I1 q1) fun u s2 ⟨y, H2, I2, r2, q2⟩ =>
    thn (ho pins s2 σ H2 x y v u _ I2 r1 r2 q2) fun d s3 ⟨z, H3, I3, r3, k, e, q3⟩ => ?_)) hm
  subst e
  cases r3
  refine wpAny_truthy_bool ?_
  cases k with
  | false => exact ite_ff ⟨H3, I3, q3⟩
  | true =>
    refine ite_tt (test_link (thn (hc.run pins s3 σ H3 _ I3 q3) fun w' s4 ⟨z', H4, I4, r4, q4⟩ => thn (ho' pins s4 σ H4 y z' u w' _ I4 r2 r4 q4) fun d' s5 ⟨z2, H5, I5, r5, k2, e2, q5⟩ => ?_))
    subst e2
    cases r5
    refine wpAny_truthy_bool ?_
    cases k2 with
    | false => exact ite_ff ⟨H5, I5, q5⟩
    | true =>
      refine ite_tt (test_last (thn (hd.run pins s5 σ H5 _ I5 q5) fun v' s6 ⟨z4, H6, I6, r6, q6⟩ => thn (ho'' pins s6 σ H6 z' z4 w' v' _ I6 r4 r6 q6) fun d2 s7 ⟨z5, H7, I7, r7, k3, e3, q7⟩ => ?_))
      subst e3
      cases r7
      exact wpAny_truthy_bool ⟨H7, I7, q7⟩
theorem x_chain3 {r r' r'' : R2} {σ : St} {H : Hp} {R : Bool → Hp → Prop} (q : ta σ H fun x H1 => tb σ H1 fun y H2 => r x y H2 fun z H3 => ∃ k, z = .bl k ∧
  (if k = true then tc σ H3 fun w' H4 => r' y w' H4 fun z2 H5 => ∃ k2, z2 = .bl k2 ∧ (if k2 = true then td σ H5 fun v' H6 => r'' w' v' H6 fun z3 H7 => ∃ k3, z3 = .bl k3 ∧ R k3 H7 else R false H5) else R false H3)) : tChain3 r r' r'' ta tb tc td σ H R := q
end
end L2

namespace Sr
/-! ### stretches by levels -/
/-- (b, e) stands by itself: the level at b is lower, at e higher, than every other one between -/
def St (s : Nat → Int) (b e : Nat) : Prop := b < e ∧ (∀ j, b < j → j ≤ e → s b < s j) ∧ (∀ j, b ≤ j → j < e → s j < s e)
def Ripe (s : Nat → Int) (n b e : Nat) : Prop := St s b e ∧ e ≤ n ∧ ∀ b' e', St s b' e' → e' ≤ n → b' ≤ b → e ≤ e' → b' = b ∧ e' = e
def Apt (p q : Nat × Nat) : Prop := p.2 ≤ q.1
structure RL (s : Nat → Int) (n : Nat) (L : List (Nat × Nat)) : Prop where
  ripe : ∀ p ∈ L, Ripe s n p.1 p.2
  all : ∀ b e, Ripe s n b e → (b, e) ∈ L
  apt : L.Pairwise Apt
section
variable {s : Nat → Int}
theorem argmax_first (s : Nat → Int) (b : Nat) : ∀ k : Nat, ∃ m, b ≤ m ∧ m ≤ b + k ∧ (∀ j, b ≤ j → j < m → s j < s m) ∧ ∀ j, b ≤ j → j ≤ b + k → s j ≤ s m
  | 0 => ⟨b, Nat.le_refl _, Nat.le_refl _, fun j h1 h2 => by omega, fun j h1 h2 => by
    have : j = b := by omega
    subst this
    exact Int.le_refl _⟩
  | k + 1 => by
    obtain ⟨m, h1, h2, h3, h4⟩ := argmax_first s b k
    by_cases h : s m < s (b + (k + 1))
    · refine ⟨b + (k + 1), by omega, Nat.le_refl _, fun j j1 j2 => ?_, fun j j1 j2 => ?_⟩
      · have := h4 j j1 (by omega)
        omega
      · by_cases hj : j = b + (k + 1)
        · subst hj
          exact Int.le_refl _
        · have := h4 j j1 (by omega)
          omega
    · refine ⟨m, h1, by omega, h3, fun j j1 j2 => ?_⟩
      by_cases hj : j = b + (k + 1)
      · subst hj
        omega
      · exact h4 j j1 (by omega)
theorem argmin_last (s : Nat → Int) (b : Nat) : ∀ k : Nat, ∃ m, b ≤ m ∧ m ≤ b + k ∧ (∀ j, m < j → j ≤ b + k → s m < s j) ∧ ∀ j, b ≤ j → j ≤ b + k → s m ≤ s j
  | 0 => ⟨b, Nat.le_refl _, Nat.le_refl _, fun j h1 h2 => by omega, fun j h1 h2 => by
    have : j = b := by omega
    subst this
    exact Int.le_refl _⟩
  | k + 1 => by
    obtain ⟨m, h1, h2, h3, h4⟩ := argmin_last s b k
    by_cases h : s (b + (k + 1)) ≤ s m
    · refine ⟨b + (k + 1), by omega, Nat.le_refl _, fun j j1 j2 => by omega, fun j j1 j2 => ?_⟩
      by_cases hj : j = b + (k + 1)
      · subst hj
        exact Int.le_refl _
      · have := h4 j j1 (by omega)
        omega
    · refine ⟨m, h1, by omega, fun j j1 j2 => ?_, fun j j1 j2 => ?_⟩
      · by_cases hj : j = b + (k + 1)
        · subst hj
          omega
        · exact h3 j j1 (by omega)
      · by_cases hj : j = b + (k + 1)
        · subst hj
          omega
        · exact h4 j j1 (by omega)
theorem ripe_of {n : Nat} : ∀ (k b e : Nat), n - (e - b) ≤ k → St s b e → e ≤ n → ∃ b' e', Ripe s n b' e' ∧ b' ≤ b ∧ e ≤ e' := by
  intro k
  induction k with
  | zero =>
    intro b e hk h he
    refine ⟨b, e, ⟨h, he, fun b' e' h' he' h1 h2 => ?_⟩, Nat.le_refl _, Nat.le_refl _⟩
    have := h.1
    have := h'.1
    omega
  | succ k ih =>
    intro b e hk h he
    by_cases hr : Ripe s n b e
    · exact ⟨b, e, hr, Nat.le_refl _, Nat.le_refl _⟩
    · have : ∃ b' e', St s b' e' ∧ e' ≤ n ∧ b' ≤ b ∧ e ≤ e' ∧ ¬ (b' = b ∧ e' = e) := by
        apply Classical.byContradiction
        intro hc
        exact hr ⟨h, he, fun b' e' h1 h2 h3 h4 => Classical.byContradiction fun hn => hc ⟨b', e', h1, h2, h3, h4, hn⟩⟩
      obtain ⟨b', e', h1, h2, h3, h4, h5⟩ := this
      have := h.1
      obtain ⟨b2, e2, r, h6, h7⟩ := ih b' e' (by omega) h1 h2
      exact ⟨b2, e2, r, by omega, by omega⟩
theorem ripe_over {n b e : Nat} (h : St s b e) (he : e ≤ n) : ∃ b' e', Ripe s n b' e' ∧ b' ≤ b ∧ e ≤ e' := ripe_of _ b e (Nat.le_refl _) h he
theorem St.join {b1 e1 b2 e2 : Nat} (h1 : St s b1 e1) (h2 : St s b2 e2) (hb : b1 ≤ b2) (hm : b2 < e1) (he : e1 ≤ e2) : St s b1 e2 := by
  have l12 : s b1 ≤ s b2 := by
    by_cases h : b1 = b2
    · subst h
      exact Int.le_refl _
    · have := h1.2.1 b2 (by omega) (by omega)
      omega
  have g12 : s e1 ≤ s e2 := by
    by_cases h : e1 = e2
    · subst h
      exact Int.le_refl _
    · have := h2.2.2 e1 (by omega) (by omega)
      omega
  refine ⟨by have := h2.1; omega, fun j j1 j2 => ?_, fun j j1 j2 => ?_⟩
  · by_cases h : j ≤ e1
    · exact h1.2.1 j j1 h
    · have := h2.2.1 j (by omega) j2
      omega
  · by_cases h : b2 ≤ j
    · exact h2.2.2 j h j2
    · have := h1.2.2 j j1 (by omega)
      omega
theorem ripe_apart {n b1 e1 b2 e2 : Nat} (h1 : Ripe s n b1 e1) (h2 : Ripe s n b2 e2) (hb : b1 ≤ b2) : (b1 = b2 ∧ e1 = e2) ∨ e1 ≤ b2 := by
  by_cases hm : e1 ≤ b2
  · exact .inr hm
  · left
    by_cases he : e1 ≤ e2
    · have j := h1.1.join h2.1 hb (by omega) he
      have k1 := h1.2.2 b1 e2 j h2.2.1 (Nat.le_refl _) he
      have k2 := h2.2.2 b1 e2 j h2.2.1 hb (Nat.le_refl _)
      exact ⟨k2.1, k1.2.symm⟩
    · have k2 := h2.2.2 b1 e1 h1.1 h1.2.1 hb (by omega)
      exact k2
/-- a beginning b of a stretch that ends behind the like pair at i; R: what is ripe ahead of b -/
structure Cand (s : Nat → Int) (i b : Nat) (R : List (Nat × Nat)) : Prop where
  st : St s b (i + 1)
  ripe : ∀ p ∈ R, Ripe s i p.1 p.2 ∧ p.2 ≤ b
  all : ∀ b' e', Ripe s i b' e' → e' ≤ b → (b', e') ∈ R
  cut : ∀ b' e', Ripe s i b' e' → e' ≤ b ∨ b ≤ b'
  apt : R.Pairwise Apt
theorem Cand.start {i : Nat} {L : List (Nat × Nat)} (h : RL s i L) (hi : s i < s (i + 1)) : Cand s i i L where
  st := ⟨by omega, fun j j1 j2 => by
    have : j = i + 1 := by omega
    subst this
    exact hi, fun j j1 j2 => by
    have : j = i := by omega
    subst this
    exact hi⟩
  ripe := fun p hp => ⟨h.ripe p hp, (h.ripe p hp).2.1⟩
  all := fun b' e' r _ => h.all b' e' r
  cut := fun b' e' r => .inl r.2.1
  apt := h.apt
theorem Cand.le {i b : Nat} {R : List (Nat × Nat)} (h : Cand s i b R) : b ≤ i := by
  have := h.st.1
  omega
theorem mem_split {R1 R2 : List (Nat × Nat)} {q p : Nat × Nat} (h : p ∈ R1 ++ q :: R2) : p ∈ R1 ∨ p = q ∨ p ∈ R2 := by
  rcases List.mem_append.mp h with h | h
  · exact .inl h
  · rcases List.mem_cons.mp h with h | h
    · exact .inr (.inl h)
    · exact .inr (.inr h)
theorem apt_split {R1 R2 : List (Nat × Nat)} {q : Nat × Nat} (h : (R1 ++ q :: R2).Pairwise Apt) : R1.Pairwise Apt ∧ (∀ p ∈ R1, Apt p q) ∧ (∀ p ∈ R2, Apt q p) := by
  rw [List.pairwise_append] at h
  obtain ⟨h1, h2, h3⟩ := h
  refine ⟨h1, fun p hp => h3 p hp q (List.mem_cons_self ..), fun p hp => ?_⟩
  rw [List.pairwise_cons] at h2
  exact h2.1 p hp
/-- no beginning further left -/
theorem Cand.leftmost {i b : Nat} {R : List (Nat × Nat)} (h : Cand s i b R)
    (hc : (∀ p ∈ R, s b ≤ s p.1) ∨ ∃ R1 R2 bk ek, R = R1 ++ (bk, ek) :: R2 ∧ (∀ p ∈ R2, s b ≤ s p.1) ∧ s (i + 1) ≤ s ek) : ∀ b', b' < b → ¬ St s b' (i + 1) := by
  intro b' hb hs
  have hbi := h.le
  have l1 : s b' < s b := hs.2.1 b hb (by omega)
  obtain ⟨m, m1, m2, m3, m4⟩ := argmax_first s b' (b - b')
  have hm : b' ≠ m := fun e => by
    have := m4 b (by omega) (by omega)
    rw [← e] at this
    omega
  have st2 : St s b' m := ⟨by omega, fun j j1 j2 => hs.2.1 j j1 (by omega), fun j j1 j2 => m3 j j1 j2⟩
  obtain ⟨bj, ej, r, r1, r2⟩ := ripe_over (n := i) st2 (by omega)
  have hej : ej ≤ b := by
    rcases h.cut bj ej r with z | z
    · exact z
    · omega
  have hmem := h.all bj ej r hej
  have l2 : s bj ≤ s b' := by
    by_cases hz : bj = b'
    · subst hz
      exact Int.le_refl _
    · have := r.1.2.1 b' (by omega) (by omega)
      omega
  rcases hc with hc | ⟨R1, R2, bk, ek, rfl, hc1, hc2⟩
  · have := hc _ hmem
    show False
    simp only at this
    omega
  · obtain ⟨a1, a2, a3⟩ := apt_split h.apt
    have rk : Ripe s i bk ek ∧ ek ≤ b := h.ripe (bk, ek) (by simp)
    have hk1 : bk < ek := rk.1.1.1
    have hk2 : ek ≤ b := rk.2
    rcases mem_split hmem with z | z | z
    · have : ej ≤ bk := a2 _ z
      have := hs.2.2 ek (by omega) (by omega)
      omega
    · have e1 : bj = bk := congrArg Prod.fst z
      have e2 : ej = ek := congrArg Prod.snd z
      have := hs.2.2 ek (by omega) (by omega)
      omega
    · have := hc1 _ z
      simp only at this
      omega
theorem Cand.step {i b bk ek : Nat} {R1 R2 : List (Nat × Nat)} (h : Cand s i b (R1 ++ (bk, ek) :: R2)) (h2 : ∀ p ∈ R2, s b ≤ s p.1) (hl : s bk < s b) (hh : s ek < s (i + 1)) : Cand s i bk R1 := by
  have hbi := h.le
  obtain ⟨a1, a2, a3⟩ := apt_split h.apt
  have rk : Ripe s i bk ek ∧ ek ≤ b := h.ripe (bk, ek) (by simp)
  have hk1 : bk < ek := rk.1.1.1
  have hk2 : ek ≤ b := rk.2
  have gapL : ∀ j, bk < j → j ≤ b → s bk < s j := by
    intro j j1 j2
    by_cases hj : j ≤ ek
    · exact rk.1.1.2.1 j j1 hj
    · apply Classical.byContradiction
      intro hn
      obtain ⟨m, m1, m2, m3, m4⟩ := argmin_last s j (b - j)
      have lm : s m ≤ s bk := by
        have := m4 j (Nat.le_refl _) (by omega)
        omega
      have hmb : m ≠ b := fun e => by
        rw [e] at lm
        omega
      obtain ⟨e2, e21, e22, e23, e24⟩ := argmax_first s m (b - m)
      have hne : m ≠ e2 := fun e => by
        have := e24 b (by omega) (by omega)
        rw [← e] at this
        omega
      have st2 : St s m e2 := ⟨by omega, fun x x1 x2 => m3 x x1 (by omega), fun x x1 x2 => e23 x x1 x2⟩
      obtain ⟨bj, ej, r, r1, r2⟩ := ripe_over (n := i) st2 (by omega)
      have hej : ej ≤ b := by
        rcases h.cut bj ej r with z | z
        · exact z
        · omega
      have l2 : s bj ≤ s m := by
        by_cases hz : bj = m
        · subst hz
          exact Int.le_refl _
        · have := r.1.2.1 m (by omega) (by omega)
          omega
      rcases mem_split (h.all bj ej r hej) with z | z | z
      · have : ej ≤ bk := a2 _ z
        omega
      · have e3 : ej = ek := congrArg Prod.snd z
        omega
      · have := h2 _ z
        simp only at this
        omega
  have gapH : ∀ j, bk ≤ j → j ≤ b → s j < s (i + 1) := by
    intro j j1 j2
    by_cases hj : j ≤ ek
    · by_cases hz : j = ek
      · rw [hz]
        exact hh
      · have := rk.1.1.2.2 j j1 (by omega)
        omega
    · apply Classical.byContradiction
      intro hn
      obtain ⟨m, m1, m2, m3, m4⟩ := argmax_first s bk (j - bk)
      have hm : s (i + 1) ≤ s m := by
        have := m4 j (by omega) (by omega)
        omega
      have hek : s ek < s m := by omega
      have hme : ek < m := by
        apply Classical.byContradiction
        intro hz
        by_cases hz2 : m = ek
        · rw [hz2] at hek
          omega
        · have := rk.1.1.2.2 m m1 (by omega)
          omega
      have st2 : St s bk m := ⟨by omega, fun x x1 x2 => gapL x x1 (by omega), fun x x1 x2 => m3 x x1 x2⟩
      have := rk.1.2.2 bk m st2 (by omega) (Nat.le_refl _) (Nat.le_of_lt hme)
      simp only at this
      omega
  refine ⟨⟨by omega, fun j j1 j2 => ?_, fun j j1 j2 => ?_⟩, fun p hp => ⟨(h.ripe p (by simp [hp])).1, a2 p hp⟩, fun b' e' r he => ?_, fun b' e' r => ?_, a1⟩
  · by_cases hj : j ≤ b
    · exact gapL j j1 hj
    · have := h.st.2.1 j (by omega) j2
      omega
  · by_cases hj : j ≤ b
    · exact gapH j j1 hj
    · exact h.st.2.2 j (by omega) j2
  · rcases mem_split (h.all b' e' r (by omega)) with z | z | z
    · exact z
    · have e3 : e' = ek := congrArg Prod.snd z
      omega
    · have : ek ≤ b' := a3 _ z
      have := r.1.1
      omega
  · by_cases hz : b' ≤ bk
    · rcases ripe_apart r rk.1 hz with ⟨z, _⟩ | z
      · exact .inr (by omega)
      · exact .inl z
    · exact .inr (by omega)
theorem Cand.done {i b : Nat} {R : List (Nat × Nat)} (h : Cand s i b R) (hl : ∀ b', b' < b → ¬ St s b' (i + 1)) : RL s (i + 1) (R ++ [(b, i + 1)]) := by
  have hbi := h.le
  have rb : Ripe s (i + 1) b (i + 1) := ⟨h.st, Nat.le_refl _, fun b' e' st he hb hi => by
    have e2 : e' = i + 1 := by omega
    subst e2
    refine ⟨?_, rfl⟩
    by_cases hz : b' < b
    · exact absurd st (hl b' hz)
    · omega⟩
  refine ⟨fun p hp => ?_, fun b' e' r => ?_, ?_⟩
  · rcases List.mem_append.mp hp with z | z
    · obtain ⟨r, hr⟩ := h.ripe p z
      refine ⟨r.1, by have := r.2.1; omega, fun b' e' st he hb hi => ?_⟩
      by_cases hz : e' ≤ i
      · exact r.2.2 b' e' st hz hb hi
      · have e2 : e' = i + 1 := by omega
        subst e2
        have := r.1.1
        exact absurd st (hl b' (by omega))
    · rw [List.mem_singleton.mp z]
      exact rb
  · by_cases hz : e' ≤ i
    · have r' : Ripe s i b' e' := ⟨r.1, hz, fun b2 e2 st he hb hi => r.2.2 b2 e2 st (by omega) hb hi⟩
      rcases h.cut b' e' r' with z | z
      · exact List.mem_append.mpr (.inl (h.all b' e' r' z))
      · have := r.2.2 b (i + 1) h.st (Nat.le_refl _) z (by omega)
        omega
    · have e2 : e' = i + 1 := by
        have := r.2.1
        omega
      subst e2
      by_cases hlt : b' < b
      · exact absurd r.1 (hl b' hlt)
      · have := r.2.2 b (i + 1) h.st (Nat.le_refl _) (by omega) (Nat.le_refl _)
        rw [← this.1]
        simp
  · rw [List.pairwise_append]
    refine ⟨h.apt, by simp, fun p hp q hq => ?_⟩
    rw [List.mem_singleton.mp hq]
    exact (h.ripe p hp).2
theorem RL.unlike {i : Nat} {L : List (Nat × Nat)} (h : RL s i L) (hi : s (i + 1) < s i) : RL s (i + 1) L := by
  have no : ∀ b e, St s b e → e ≤ i + 1 → e ≤ i := fun b e st he => by
    apply Classical.byContradiction
    intro hn
    have e2 : e = i + 1 := by omega
    subst e2
    have := st.2.2 i (by have := st.1; omega) (by omega)
    omega
  refine ⟨fun p hp => ?_, fun b e r => ?_, h.apt⟩
  · have r := h.ripe p hp
    exact ⟨r.1, by have := r.2.1; omega, fun b' e' st he hb hi => r.2.2 b' e' st (no _ _ st he) hb hi⟩
  · exact h.all b e ⟨r.1, no _ _ r.1 r.2.1, fun b' e' st he hb hi => r.2.2 b' e' st (by omega) hb hi⟩
theorem RL.zero (s : Nat → Int) : RL s 0 [] := ⟨(fun p hp => nomatch hp), (fun b e r => by
  have := r.1.1
  have := r.2.1
  omega), .nil⟩
theorem same_sorted : ∀ {L M : List (Nat × Nat)}, L.Pairwise (fun p q => p.1 < q.1) → M.Pairwise (fun p q => p.1 < q.1) → (∀ p, p ∈ L ↔ p ∈ M) → L = M
  | [], [], _, _, _ => rfl
  | [], q :: M, _, _, h => by
    have := (h q).mpr (List.mem_cons_self ..)
    cases this
  | p :: L, [], _, _, h => by
    have := (h p).mp (List.mem_cons_self ..)
    cases this
  | p :: L, q :: M, h1, h2, h => by
    rw [List.pairwise_cons] at h1 h2
    have e : p = q := by
      rcases List.mem_cons.mp ((h p).mp (List.mem_cons_self ..)) with z | z
      · exact z
      · rcases List.mem_cons.mp ((h q).mpr (List.mem_cons_self ..)) with z2 | z2
        · exact z2.symm
        · have := h2.1 p z
          have := h1.1 q z2
          omega
    subst e
    rw [same_sorted h1.2 h2.2 fun x => ⟨fun hx => ?_, fun hx => ?_⟩]
    · rcases List.mem_cons.mp ((h x).mp (List.mem_cons_of_mem _ hx)) with z | z
      · have := h1.1 x hx
        rw [z] at this
        omega
      · exact z
    · rcases List.mem_cons.mp ((h x).mpr (List.mem_cons_of_mem _ hx)) with z | z
      · have := h2.1 x hx
        rw [z] at this
        omega
      · exact z
theorem RL.lt {n : Nat} {L : List (Nat × Nat)} (h : RL s n L) : L.Pairwise (fun p q => p.1 < q.1) := by
  refine List.Pairwise.imp_of_mem ?_ h.apt
  intro p q hp hq hpq
  have := (h.ripe p hp).1.1
  have : p.2 ≤ q.1 := hpq
  omega
theorem RL.unique {n : Nat} {L M : List (Nat × Nat)} (h1 : RL s n L) (h2 : RL s n M) : L = M :=
  same_sorted h1.lt h2.lt fun p => ⟨fun hp => h2.all _ _ (h1.ripe p hp), fun hp => h1.all _ _ (h2.ripe p hp)⟩
/-- it is enough that two of these that differ begin at unlike places, ascending -/
theorem RL.of_lt {n : Nat} {L : List (Nat × Nat)} (h1 : ∀ p ∈ L, Ripe s n p.1 p.2) (h2 : ∀ b e, Ripe s n b e → (b, e) ∈ L) (h3 : L.Pairwise (fun p q => p.1 ≤ q.1 ∧ p ≠ q)) : RL s n L := by
  refine ⟨h1, h2, ?_⟩
  refine List.Pairwise.imp_of_mem ?_ h3
  intro p q hp hq hpq
  rcases ripe_apart (h1 p hp) (h1 q hq) hpq.1 with ⟨z1, z2⟩ | z
  · exact absurd (Prod.ext z1 z2) hpq.2
  · exact z
/-- what the document says of a stretch that stands by itself -/
theorem St_iff {b e : Nat} (hb : b < e) : St s b e ↔ 0 < s e - s b ∧ ∀ b' e', b ≤ b' → b' < e' → e' ≤ e → (b', e') ≠ (b, e) → s e' - s b' < s e - s b := by
  constructor
  · intro h
    refine ⟨by have := h.2.1 e hb (Nat.le_refl _); omega, fun b' e' h1 h2 h3 h4 => ?_⟩
    have k1 : s b ≤ s b' := by
      by_cases hz : b = b'
      · subst hz
        exact Int.le_refl _
      · have := h.2.1 b' (by omega) (by omega)
        omega
    have k2 : s e' ≤ s e := by
      by_cases hz : e' = e
      · subst hz
        exact Int.le_refl _
      · have := h.2.2 e' (by omega) (by omega)
        omega
    by_cases hz : b = b'
    · have : e' ≠ e := fun q => h4 (by rw [hz, q])
      have := h.2.2 e' (by omega) (by omega)
      omega
    · have := h.2.1 b' (by omega) (by omega)
      omega
  · rintro ⟨h1, h2⟩
    refine ⟨hb, fun j j1 j2 => ?_, fun j j1 j2 => ?_⟩
    · by_cases hz : j = e
      · subst hz
        omega
      · have := h2 j e (by omega) (by omega) (Nat.le_refl _) (fun q => by have := congrArg Prod.fst q; simp only at this; omega)
        omega
    · by_cases hz : j = b
      · subst hz
        omega
      · have := h2 b j (Nat.le_refl _) (by omega) (by omega) (fun q => by have := congrArg Prod.snd q; simp only at this; omega)
        omega
end
end Sr
namespace Sr
open PySem PySem.Spec PyProof.Rows L2
/-! ### levels of likes; parts and stretches as tuples -/
def lev (g l : Int) (z : List Nat) (i : Nat) : Int := wor g l (z.take i)
theorem lev_succ (g l : Int) {z : List Nat} {i : Nat} (h : i < z.length) : lev g l z (i + 1) = lev g l z i + (if z[i] = 61 then g else -l) := wor_take g l h
theorem lev_zero (g l : Int) (z : List Nat) : lev g l z 0 = 0 := by
  unfold lev
  rw [List.take_zero]
  rfl
/-- only the object at a is another -/
def K1 (a : Addr) (H H' : Hp) : Prop := ∀ p o, p ≠ a → H p = some o → H' p = some o
theorem K1.refl {a : Addr} (H : Hp) : K1 a H H := fun _ _ _ h => h
theorem K1.trans {a : Addr} {H H1 H2 : Hp} (x : K1 a H H1) (y : K1 a H1 H2) : K1 a H H2 := fun p o h1 h => y p o h1 (x p o h1 h)
theorem K1.of {a : Addr} {H H' : Hp} (x : Same H H') : K1 a H H' := fun p o _ h => x p o h
theorem K1.at {a : Addr} {H : Hp} {o : HO} : K1 a H (upd H a o) := fun q u n e => by
  rw [upd_ne n]
  exact e
theorem K1.same {a : Addr} {H0 H H' : Hp} (x : K1 a H H') (h0 : H0 a = none) (s : Same H0 H) : Same H0 H' := fun p o h => x p o (ne_of_none h h0) (s p o h)
/-- the tuples at as tell L, each by f -/
def Tup {α : Type} (f : α → List V) (H : Hp) (as : List Addr) (L : List α) : Prop := as.length = L.length ∧ ∀ (j : Nat) (a : Addr) (p : α), as[j]? = some a → L[j]? = some p → H a = some (.tup (f p))
section
variable {α : Type} {f : α → List V} {H H' : Hp} {as : List Addr} {L : List α}
theorem Tup.nil : Tup f H [] [] := ⟨rfl, fun j a p h => by simp at h⟩
theorem Tup.k1 {a : Addr} {xs : List V} (h : Tup f H as L) (k : K1 a H H') (ha : H a = some (.lst xs)) : Tup f H' as L := ⟨h.1, fun j b p h1 h2 => by
  have h3 := h.2 j b p h1 h2
  exact k b _ (ne_of h3 ha (by intro q; cases q)) h3⟩
theorem Tup.same (h : Tup f H as L) (k : Same H H') : Tup f H' as L := ⟨h.1, fun j b p h1 h2 => k b _ (h.2 j b p h1 h2)⟩
theorem Tup.take (h : Tup f H as L) (k : Nat) : Tup f H (as.take k) (L.take k) := ⟨by rw [List.length_take, List.length_take, h.1], fun j b p h1 h2 => by
  rw [List.getElem?_take] at h1 h2
  split at h1
  · rename_i hj
    rw [if_pos hj] at h2
    exact h.2 j b p h1 h2
  · cases h1⟩
theorem Tup.snoc {a : Addr} {p : α} (h : Tup f H as L) (ha : H a = some (.tup (f p))) : Tup f H (as ++ [a]) (L ++ [p]) := ⟨by rw [List.length_append, List.length_append, h.1]; rfl, fun j b q h1 h2 => by
  by_cases hj : j < as.length
  · rw [List.getElem?_append_left hj] at h1
    rw [List.getElem?_append_left (by rw [← h.1]; exact hj)] at h2
    exact h.2 j b q h1 h2
  · rw [List.getElem?_append_right (by omega)] at h1
    rw [List.getElem?_append_right (by rw [← h.1]; omega)] at h2
    have e1 : j - as.length = 0 := by
      apply Classical.byContradiction
      intro hn
      rw [List.getElem?_eq_none (by simp; omega)] at h1
      cases h1
    rw [e1] at h1
    rw [← h.1, e1] at h2
    have : a = b := Option.some.inj h1
    have : p = q := Option.some.inj h2
    subst_vars
    exact ha⟩
theorem Tup.get (h : Tup f H as L) {j : Nat} {p : α} (hp : L[j]? = some p) : ∃ a, as[j]? = some a ∧ (as.map V.ref)[j]? = some (.ref a) ∧ H a = some (.tup (f p)) := by
  have hj : j < as.length := by
    rw [h.1]
    exact (List.getElem?_eq_some_iff.mp hp).1
  refine ⟨as[j], List.getElem?_eq_getElem hj, by rw [List.getElem?_map, List.getElem?_eq_getElem hj]; rfl, h.2 j _ p (List.getElem?_eq_getElem hj) hp⟩
theorem Tup.len (h : Tup f H as L) : (as.map V.ref).length = L.length := by rw [List.length_map, h.1]
theorem Tup.dp {K : PySem.W.Frag} {g : α → List PyData} (hg : ∀ p, DpAll K H (f p) (g p)) : ∀ {as : List Addr} {L : List α}, Tup f H as L → DpAll K H (as.map V.ref) (L.map fun p => PyData.tuple (g p))
  | [], [], _ => .nil
  | [], p :: L, h => by have := h.1; simp at this
  | a :: as, [], h => by have := h.1; simp at this
  | a :: as, p :: L, h => .cons (.tup (SqT.of (h.2 0 a p rfl rfl)) (hg p)) (Tup.dp hg ⟨by simpa using h.1, fun j b q h1 h2 => h.2 (j + 1) b q h1 h2⟩)
end
/-- a part: its stretch, and the levels at its ends -/
def part4 (s : Nat → Int) (p : Nat × Nat) : List V := [.int (p.1 : Nat), .int (p.2 : Nat), .int (s p.1), .int (s p.2)]
def pair2 (p : Nat × Nat) : List V := [.int (p.1 : Nat), .int (p.2 : Nat)]
def pairD (p : Nat × Nat) : List PyData := [.int (p.1 : Nat), .int (p.2 : Nat)]
theorem pair2_dp {K : PySem.W.Frag} {H : Hp} (p : Nat × Nat) : DpAll K H (pair2 p) (pairD p) := .cons (.int _) (.cons (.int _) .nil)
theorem len_sorted : ∀ {L : List (Nat × Nat)} {k n : Nat}, L.Pairwise (fun p q => p.1 < q.1) → (∀ p ∈ L, k ≤ p.1 ∧ p.1 < n) → L.length ≤ n - k
  | [], _, _, _, _ => by simp
  | p :: L, k, n, h, hb => by
    rw [List.pairwise_cons] at h
    have hp := hb p (List.mem_cons_self ..)
    have ih := len_sorted (k := p.1 + 1) (n := n) h.2 fun q hq => ⟨h.1 q hq, (hb q (List.mem_cons_of_mem _ hq)).2⟩
    rw [List.length_cons]
    omega
theorem RL.len {s : Nat → Int} {n : Nat} {L : List (Nat × Nat)} (h : RL s n L) : L.length ≤ n := by
  have := len_sorted (k := 0) (n := n) h.lt fun p hp => ⟨Nat.zero_le _, by
    have r := h.ripe p hp
    have := r.1.1
    have := r.2.1
    omega⟩
  omega
theorem Gd_pairs (L : List (Nat × Nat)) (h : L.length ≤ 100000) : Gd (.list (L.map fun p => PyData.tuple (pairD p))) := by
  refine .lst _ (by rw [List.length_map]; exact h) fun d hd => ?_
  obtain ⟨p, _, rfl⟩ := List.mem_map.mp hd
  refine .tup _ (by show 2 ≤ 100000; omega) fun e he => ?_
  rcases List.mem_cons.mp he with rfl | he
  · exact .int _
  · rcases List.mem_cons.mp he with rfl | he
    · exact .int _
    · cases he
theorem depth_pairs (L : List (Nat × Nat)) : PyData.depthAll (L.map fun p => PyData.tuple (pairD p)) ≤ 1 := by
  induction L with
  | nil => simp [PyData.depthAll]
  | cons p L ih =>
    have h : (PyData.tuple (pairD p)).depth = 1 := by simp [pairD, PyData.depth, PyData.depthAll]
    rw [List.map_cons, PyData.depthAll, h]
    exact Nat.max_le.mpr ⟨Nat.le_refl _, ih⟩
theorem eq_like (c : Nat) : decide (V.str (sg c) = V.str (Str.ofString "=")) = decide (c = 61) := by
  by_cases h : c = 61
  · subst h
    rfl
  · rw [decide_eq_false h]
    refine decide_eq_false fun q => h ?_
    have : S [c] = S [61] := V.str.inj q
    have := S_inj this
    exact (List.cons.inj this).1
theorem x_slT {K : PySem.W.Frag} {H : Hp} {a : Addr} {xs : List V} {lo hi : Option Int} {Q : VK} (h : SqT K H a xs) (hn : ¬ (HT.sIx xs.length 0 lo = 0 ∧ HT.sIx xs.length xs.length hi = xs.length)) (q : ∀ p, H p = none → Q (.ref p) (upd H p (.tup (cutV xs lo hi)))) :
    rSlT K (.ref a) lo hi H Q := ⟨a, xs, rfl, h, hn, q⟩
/-- a new tuple t is appended to the list of tuples at D -/
theorem tup_push {α : Type} {f : α → List V} {H0 H : Hp} {D t : Addr} {as : List Addr} {M : List α} {p : α} (hD0 : H0 D = none) (sm : Same H0 H) (hD : H D = some (.lst (as.map V.ref))) (hT : Tup f H as M) (ht : H t = none) :
    Same H0 (upd (upd H t (.tup (f p))) D (.lst (as.map V.ref ++ [.ref t]))) ∧ upd (upd H t (.tup (f p))) D (.lst (as.map V.ref ++ [.ref t])) D = some (.lst ((as ++ [t]).map V.ref)) ∧
      Tup f (upd (upd H t (.tup (f p))) D (.lst (as.map V.ref ++ [.ref t]))) (as ++ [t]) (M ++ [p]) := by
  have hne : D ≠ t := ne_of_none hD ht
  have k : K1 D H (upd (upd H t (.tup (f p))) D (.lst (as.map V.ref ++ [.ref t]))) := (K1.of (same_upd ht)).trans K1.at
  refine ⟨k.same hD0 sm, by rw [upd_same, List.map_append]; rfl, Tup.snoc (hT.k1 k hD) ?_⟩
  rw [upd_ne hne.symm, upd_same]
theorem wor_cut (g l : Int) (z : List Nat) {i j : Nat} (h : i ≤ j) : wor g l ((z.drop i).take (j - i)) = lev g l z j - lev g l z i := by
  have e : z.take j = z.take i ++ (z.drop i).take (j - i) := by
    have hj : j = i + (j - i) := by omega
    rw [hj, List.take_add, ← hj]
  unfold lev
  rw [e, wor_app]
  omega
theorem eqv_pair (a b c d : Int) : PyData.eqv (.tuple [.int a, .int b]) (.tuple [.int c, .int d]) = decide (a = c ∧ b = d) := by
  simp [PyData.eqv, PyData.eqvAll]
  by_cases h1 : a = c <;> by_cases h2 : b = d <;> simp [h1, h2]
theorem dp_pair {K : PySem.W.Frag} {H : Hp} {p : Addr} {a b : Int} (h : H p = some (.tup [.int a, .int b])) : Dp K H (.ref p) (.tuple [.int a, .int b]) := .tup (SqT.of h) (.cons (.int a) (.cons (.int b) .nil))
/-- all stretches that stand by themselves, as far as the walk has come: ahead of (bi, ei) -/
def Lex (p q : Nat × Nat) : Prop := p.1 < q.1 ∨ (p.1 = q.1 ∧ p.2 < q.2)
structure SLI (s : Nat → Int) (n bi ei : Nat) (L : List (Nat × Nat)) : Prop where
  st : ∀ p ∈ L, St s p.1 p.2 ∧ p.2 ≤ n
  all : ∀ b e, St s b e → e ≤ n → (b < bi ∨ (b = bi ∧ e < ei)) → (b, e) ∈ L
  lt : L.Pairwise Lex
  top : ∀ p ∈ L, p.1 < bi ∨ (p.1 = bi ∧ p.2 < ei)
  len : L.length ≤ bi * (n + 1) + ei
theorem SLI.zero (s : Nat → Int) (n : Nat) : SLI s n 0 1 [] := ⟨(fun p h => nomatch h), (fun b e h _ h2 => by have := h.1; omega), .nil, (fun p h => nomatch h), by simp⟩
theorem SLI.row {s : Nat → Int} {n i : Nat} {L : List (Nat × Nat)} (h : SLI s n i (n + 1) L) : SLI s n (i + 1) (i + 1 + 1) L := by
  refine ⟨h.st, fun b e hs he h2 => h.all b e hs he ?_, h.lt, fun p hp => ?_, ?_⟩
  · have := hs.1
    omega
  · have := h.top p hp
    omega
  · have := h.len
    rw [Nat.succ_mul]
    omega
theorem SLI.no {s : Nat → Int} {n i e : Nat} {L : List (Nat × Nat)} (h : SLI s n i e L) (hn : ¬ St s i e) : SLI s n i (e + 1) L := by
  refine ⟨h.st, fun b e' hs he h2 => h.all b e' hs he ?_, h.lt, fun p hp => ?_, ?_⟩
  · by_cases hz : b = i ∧ e' = e
    · obtain ⟨z1, z2⟩ := hz
      subst z1 z2
      exact absurd hs hn
    · omega
  · have := h.top p hp
    omega
  · have := h.len
    omega
theorem SLI.yes {s : Nat → Int} {n i e : Nat} {L : List (Nat × Nat)} (h : SLI s n i e L) (hy : St s i e) (he : e ≤ n) : SLI s n i (e + 1) (L ++ [(i, e)]) := by
  refine ⟨fun p hp => ?_, fun b e' hs he h2 => ?_, ?_, fun p hp => ?_, ?_⟩
  · rcases List.mem_append.mp hp with z | z
    · exact h.st p z
    · rw [List.mem_singleton.mp z]
      exact ⟨hy, he⟩
  · by_cases hz : b = i ∧ e' = e
    · rw [hz.1, hz.2]
      simp
    · exact List.mem_append.mpr (.inl (h.all b e' hs he (by omega)))
  · rw [List.pairwise_append]
    refine ⟨h.lt, by simp, fun p hp q hq => ?_⟩
    rw [List.mem_singleton.mp hq]
    exact h.top p hp
  · rcases List.mem_append.mp hp with z | z
    · have := h.top p z
      omega
    · rw [List.mem_singleton.mp z]
      exact .inr ⟨rfl, Nat.lt_succ_self _⟩
  · have := h.len
    rw [List.length_append]
    show L.length + 1 ≤ _
    omega
/-- q holds p within, and is another -/
def cont (p q : Nat × Nat) : Bool := decide (q.1 ≤ p.1) && (decide (p.2 ≤ q.2) && !decide (q = p))
def mxs (L : List (Nat × Nat)) (p : Nat × Nat) : Bool := (L.filter (cont p)).isEmpty
theorem SLI.ripe {s : Nat → Int} {n : Nat} {L : List (Nat × Nat)} (h : SLI s n n (n + 1) L) : RL s n (L.filter (mxs L)) := by
  have all : ∀ b e, St s b e → e ≤ n → (b, e) ∈ L := fun b e hs he => h.all b e hs he (by have := hs.1; omega)
  refine RL.of_lt (fun p hp => ?_) (fun b e r => ?_) ?_
  · obtain ⟨h1, h2⟩ := List.mem_filter.mp hp
    obtain ⟨h3, h4⟩ := h.st p h1
    refine ⟨h3, h4, fun b' e' hs he hb hi => ?_⟩
    apply Classical.byContradiction
    intro hn
    have hc : cont p (b', e') = true := by
      unfold cont
      rw [decide_eq_true (show (b', e').1 ≤ p.1 from hb), decide_eq_true (show p.2 ≤ (b', e').2 from hi), decide_eq_false (show ¬ (b', e') = p from fun q => hn ⟨congrArg Prod.fst q, congrArg Prod.snd q⟩)]
      rfl
    have hm : (b', e') ∈ L.filter (cont p) := List.mem_filter.mpr ⟨all b' e' hs he, hc⟩
    unfold mxs at h2
    rw [List.isEmpty_iff] at h2
    rw [h2] at hm
    cases hm
  · refine List.mem_filter.mpr ⟨all b e r.1 r.2.1, ?_⟩
    unfold mxs
    rw [List.isEmpty_iff, List.filter_eq_nil_iff]
    intro q hq hc
    unfold cont at hc
    simp only [Bool.and_eq_true, decide_eq_true_eq, Bool.not_eq_true', decide_eq_false_iff_not] at hc
    obtain ⟨h3, h4⟩ := h.st q hq
    have := r.2.2 q.1 q.2 h3 h4 hc.1 hc.2.1
    exact hc.2.2 (Prod.ext this.1 this.2)
  · refine (h.lt.filter _).imp fun {p q} hpq => ⟨?_, fun e => ?_⟩
    · rcases hpq with z | z <;> omega
    · subst e
      rcases hpq with z | z <;> omega
theorem SLI.skip {s : Nat → Int} {n i e e' : Nat} {L : List (Nat × Nat)} (h : SLI s n i e L) (hn : ∀ x, e ≤ x → ¬ St s i x) (hle : e ≤ e') : SLI s n i e' L := by
  refine ⟨h.st, fun b x hs he h2 => h.all b x hs he ?_, h.lt, fun p hp => ?_, ?_⟩
  · by_cases hz : b = i ∧ e ≤ x
    · obtain ⟨z1, z2⟩ := hz
      subst z1
      exact absurd hs (hn x z2)
    · omega
  · have := h.top p hp
    omega
  · have := h.len
    omega
/-- some stretch that stands by itself is worth as much as any two levels differ -/
theorem St.of_diff {s : Nat → Int} {i j : Nat} (hij : i < j) (h : s i < s j) : ∃ b e, i ≤ b ∧ b < e ∧ e ≤ j ∧ St s b e ∧ s j - s i ≤ s e - s b := by
  obtain ⟨e, e1, e2, e3, e4⟩ := argmax_first s i (j - i)
  have he := e4 j (by omega) (by omega)
  have hie : i ≠ e := fun q => by
    rw [← q] at he
    omega
  obtain ⟨b, b1, b2, b3, b4⟩ := argmin_last s i (e - i)
  have hb := b4 i (Nat.le_refl _) (by omega)
  have hbe : b ≠ e := fun q => by
    rw [q] at hb
    have := e3 i (Nat.le_refl _) (by omega)
    omega
  exact ⟨b, e, b1, by omega, by omega, ⟨by omega, fun x x1 x2 => b3 x x1 (by omega), fun x x1 x2 => e3 x (by omega) x2⟩, by omega⟩
theorem RL.best {s : Nat → Int} {n : Nat} {L : List (Nat × Nat)} (h : RL s n L) {i j : Nat} (hij : i < j) (hj : j ≤ n) (hd : s i < s j) : ∃ p ∈ L, s j - s i ≤ s p.2 - s p.1 := by
  obtain ⟨b, e, h1, h2, h3, h4, h5⟩ := St.of_diff hij hd
  obtain ⟨b', e', r, r1, r2⟩ := ripe_over (n := n) h4 (by omega)
  refine ⟨(b', e'), h.all b' e' r, ?_⟩
  have k1 : s b' ≤ s b := by
    by_cases hz : b' = b
    · subst hz
      exact Int.le_refl _
    · have := r.1.2.1 b (by omega) (by omega)
      omega
  have k2 : s e ≤ s e' := by
    by_cases hz : e = e'
    · subst hz
      exact Int.le_refl _
    · have := r.1.2.2 e (by omega) (by omega)
      omega
  show s j - s i ≤ s e' - s b'
  omega
theorem lev_add (g l : Int) {z : List Nat} {i : Nat} (h : i < z.length) : wor g l [z[i]] = lev g l z (i + 1) - lev g l z i := by
  rw [lev_succ g l h]
  show (if z[i] = 61 then g else -l) + 0 = _
  omega
end Sr

namespace L2
open PySem PySem.Spec PyProof.Rows
/-! ### an exception that a suite holds: isinstance of it, with what must be known of it told in the reading -/
/-- what stands of the exception at a: its class is own class D, its dict is tracked -/
def Caught (K : PySem.W.Frag) (cls : Value) (d : Option Addr) (H : Hp) (D : Addr) : Prop :=
  cls = .ref D ∧ ExcC K D ∧ (d = none ∨ ∃ dd fs, d = some dd ∧ H dd = some (.xd fs))
theorem caught_at {X : Cx} {a D : Addr} {oe : Obj} {cls : Value} {d : Option Addr} {pn pins : List (Addr × Obj)} {σ : St} {H : Hp} {s : Shared} (hz : Zc cls d oe) (hf : ∃ vs, oe.data = .fields vs)
    (I : Inv (X.suite a ((a, oe) :: pn)) pins σ H s) (C : Caught X.K cls d H D) : ∃ od, PySem.W.InstAt s.heap a oe D od := by
  obtain ⟨ec, _, hd⟩ := C
  obtain ⟨hget, _⟩ := I.pin (a, oe) (List.mem_append_left _ List.mem_cons_self)
  obtain ⟨vs, hv⟩ := hf
  subst ec
  obtain ⟨zc, zd⟩ := hz
  have nc : PySem.W.notCls oe := by
    unfold PySem.W.notCls
    rw [hv]
  rcases hd with e | ⟨dd, fs, e, hH⟩
  · exact ⟨none, hget, zc, nc, by rw [zd, e]; trivial⟩
  · have k : ObjOk X.prog X.w H s.heap dd (.xd fs) := I.hok dd _ hH
    obtain ⟨mA, hns, _⟩ := k
    obtain ⟨od, ho, _⟩ := lookIn_ns hns
    exact ⟨some od, hget, zc, nc, by rw [zd, e]; exact ho⟩
def rIsC (K : PySem.W.Frag) (a : Addr) (cls : Value) (d : Option Addr) : List V → Hp → VK → Prop := fun xs H Q =>
  ∃ (D : Addr) (c : V) (u : Value) (b : Bool), Caught K cls d H D ∧ xs = [.ref a, c] ∧ ClsV c u ∧ PySem.W.kitOne K (.ref D) u = some b ∧ Q (.bl b) H
theorem call_isC {X : Cx} {a : Addr} {oe : Obj} {cls : Value} {d : Option Addr} {pn : List (Addr × Obj)} (hz : Zc cls d oe) (hf : ∃ vs, oe.data = .fields vs) : CallR (X.suite a ((a, oe) :: pn)) (.builtin "isinstance") (rIsC X.K a cls d) := by
  intro pins s σ H xs us Q I r h
  obtain ⟨D, c, u, b, C, rfl, k, e, q⟩ := h
  obtain ⟨u1, u2, rfl, r1, r2⟩ := vals2 r
  cases r1
  have e2 := k.eq r2
  subst e2
  obtain ⟨od, J⟩ := caught_at hz hf I C
  have F := C.2.1
  exact PySem.W.kia_one (PySem.W.kitx_exc (by obtain ⟨cd, hc, _⟩ := PySem.W.any_some F.hd; rw [hc]; rfl) F.hg F.hk F.hs F.ha F.hn F.ht F.hm) I.kIn J e (fun z => nomatch z) fun tk => ⟨.bl b, H, I.kept (t' := tk) fun _ _ z => z, rfl, q⟩
def rIsCT (K : PySem.W.Frag) (a : Addr) (cls : Value) (d : Option Addr) : List V → Hp → VK → Prop := fun xs H Q =>
  ∃ (D tp : Addr) (cs : List V) (us : List Value) (b : Bool), Caught K cls d H D ∧ xs = [.ref a, .ref tp] ∧ H tp = some (.tup cs) ∧ Paired ClsV cs us ∧ PySem.W.kitAny K (.ref D) us = some b ∧ Q (.bl b) H
theorem call_isCT {X : Cx} {a : Addr} {oe : Obj} {cls : Value} {d : Option Addr} {pn : List (Addr × Obj)} (hz : Zc cls d oe) (hf : ∃ vs, oe.data = .fields vs) : CallR (X.suite a ((a, oe) :: pn)) (.builtin "isinstance") (rIsCT X.K a cls d) := by
  intro pins s σ H xs us Q I r h
  obtain ⟨D, tp, cs, ws, b, C, rfl, hT, k, e, q⟩ := h
  obtain ⟨u1, u2, rfl, r1, r2⟩ := vals2 r
  cases r1
  cases (show u2 = Value.ref tp from r2)
  obtain ⟨od, J⟩ := caught_at hz hf I C
  have F := C.2.1
  obtain ⟨_, its, rv, o, h1, h2, n, h3⟩ := (show ObjOk X.prog X.w H s.heap tp (.tup cs) from I.hok tp _ hT)
  have e3 := ClsV.all k rv
  subst e3
  obtain ⟨oc, oo, dt, sl⟩ := o
  dsimp only at h2 h3
  cases h2
  cases h3
  exact PySem.W.kia_tup (PySem.W.kitx_exc (by obtain ⟨cd, hc, _⟩ := PySem.W.any_some F.hd; rw [hc]; rfl) F.hg F.hk F.hs F.ha F.hn F.ht F.hm) I.kIn J h1 e (fun z => nomatch z) fun tk => ⟨.bl b, H, I.kept (t' := tk) fun _ _ z => z, rfl, q⟩
/-- what is known of two own classes: D is under C or not -/
theorem kit_own {K : PySem.W.Frag} {D C : Addr} {b : Bool} (hC : PySem.W.hasDictIn K C = true) (ht : PySem.W.typeIn K (.ref C) = some (.type "type")) (hb : PySem.W.subIn K (.ref D) (.ref C) = some b) (hD : PySem.W.subIn K (.ref D) (.ref D) = some true) : PySem.W.kitOne K (.ref D) (.ref C) = some b := by
  unfold PySem.W.kitOne
  by_cases e : D = C
  · subst e
    rw [if_pos (by simp)]
    exact hD.symm.trans hb
  · rw [if_neg (by simpa using e)]
    obtain ⟨cd, hc, _⟩ := PySem.W.any_some hC
    show (if ((PySem.W.clsIn K C).isSome && PySem.W.typeIn K (.ref C) == some (.type "type")) = true then PySem.W.subIn K (.ref D) (.ref C) else none) = some b
    rw [if_pos (by rw [hc, ht]; rfl)]
    exact hb
theorem kit_typ {K : PySem.W.Frag} {D : Addr} {T : String} {b : Bool} (hT : PySem.W.kitMeta T = true) (hb : PySem.W.subIn K (.ref D) (.type T) = some b) : PySem.W.kitOne K (.ref D) (.type T) = some b := by
  unfold PySem.W.kitOne
  rw [if_neg (by simp)]
  show (if PySem.W.kitMeta T = true then PySem.W.subIn K (.ref D) (.type T) else none) = some b
  rw [if_pos hT]
  exact hb
/-! ### list.count of flat things -/
def rCntF (K : PySem.W.Frag) : V → List V → Hp → VK → Prop := fun x xs H Q => ∃ (p : Addr) (ys : List V) (y : V), x = .ref p ∧ xs = [y] ∧ SqL K H p ys ∧ flatV y = true ∧ ys.all flatV = true ∧ Q (.int ((ys.countP fun z => eqV z y) : Nat)) H
theorem cnt_eqU {y : V} : ∀ {ys : List V} {us : List Value}, Vals ys us → ys.all flatV = true → us.countP (eqU y) = ys.countP fun z => eqV z y
  | _, _, .nil, _ => rfl
  | z :: ys, u :: us, .cons r t, f => by
    rw [List.all_cons, Bool.and_eq_true] at f
    rw [List.countP_cons, List.countP_cons, cnt_eqU t f.2, eqU_of r f.1]
theorem mt_countF {X : Cx} : MtR X "list.count" (rCntF X.K) := by
  intro pins s σ H x xs v us Q I rx rxs h
  obtain ⟨p, ys, y, rfl, rfl, hs, fy, fys, q⟩ := h
  cases rx
  obtain ⟨u, rfl, ru⟩ := rxs.one
  obtain ⟨its, rv, ⟨⟨cls, dd, data, sl⟩, n, ho, hc, hdn, hd⟩, hlen⟩ := I.list hs
  dsimp only at hc hd
  cases hc
  cases hd
  refine call_meets PySem.F.slot_list_count ⟨_, ho, rfl⟩ PySem.F.entry_list_count (PySem.F.args_list_count_2 _ _)
    (SeqAt.list_countAt p its.toArray n dd sl u (eqU y)) ⟨ho, fun z hz => mem_eqAt ru fy rv fys z (by simpa using hz), ?_⟩
  refine ⟨.int ((ys.countP fun z => eqV z y) : Nat), H, I.tok _, ⟨s.toks, ?_⟩, q⟩
  have ec := cnt_eqU (y := y) rv fys
  show Value.int ((its.toArray.toList.countP (eqU y) : Nat) : Int) s.toks = Value.int ((ys.countP fun z => eqV z y : Nat) : Int) s.toks
  rw [show its.toArray.toList = its from rfl, ec]
end L2
namespace L2
open PySem PySem.Spec PyProof.Rows
theorem x_callS {sp : Sp} {E : St → XK} {t : TA} {σ : St} {H : Hp} {Q : VK} (q : t σ H fun vs H1 => sp vs H1 Q (E σ)) : tCallS sp E t σ H Q := q
end L2
namespace L2
open PySem PySem.Spec PyProof.Rows
section
variable {X : Cx} {K : PySem.W.Frag} {T id : String} {name : Str} {o e : Expr} {es : List Expr} {to : TE} {t : TA} {apos cpos : Pos} {r : V → List V → Hp → VK → Prop}
/-- a built-in's method, the written part named -/
theorem pe_bmK (hK : X.K = K) (pa : PlainAttrs T) (slot : Slot T name id) (hty : typeOf (.builtin id) = pure (.type "method_descriptor")) (hm : MtR X id r) (ho : PE X o to) (ha : PA X (e :: es) t)
    (h1 : attributeBase o name X.env (eval o X.env) = eval o X.env := by rfl)
    (h2 : ((backTo cpos (starEach (e :: es) X.env)).all (fun x => !x.1) && (backToKw cpos (keywordEach [] X.env)).all (fun x => x.1.isSome) && decide ((e :: es).length + ([] : List Keyword).length + (if ([] : List Keyword).isEmpty then 0 else 1) < 30)) = true := by rfl)
    (h3 : (apos.endLine == cpos.line) = true := by rfl) (h4 : starEach (e :: es) X.env = (false, eval e X.env) :: starEach es X.env := by rfl) (h5 : (backTo cpos (starEach es X.env)).any (·.1) = false := by rfl) :
    PE X (.Call (.Attribute o name apos) (e :: es) [] cpos) (tBM K T r to t) := by
  subst hK
  exact pe_bm pa slot hty hm ho ha h1 h2 h3 h4 h5
end
end L2
namespace L2
open PySem PySem.Spec PyProof.Rows
section
variable {K : PySem.W.Frag} {a D tp p : Addr} {cls : Value} {d : Option Addr} {H : Hp} {Q : VK} {c y : V} {u : Value} {us : List Value} {cs ys : List V} {b : Bool} {n : Nat}
theorem x_isC (C : Caught K cls d H D) (k : ClsV c u) (e : PySem.W.kitOne K (.ref D) u = some b) (q : Q (.bl b) H) : rIsC K a cls d [.ref a, c] H Q := ⟨D, c, u, b, C, rfl, k, e, q⟩
theorem x_isCT (C : Caught K cls d H D) (h : H tp = some (.tup cs)) (k : Paired ClsV cs us) (e : PySem.W.kitAny K (.ref D) us = some b) (q : Q (.bl b) H) : rIsCT K a cls d [.ref a, .ref tp] H Q := ⟨D, tp, cs, us, b, C, rfl, h, k, e, q⟩
theorem x_cntF (h : SqL K H p ys) (f : flatV y = true) (g : ys.all flatV = true) (e : (ys.countP fun z => eqV z y) = n) (q : Q (.int n) H) : rCntF K (.ref p) [y] H Q := ⟨p, ys, y, rfl, rfl, h, f, g, by rw [e]; exact q⟩
theorem x_indexF {j : Nat} {z : V} (h : SqL K H p ys) (f : flatV y = true) (g : ys.all flatV = true) (e : ys[j]? = some z) (e1 : eqV z y = true) (e2 : ∀ m z', m < j → ys[m]? = some z' → eqV z' y = false) (q : Q (.int j) H) : rIndex K (.ref p) [y] H Q := ⟨p, ys, y, j, z, rfl, rfl, h, f, g, e, e1, e2, q⟩
end
end L2

namespace L2
open PySem PySem.Spec PyProof.Rows
/-! ### text * int; is of truth values -/
theorem foldl_cps (c : Array Nat) : ∀ (n : Nat) (acc : Array Nat), ((List.replicate n c).foldl (· ++ ·) acc).toList = acc.toList ++ (List.replicate n c.toList).flatten
  | 0, acc => by simp
  | n + 1, acc => by
    rw [List.replicate_succ, List.foldl_cons, foldl_cps c n, List.replicate_succ, List.flatten_cons, Array.toList_append, List.append_assoc]
def rMulS : R2 := fun x y H Q => ∃ (z : Str) (n : Int), x = .str z ∧ y = .int n ∧ n ≤ 1000 ∧ -1000 ≤ n ∧ z.length ≤ 1000 ∧ Q (.str ⟨((List.replicate n.toNat z.cps.toList).flatten).toArray⟩) H
theorem rep_le (z : List Nat) (n : Nat) : ((List.replicate n z).flatten).length = n * z.length := by
  induction n with
  | zero => simp
  | succ n ih => rw [List.replicate_succ, List.flatten_cons, List.length_append, ih, Nat.succ_mul, Nat.add_comm]
theorem op_mulS {X : Cx} : OpR X (binaryOp .Mult) rMulS := by
  intro pins s σ H x y v u Q I rx ry h
  obtain ⟨z, n, rfl, rfl, h1, h2, hz, q⟩ := h
  obtain ⟨t, rfl⟩ := rx
  obtain ⟨t', rfl⟩ := ry
  have hlen : z.cps.toList.length = z.length := by simp [Str.length]
  have hm : z.length * n.toNat ≤ 1000 * 1000 := Nat.mul_le_mul hz (by omega)
  refine P.mul_str ?_ (fun h3 h4 => ?_) (fun h3 h4 => ?_) ?_
  · rw [decide_eq_false (by omega), decide_eq_false (by omega)]
    rfl
  · have h5 : (1000 : Int) ≤ (2 ^ 63 - 1) / n := Int.le_ediv_of_mul_le (by omega) (by omega)
    omega
  · unfold Builtin.Str.tooLong
    exact decide_eq_false (by have : (1000000 : Nat) ≤ sizeLine := by decide
                              omega)
  · by_cases h3 : n < 1
    · rw [if_pos h3]
      have e0 : n.toNat = 0 := by omega
      rw [e0] at q
      exact ⟨by decide, .str _, H, I.tok _, ⟨_, rfl⟩, q⟩
    · rw [if_neg h3]
      have ef : (⟨(List.replicate n.toNat z.cps).foldl (· ++ ·) #[]⟩ : Str) = ⟨((List.replicate n.toNat z.cps.toList).flatten).toArray⟩ := by
        have e := foldl_cps z.cps n.toNat #[]
        have e2 : (List.replicate n.toNat z.cps).foldl (· ++ ·) #[] = ((List.replicate n.toNat z.cps.toList).flatten).toArray := by
          apply Array.toList_inj.mp
          rw [e]
          simp
        rw [e2]
      by_cases h4 : (n == 1 || z.length == 0) = true
      · rw [if_pos h4]
        have ez : (⟨((List.replicate n.toNat z.cps.toList).flatten).toArray⟩ : Str) = z := by
          rcases Bool.or_eq_true _ _ |>.mp h4 with h5 | h5
          · have : n = 1 := by simpa using h5
            subst this
            show (⟨((List.replicate 1 z.cps.toList).flatten).toArray⟩ : Str) = z
            simp
          · have h6 : z.length = 0 := by simpa using h5
            have h7 : z.cps.toList = [] := List.length_eq_zero_iff.mp (by rw [hlen]; exact h6)
            apply TL.ext_tl
            show ((List.replicate n.toNat z.cps.toList).flatten) = z.cps.toList
            rw [h7]
            simp
        rw [ez] at q
        exact ⟨.str z, H, I, ⟨t, rfl⟩, q⟩
      · rw [if_neg h4, ef]
        refine ⟨?_, .str _, H, I.tok _, ⟨_, rfl⟩, q⟩
        show ((List.replicate n.toNat z.cps.toList).flatten).toArray.size ≤ sizeLine
        rw [List.size_toArray, rep_le, hlen]
        have : (1000000 : Nat) ≤ sizeLine := by decide
        have := Nat.mul_comm n.toNat z.length
        omega
theorem x_mulS {z : List Nat} {n : Int} {H : Hp} {Q : VK} (h1 : n ≤ 1000) (h2 : -1000 ≤ n) (hz : z.length ≤ 1000) (q : Q (.str (Sr.S (List.replicate n.toNat z).flatten)) H) : rMulS (.str (Sr.S z)) (.int n) H Q :=
  ⟨Sr.S z, n, rfl, rfl, h1, h2, by rw [Sr.len_S]; exact hz, q⟩
theorem x_isBl {a b : Bool} {H : Hp} {Q : VK} (q : Q (.bl (decide (a = b))) H) : rIsB (.bl a) (.bl b) H Q := ⟨a, b, rfl, rfl, q⟩
theorem x_notBl {a b : Bool} {H : Hp} {Q : VK} (q : Q (.bl (!decide (a = b))) H) : rNotB (.bl a) (.bl b) H Q := ⟨a, b, rfl, rfl, q⟩
section
variable {X : Cx} {K : PySem.W.Frag} {σ : St} {H : Hp} {Q : VK} {ta : TE} {t : TA}
theorem x_make {C : Addr} {sp : Sp} {dvs : List V} {E : XK} (q : t σ H fun vs H1 => ∀ x dx, H1 x = none → H1 dx = none → dx ≠ x → sp (.ref x :: (vs ++ dvs)) (upd (upd H1 dx (.own x)) x (.ins C dx [])) (fun v H2 => v = .non ∧ Q (.ref x) H2) E) : tMake C sp dvs E t σ H Q := q
theorem x_meth {C : Addr} {m : Str} {sp : Sp} {dvs : List V} {E : XK} (q : ta σ H fun x H1 => ∃ a dx fs, x = .ref a ∧ H1 a = some (.ins C dx fs) ∧ fs.lookup m = none ∧ t σ H1 fun vs H2 => sp (x :: (vs ++ dvs)) H2 Q E) : tMeth C m sp dvs E ta t σ H Q := q
end
end L2
namespace L2
open PySem PySem.Spec PyProof.Rows
theorem x_notT {K : PySem.W.Frag} {ta : TE} {σ : St} {H : Hp} {Q : VK} (q : ta σ H fun x H1 => ∃ k, TruV K x H1 k ∧ Q (.bl (!k)) H1) : tNotT K ta σ H Q := q
end L2

namespace Sr
open PySem PySem.Spec PyProof.Rows L2
/-! ### seeds: 35 a pick, 45 a gap; likes: 61 like, 47 unlike -/
def matB : List Nat → List Nat → Bool
  | [], _ => true
  | _ :: _, [] => false
  | c :: s, d :: z => !(c == 35 && d == 47) && matB s z
/-- a seed fits in likes at a place, any whole number -/
def fitsB (sd z : List Nat) (p : Int) : Bool := decide (0 ≤ p) && matB sd (z.drop p.toNat)
def seededB (sds : List (List Nat)) (z : List Nat) : Bool := sds.any fun sd => (List.range z.length).any fun p => fitsB sd z (p : Int)
theorem matB_iff : ∀ {sd z : List Nat}, matB sd z = true ↔ sd.length ≤ z.length ∧ ∀ k, k < sd.length → ¬ (sd[k]? = some 35 ∧ z[k]? = some 47)
  | [], z => by simp [matB]
  | c :: s, [] => by simp [matB]
  | c :: s, d :: z => by
    rw [matB, Bool.and_eq_true, matB_iff]
    constructor
    · rintro ⟨h1, h2, h3⟩
      refine ⟨by simpa using h2, fun k hk => ?_⟩
      cases k with
      | zero =>
        rintro ⟨e1, e2⟩
        have e1' : c = 35 := Option.some.inj e1
        have e2' : d = 47 := Option.some.inj e2
        subst e1' e2'
        simp at h1
      | succ k =>
        have := h3 k (by simpa using hk)
        simpa using this
    · rintro ⟨h2, h3⟩
      refine ⟨?_, by simpa using h2, fun k hk => ?_⟩
      · have := h3 0 (by simp)
        simp only [List.getElem?_cons_zero, Option.some.injEq] at this
        by_cases e1 : c = 35
        · by_cases e2 : d = 47
          · exact absurd ⟨e1, e2⟩ this
          · simp [e2]
        · simp [e1]
      · have := h3 (k + 1) (by simpa using hk)
        simpa using this
theorem fitsB_iff {sd z : List Nat} {p : Int} (h1 : 1 ≤ sd.length) : fitsB sd z p = true ↔ 0 ≤ p ∧ p + sd.length ≤ z.length ∧ ∀ k, k < sd.length → ¬ (sd[k]? = some 35 ∧ z[p.toNat + k]? = some 47) := by
  unfold fitsB
  rw [Bool.and_eq_true, decide_eq_true_eq, matB_iff, List.length_drop]
  constructor
  · rintro ⟨h2, h3, h4⟩
    refine ⟨h2, by omega, fun k hk => ?_⟩
    have := h4 k hk
    rw [List.getElem?_drop] at this
    exact this
  · rintro ⟨h2, h3, h4⟩
    refine ⟨h2, by omega, fun k hk => ?_⟩
    have := h4 k hk
    rw [List.getElem?_drop]
    exact this
/-- what a seed is -/
structure Sd (n : Nat) (sd : List Nat) : Prop where
  one : 1 ≤ sd.length
  most : sd.length ≤ n
  all : ∀ c ∈ sd, c = 35 ∨ c = 45
  first : sd[0]? = some 35
  last : sd[sd.length - 1]? = some 35
theorem Sd.wide {n m : Nat} {sd : List Nat} (h : Sd n sd) (hm : n ≤ m) : Sd m sd := ⟨h.one, Nat.le_trans h.most hm, h.all, h.first, h.last⟩
theorem eq_sign (c d : Nat) (x : Str) (hx : x = sg d) : decide (V.str (sg c) = V.str x) = decide (c = d) := by
  subst hx
  by_cases h : c = d
  · subst h
    rw [decide_eq_true rfl, decide_eq_true rfl]
  · rw [decide_eq_false h]
    refine decide_eq_false fun q => h ?_
    have : S [c] = S [d] := V.str.inj q
    exact (List.cons.inj (S_inj this)).1
/-- a list of ints is kept by a filter over a range -/
theorem range_filter_empty {f : Nat → Bool} {n : Nat} : ((List.range n).filter f).isEmpty = true ↔ ∀ k, k < n → ¬ f k = true := by
  rw [List.isEmpty_iff, List.filter_eq_nil_iff]
  exact ⟨fun h k hk => h k (List.mem_range.mpr hk), fun h k hk => h k (List.mem_range.mp hk)⟩
theorem range_filter_snoc (f : Nat → Bool) (n : Nat) : (List.range (n + 1)).filter f = (List.range n).filter f ++ if f n = true then [n] else [] := by
  rw [List.range_succ, List.filter_append, List.filter_cons]
  rfl
theorem filter_len_le (f : Nat → Bool) (n : Nat) : ((List.range n).filter f).length ≤ n := by
  have := List.length_filter_le f (List.range n)
  rw [List.length_range] at this
  exact this
/-- a comprehension over a range that keeps its own ints: a turn -/
theorem flt_yes {H0 H : Hp} {D : Addr} {f : Nat → Bool} {i : Nat} (hn : H0 D = none) (sm : Same H0 H) (hD : H D = some (.lst (((List.range i).filter f).map fun p => V.int (p : Nat)))) (hi : i ≤ 1000000) (hf : f i = true) {v : V} (hv : v = V.int (i : Nat)) :
    ∃ acc, H D = some (.lst acc) ∧ acc.length < sizeLine ∧ (Same H0 (upd H D (.lst (acc ++ [v]))) ∧ upd H D (.lst (acc ++ [v])) D = some (.lst (((List.range (i + 1)).filter f).map fun p => V.int (p : Nat)))) := by
  refine ⟨_, hD, ?_, fun b x e => ?_, ?_⟩
  · rw [List.length_map]
    exact Nat.lt_of_le_of_lt (Nat.le_trans (filter_len_le f i) hi) (by decide)
  · rw [upd_ne (ne_of_none e hn)]
    exact sm b x e
  · rw [upd_same, range_filter_snoc, if_pos hf, List.map_append, hv]
    rfl
theorem flt_no {H0 H : Hp} {D : Addr} {f : Nat → Bool} {i : Nat} (sm : Same H0 H) (hD : H D = some (.lst (((List.range i).filter f).map fun p => V.int (p : Nat)))) (hf : ¬ f i = true) :
    Same H0 H ∧ H D = some (.lst (((List.range (i + 1)).filter f).map fun p => V.int (p : Nat))) := by
  refine ⟨sm, ?_⟩
  rw [range_filter_snoc, if_neg hf, List.append_nil]
  exact hD
theorem map_int_nat (l : List Nat) : (l.map fun p => V.int (p : Nat)) = (l.map fun p => ((p : Nat) : Int)).map V.int := by rw [List.map_map]; rfl
theorem isEmpty_map {α β : Type} (f : α → β) (l : List α) : (l.map f).isEmpty = l.isEmpty := by cases l <;> rfl
/-- .. == [] of such a list -/
theorem eqD_nil {K : PySem.W.Frag} {H : Hp} {D p : Addr} {cs : List Int} (hD : H D = some (.lst (cs.map V.int))) (hp : H p = some (.lst [])) {Q : VK} (q : Q (.bl cs.isEmpty) H) : rEqD K (.ref D) (.ref p) H Q :=
  ⟨.list (cs.map PyData.int), .list [], .lst (SqL.of hD) (dp_ints _), .lst (SqL.of hp) .nil, shaped_ints _, by decide +kernel, by rw [eqv_ints_nil]; exact q⟩
theorem neD_nil {K : PySem.W.Frag} {H : Hp} {D p : Addr} {cs : List Int} (hD : H D = some (.lst (cs.map V.int))) (hp : H p = some (.lst [])) {Q : VK} (q : Q (.bl (!cs.isEmpty)) H) : rNeD K (.ref D) (.ref p) H Q :=
  ⟨.list (cs.map PyData.int), .list [], .lst (SqL.of hD) (dp_ints _), .lst (SqL.of hp) .nil, shaped_ints _, by decide +kernel, by rw [eqv_ints_nil]; exact q⟩
/-- texts as values -/
def strV (z : List Nat) : V := .str (S z)
end Sr
namespace Sr
theorem filter_any {α : Type} (f : α → Bool) : ∀ l : List α, (!(l.filter f).isEmpty) = l.any f
  | [] => rfl
  | x :: l => by
    rw [List.filter_cons, List.any_cons, ← filter_any f l]
    by_cases h : f x = true
    · rw [if_pos h, h]
      rfl
    · rw [if_neg h, Bool.eq_false_iff.mpr h, Bool.false_or]
end Sr
namespace Sr
open PySem PySem.Spec PyProof.Rows L2
/-! ### lists of texts as data -/
def strD (z : List Nat) : PyData := .str (S z)
theorem dp_strs {K : PySem.W.Frag} {H : Hp} : ∀ l : List (List Nat), DpAll K H (l.map strV) (l.map strD)
  | [] => .nil
  | c :: cs => .cons (.str _) (dp_strs cs)
theorem strOk_S {z : List Nat} (h : ∀ c ∈ z, c < 1114112) : PyData.strOk (S z) = true := by
  unfold PyData.strOk S
  rw [Array.all_eq_true']
  intro c hc
  exact decide_eq_true (h c (by simpa using hc))
def Cd (l : List (List Nat)) : Prop := ∀ z ∈ l, ∀ c ∈ z, c < 1114112
theorem lay_strs : ∀ {cs : List (List Nat)}, Cd cs → PyData.canLayAll0 (cs.map strD) = true
  | [], _ => by simp [PyData.canLayAll0]
  | c :: cs, hc => by
    have h := lay_strs (cs := cs) fun z hz => hc z (List.mem_cons_of_mem _ hz)
    rw [List.map_cons]
    simp only [strD, PyData.canLayAll0, PyData.canLay0, Bool.and_eq_true]
    exact ⟨strOk_S (hc c List.mem_cons_self), h⟩
theorem Cd.sds {m : Nat} {l : List (List Nat)} (h : ∀ sd ∈ l, Sd m sd) : Cd l := fun z hz c hc => by
  rcases (h z hz).all c hc with e | e <;> omega
theorem depth_strs : ∀ cs : List (List Nat), PyData.depthAll (cs.map strD) ≤ 1
  | [] => by simp [PyData.depthAll]
  | c :: cs => by
    have h := depth_strs cs
    simp [strD, PyData.depthAll, PyData.depth] at h ⊢
    omega
theorem shaped_strs {cs : List (List Nat)} (hc : Cd cs) : SeqAt.shaped (.list (cs.map strD)) = true := by
  unfold SeqAt.shaped
  rw [Bool.and_eq_true]
  refine ⟨lay_strs hc, decide_eq_true ?_⟩
  have h := depth_strs cs
  simp only [PyData.depth]
  omega
theorem eqv_strs_same {l : List (List Nat)} (hl : Cd l) : PyData.eqv (.list (l.map strD)) (.list (l.map strD)) = true := SeqAt.eqv_refl _ (lay_strs hl)
theorem ne_strs_same {K : PySem.W.Frag} {H : Hp} {a b : Addr} {l : List (List Nat)} (hl : Cd l) (ha : SqL K H a (l.map strV)) (hb : SqL K H b (l.map strV)) {Q : VK} (q : Q (.bl false) H) : rNeD K (.ref a) (.ref b) H Q :=
  ⟨.list (l.map strD), .list (l.map strD), .lst ha (dp_strs l), .lst hb (dp_strs l), shaped_strs hl, shaped_strs hl, by rw [eqv_strs_same hl]; exact q⟩
end Sr
namespace Sr
def ulK (sd z : List Nat) (p : Nat) (k : Nat) : Bool := decide (sd[k]? = some 35) && decide (z[p + k]? = some 47)
def ulL (sd z : List Nat) (p : Nat) : List Nat := (List.range sd.length).filter (ulK sd z p)
end Sr

namespace Sr
open PySem PySem.Spec PyProof.Rows L2
/-! ### sorted of tuples of data, any number -/
def rSortD (K : PySem.W.Frag) : List V → Hp → VK → Prop := fun vs H Q => ∃ (α : Type) (a : Addr) (as : List Addr) (L : List α) (f : α → List V) (g : α → List PyData), vs = [.ref a] ∧ SqL K H a (as.map V.ref) ∧ Tup f H as L ∧ (∀ p, DpAll K H (f p) (g p)) ∧
  PySem.W.AllAlike (L.map fun p => PyData.tuple (g p)) ∧ (∀ p ∈ L, g p ≠ []) ∧ (∀ p ∈ L, (PyData.tuple (g p)).depth ≤ 60) ∧
  ∀ (D : Addr) (as' : List Addr), H D = none → Tup f H as' (L.mergeSort (PySem.W.dataLe false fun p => PyData.tuple (g p))) → Q (.ref D) (upd H D (.lst (as'.map V.ref)))
theorem refs_of : ∀ {as : List Addr} {us : List Value}, Vals (as.map V.ref) us → us = as.map Value.ref
  | [], _, h => by
    cases h
    rfl
  | a :: as, _, h => by
    cases h with
    | cons h1 h2 =>
      have e1 : _ = Value.ref a := h1
      rw [e1, refs_of h2]
      rfl
theorem vals_refs : ∀ as : List Addr, Vals (as.map V.ref) (as.map Value.ref)
  | [] => .nil
  | a :: as => .cons rfl (vals_refs as)
theorem each_tup {α : Type} {f : α → List V} {H : Hp} : ∀ {as : List Addr} {L : List α}, Tup f H as L → PySem.W.EachIs (fun (v : Value) (p : α) => ∃ t, v = .ref t ∧ H t = some (.tup (f p))) (as.map Value.ref) L
  | [], [], _ => .nil
  | [], p :: L, h => by have := h.1; simp at this
  | a :: as, [], h => by have := h.1; simp at this
  | a :: as, p :: L, h => .cons ⟨a, rfl, h.2 0 a p rfl rfl⟩ (each_tup ⟨by simpa using h.1, fun j b q h1 h2 => h.2 (j + 1) b q h1 h2⟩)
theorem tup_each {α : Type} {f : α → List V} {H : Hp} : ∀ {us : List Value} {L : List α}, PySem.W.EachIs (fun (v : Value) (p : α) => ∃ t, v = .ref t ∧ H t = some (.tup (f p))) us L → ∃ as, us = as.map Value.ref ∧ Tup f H as L
  | [], [], _ => ⟨[], rfl, Tup.nil⟩
  | u :: us, p :: L, h => by
    cases h with
    | cons h1 h2 =>
      obtain ⟨t, rfl, ht⟩ := h1
      obtain ⟨as, rfl, hT⟩ := tup_each h2
      refine ⟨t :: as, rfl, by rw [List.length_cons, List.length_cons, hT.1], fun j b q k1 k2 => ?_⟩
      cases j with
      | zero =>
        have e1 : t = b := Option.some.inj k1
        have e2 : p = q := Option.some.inj k2
        subst e1 e2
        exact ht
      | succ j => exact hT.2 j b q k1 k2
theorem cr_sortD {X : Cx} (hu : X.A.units + 64 < cLine) : CallR X (.builtin "sorted") (rSortD X.K) := by
  intro pins s σ H vs us Q I r h
  obtain ⟨α, a, as, L, f, g, rfl, hs, hT, hg, hal, hne, hdep, q⟩ := h
  obtain ⟨its, rv, hl, hz⟩ := I.list hs
  obtain ⟨u, rfl, ru⟩ := vals1 r
  obtain rfl : u = Value.ref a := ru
  obtain rfl := refs_of rv
  have eR := each_tup hT
  have hlen : L.length ≤ sizeLine := by
    rw [← hT.1]
    rw [List.length_map] at hz
    exact hz
  refine PySem.W.sorted_data (enc := fun p => PyData.tuple (g p)) hl.isList eR (eR.mono fun v p h => ?_) hal (.inl fun d hd => ?_) hlen (fun p hp => ?_) fun out ho hout => ?_
  · obtain ⟨t, rfl, ht⟩ := h
    exact Dp.reads I (.tuple (g p)) (.ref t) (.ref t) (.tup (SqT.of ht) (hg p)) rfl
  · obtain ⟨p, hp, rfl⟩ := List.mem_map.mp hd
    cases hgp : g p with
    | nil => exact absurd hgp (hne p hp)
    | cons x xs => exact ⟨x, xs, rfl⟩
  · have := hdep p hp
    show X.A.units + 2 + (PyData.tuple (g p)).depth < cLine
    omega
  · obtain ⟨as', rfl, hT'⟩ := tup_each hout
    obtain ⟨e, he⟩ := PyProof.Rows.sortedAll_at s.heap (as.map Value.ref) (as'.map Value.ref).toArray
    have hD : H (s.heap.objs.size + 1) = none := I.hok.fresh (Nat.le_succ _)
    have new : ObjOk X.prog X.w (upd H (s.heap.objs.size + 1) (.lst (as'.map V.ref))) (PyProof.Rows.sortedAll s.heap (as.map Value.ref) (as'.map Value.ref).toArray) (s.heap.objs.size + 1) (.lst (as'.map V.ref)) :=
      ⟨by rw [List.length_map, hT'.1, List.length_mergeSort]; exact hlen, as'.map Value.ref, e, vals_refs as', he⟩
    exact ⟨.ref (s.heap.objs.size + 1), _, I.laid (t' := s.toks) (fun b o z => PyProof.Rows.sortedAll_old z) (Nat.le_succ _) new, rfl, q _ as' hD hT'⟩
end Sr

namespace Sr
open PySem PySem.Spec PyProof.Rows L2
/-! ### all ripe stretches of all lanes -/
open Classical in
noncomputable def ripL (s : Nat → Int) (n : Nat) : List (Nat × Nat) := if h : ∃ L, RL s n L then h.choose else []
theorem ripL_eq {s : Nat → Int} {n : Nat} {L : List (Nat × Nat)} (h : RL s n L) : ripL s n = L := by
  have h' : ∃ L, RL s n L := ⟨L, h⟩
  unfold ripL
  rw [dif_pos h']
  exact h'.choose_spec.unique h
abbrev Tri := Int × Int × Int
/-- the stretches of a lane that are worth told at least -/
noncomputable def rchL (g l told : Int) (o t : List Nat) (d : Int) : List Tri :=
  ((ripL (lev g l (likL o t d)) (likL o t d).length).filter fun p => decide (told ≤ lev g l (likL o t d) p.2 - lev g l (likL o t d) p.1)).map fun p => (d, ((bgn d + p.1 : Nat) : Int), ((bgn d + p.2 : Nat) : Int))
noncomputable def rchN (g l told : Int) (o t : List Nat) (d0 : Int) (n : Nat) : List Tri := (List.range n).flatMap fun k : Nat => rchL g l told o t (d0 + (k : Int))
def nsh (o t : List Nat) : Nat := ((t.length : Int) - (1 - (o.length : Int))).toNat
noncomputable def rchA (g l told : Int) (o t : List Nat) : List Tri := rchN g l told o t (1 - (o.length : Int)) (nsh o t)
theorem rchN_succ (g l told : Int) (o t : List Nat) (d0 : Int) (n : Nat) : rchN g l told o t d0 (n + 1) = rchN g l told o t d0 n ++ rchL g l told o t (d0 + (n : Int)) := by
  unfold rchN
  rw [List.range_succ, List.flatMap_append]
  simp
theorem rchN_cons (g l told : Int) (o t : List Nat) (d0 : Int) (n : Nat) : rchN g l told o t d0 (n + 1) = rchL g l told o t d0 ++ rchN g l told o t (d0 + 1) n := by
  unfold rchN
  rw [List.range_succ_eq_map, List.flatMap_cons, List.flatMap_map]
  congr 1
  · congr 1
    omega
  · congr 1
    funext k
    congr 1
    simp
    omega
theorem rchL_out (g l told : Int) (o t : List Nat) {d : Int} (h : likL o t d = []) : rchL g l told o t d = [] := by
  unfold rchL
  rw [h]
  have e : ripL (lev g l []) ([] : List Nat).length = [] := ripL_eq (RL.zero _)
  rw [e]
  rfl
theorem lik_out {o t : List Nat} {d : Int} (h : lkn o.length t.length d = 0) : likL o t d = [] := by
  have := likL_len o t d
  rw [h] at this
  exact List.length_eq_zero_iff.mp this
/-- two lanes more, at the ends, tell nothing -/
theorem rchA_wide (g l told : Int) (o t : List Nat) : rchN g l told o t (0 - (o.length : Int)) (((t.length : Int) + 1 - (0 - (o.length : Int))).toNat) = rchA g l told o t := by
  have e1 : ((t.length : Int) + 1 - (0 - (o.length : Int))).toNat = t.length + o.length + 1 := by omega
  rw [e1, rchN_cons, rchL_out g l told o t (lik_out (by unfold lkn bgn; omega)), List.nil_append]
  have e2 : (0 : Int) - (o.length : Int) + 1 = 1 - (o.length : Int) := by omega
  rw [e2]
  unfold rchA nsh
  by_cases h : t.length + o.length = 0
  · have e3 : ((t.length : Int) - (1 - (o.length : Int))).toNat = 0 := by omega
    rw [e3, h]
  · have e3 : t.length + o.length = ((t.length : Int) - (1 - (o.length : Int))).toNat + 1 := by omega
    rw [e3, rchN_succ, rchL_out g l told o t (lik_out (by unfold lkn bgn; omega)), List.append_nil]
/-- the order of triples -/
def TLt (p q : Tri) : Prop := p.1 < q.1 ∨ (p.1 = q.1 ∧ p.2.1 < q.2.1)
theorem rchL_mem {g l told : Int} {o t : List Nat} {d : Int} {p : Tri} (h : p ∈ rchL g l told o t d) : p.1 = d := by
  unfold rchL at h
  obtain ⟨q, _, rfl⟩ := List.mem_map.mp h
  rfl
theorem ripL_lt (s : Nat → Int) (n : Nat) : (ripL s n).Pairwise (fun p q => p.1 < q.1) := by
  unfold ripL
  split
  · rename_i h
    exact h.choose_spec.lt
  · exact .nil
theorem rchL_lt (g l told : Int) (o t : List Nat) (d : Int) : (rchL g l told o t d).Pairwise TLt := by
  unfold rchL
  rw [List.pairwise_map]
  refine ((ripL_lt _ _).filter _).imp fun {p q} h => ?_
  right
  exact ⟨rfl, by show ((bgn d + p.1 : Nat) : Int) < ((bgn d + q.1 : Nat) : Int); omega⟩
theorem rchN_lt (g l told : Int) (o t : List Nat) (d0 : Int) : ∀ n, (rchN g l told o t d0 n).Pairwise TLt ∧ ∀ p ∈ rchN g l told o t d0 n, p.1 < d0 + (n : Int)
  | 0 => ⟨(show ([] : List Tri).Pairwise TLt from .nil), fun p h => by
    have h' : p ∈ ([] : List Tri) := h
    cases h'⟩
  | n + 1 => by
    obtain ⟨h1, h2⟩ := rchN_lt g l told o t d0 n
    rw [rchN_succ]
    refine ⟨?_, fun p hp => ?_⟩
    · rw [List.pairwise_append]
      refine ⟨h1, rchL_lt g l told o t _, fun p hp q hq => ?_⟩
      left
      rw [rchL_mem hq]
      exact h2 p hp
    · rcases List.mem_append.mp hp with z | z
      · have := h2 p z
        omega
      · rw [rchL_mem z]
        omega
theorem rchN_mem {g l told : Int} {o t : List Nat} {d0 : Int} {n : Nat} {p : Tri} : p ∈ rchN g l told o t d0 n ↔ ∃ k : Nat, k < n ∧ p ∈ rchL g l told o t (d0 + (k : Int)) := by
  unfold rchN
  rw [List.mem_flatMap]
  constructor
  · rintro ⟨k, h1, h2⟩
    exact ⟨k, List.mem_range.mp h1, h2⟩
  · rintro ⟨k, h1, h2⟩
    exact ⟨k, List.mem_range.mpr h1, h2⟩
/-- the other way round -/
def turn (p : Tri) : Tri := (0 - p.1, p.2.1 + p.1, p.2.2 + p.1)
theorem lik_turn (o t : List Nat) (d : Int) : likL t o (0 - d) = likL o t d := by
  rw [likL_eq, likL_eq]
  have e : lkn t.length o.length (0 - d) = lkn o.length t.length d := by unfold lkn bgn; omega
  rw [e]
  refine List.map_congr_left fun k hk => ?_
  have hk' := List.mem_range.mp hk
  unfold lk1
  have e1 : (((bgn (0 - d) + k : Nat) : Int) + (0 - d)).toNat = bgn d + k := by unfold bgn; omega
  have e2 : (((bgn d + k : Nat) : Int) + d).toNat = bgn (0 - d) + k := by unfold bgn; omega
  rw [e1, e2]
  by_cases h : t[bgn (0 - d) + k]? = o[bgn d + k]?
  · rw [if_pos h, if_pos h.symm]
  · rw [if_neg h, if_neg fun q => h q.symm]
theorem rchL_turn (g l told : Int) (o t : List Nat) (d : Int) : rchL g l told t o (0 - d) = (rchL g l told o t d).map turn := by
  unfold rchL
  rw [lik_turn, List.map_map]
  refine List.map_congr_left fun p _ => ?_
  show ((0 - d : Int), ((bgn (0 - d) + p.1 : Nat) : Int), ((bgn (0 - d) + p.2 : Nat) : Int)) = turn (d, ((bgn d + p.1 : Nat) : Int), ((bgn d + p.2 : Nat) : Int))
  unfold turn bgn
  simp only [Prod.mk.injEq, true_and]
  omega
theorem rchA_turn (g l told : Int) (o t : List Nat) (p : Tri) : p ∈ rchA g l told t o ↔ p ∈ (rchA g l told o t).map turn := by
  unfold rchA
  rw [rchN_mem, List.mem_map]
  have en : nsh t o = nsh o t := by unfold nsh; omega
  constructor
  · rintro ⟨k, hk, h⟩
    rw [en] at hk
    have e : 1 - (t.length : Int) + (k : Int) = 0 - (1 - (o.length : Int) + ((nsh o t - 1 - k : Nat) : Int)) := by unfold nsh at hk ⊢; omega
    rw [e, rchL_turn] at h
    obtain ⟨q, hq, rfl⟩ := List.mem_map.mp h
    exact ⟨q, rchN_mem.mpr ⟨nsh o t - 1 - k, by omega, hq⟩, rfl⟩
  · rintro ⟨q, hq, rfl⟩
    obtain ⟨k, hk, h⟩ := rchN_mem.mp hq
    have e : 1 - (t.length : Int) + ((nsh o t - 1 - k : Nat) : Int) = 0 - (1 - (o.length : Int) + (k : Int)) := by unfold nsh at hk ⊢; omega
    refine ⟨nsh o t - 1 - k, by rw [en]; omega, ?_⟩
    rw [e, rchL_turn]
    exact List.mem_map.mpr ⟨q, h, rfl⟩
theorem turn_inj {p q : Tri} (h : turn p = turn q) : p = q := by
  obtain ⟨a, b, c⟩ := p
  obtain ⟨a', b', c'⟩ := q
  unfold turn at h
  simp only [Prod.mk.injEq] at h ⊢
  omega
/-- lists that go up strictly and hold the same are one -/
theorem same_up {α : Type} {R : α → α → Prop} (asym : ∀ x y, R x y → ¬ R y x) : ∀ {L M : List α}, L.Pairwise R → M.Pairwise R → (∀ p, p ∈ L ↔ p ∈ M) → L = M
  | [], [], _, _, _ => rfl
  | [], q :: M, _, _, h => by
    have := (h q).mpr (List.mem_cons_self ..)
    cases this
  | p :: L, [], _, _, h => by
    have := (h p).mp (List.mem_cons_self ..)
    cases this
  | p :: L, q :: M, h1, h2, h => by
    rw [List.pairwise_cons] at h1 h2
    have e : p = q := by
      rcases List.mem_cons.mp ((h p).mp (List.mem_cons_self ..)) with z | z
      · exact z
      · rcases List.mem_cons.mp ((h q).mpr (List.mem_cons_self ..)) with z2 | z2
        · exact z2.symm
        · exact absurd (h1.1 q z2) (asym _ _ (h2.1 p z))
    subst e
    rw [same_up asym h1.2 h2.2 fun x => ⟨fun hx => ?_, fun hx => ?_⟩]
    · rcases List.mem_cons.mp ((h x).mp (List.mem_cons_of_mem _ hx)) with z | z
      · have := h1.1 x hx
        rw [z] at this
        exact absurd this (asym _ _ this)
      · exact z
    · rcases List.mem_cons.mp ((h x).mpr (List.mem_cons_of_mem _ hx)) with z | z
      · have := h2.1 x hx
        rw [z] at this
        exact absurd this (asym _ _ this)
      · exact z
def triV (p : Tri) : List V := [.int p.1, .int p.2.1, .int p.2.2]
def triI (p : Tri) : List Int := [p.1, p.2.1, p.2.2]
def triD (p : Tri) : List PyData := (triI p).map .int
theorem tri_dp {K : PySem.W.Frag} {H : Hp} (p : Tri) : DpAll K H (triV p) (triD p) := .cons (.int _) (.cons (.int _) (.cons (.int _) .nil))
/-- sorted of tuples of ints, by the ints' own order -/
theorem dataLe_ints {α : Type} (h : α → List Int) : PySem.W.dataLe false (fun p : α => PyData.tuple ((h p).map .int)) = fun p q => !decide (h q < h p) := by
  funext p q
  show (!PySem.W.dataLt (.tuple ((h q).map .int)) (.tuple ((h p).map .int))) = _
  rw [PySem.W.dataLt_tuple]
  show (!PySem.W.rowLt ((h q).map .int) ((h p).map .int)) = _
  rw [PySem.W.dataLt_ints]
end Sr
namespace Sr
open PySem PySem.Spec PyProof.Rows L2
/-! ### the law's own way to the ripe ones: by beginnings, longer ones ahead -/
theorem lex2 (a b c d : Int) : [a, b] < [c, d] ↔ a < c ∨ (a = c ∧ b < d) := by
  rw [List.cons_lt_cons_iff, List.cons_lt_cons_iff]
  simp
theorem lex3 (a b c a' b' c' : Int) : [a, b, c] < [a', b', c'] ↔ a < a' ∨ (a = a' ∧ (b < b' ∨ (b = b' ∧ c < c'))) := by
  rw [List.cons_lt_cons_iff, List.cons_lt_cons_iff, List.cons_lt_cons_iff]
  simp
def beI (p : Nat × Nat) : List Int := [(p.1 : Int), 0 - (p.2 : Int)]
def beV (p : Nat × Nat) : List V := [.int (p.1 : Nat), .int (0 - ((p.2 : Nat) : Int))]
def Ahd (p q : Nat × Nat) : Prop := p.1 < q.1 ∨ (p.1 = q.1 ∧ q.2 < p.2)
theorem le_total {α : Type} (h : α → List Int) : PySem.W.TotalLe (fun p q : α => !decide (h q < h p)) := by
  rw [← dataLe_ints h]
  exact PySem.W.sortLe_total _ _ _
theorem sorted_ahd {M : List (Nat × Nat)} (hn : M.Nodup) : (M.mergeSort fun p q => !decide (beI q < beI p)).Pairwise Ahd := by
  have h1 := PySem.W.sort_pairwise (le_total beI) M
  have h2 : (M.mergeSort fun p q => !decide (beI q < beI p)).Nodup := (List.mergeSort_perm M _).nodup_iff.mpr hn
  have h3 := h1.and h2
  refine h3.imp fun {p q} h => ?_
  obtain ⟨h4, h5⟩ := h
  have h6 : ¬ (beI q < beI p) := by simpa using h4
  unfold beI at h6
  rw [lex2] at h6
  unfold Ahd
  by_cases hz : p.1 = q.1
  · have : p.2 ≠ q.2 := fun e => h5 (Prod.ext hz e)
    omega
  · omega
structure GI (s : Nat → Int) (n : Nat) (P F : List (Nat × Nat)) (last : Nat) : Prop where
  ripe : ∀ p ∈ F, Ripe s n p.1 p.2
  all : ∀ p ∈ P, Ripe s n p.1 p.2 → p ∈ F
  lt : F.Pairwise (fun p q => p.1 ≤ q.1 ∧ p ≠ q)
  sub : ∀ p ∈ F, p ∈ P
  top : ∀ p ∈ P, p.2 ≤ last
  end_ : last = 0 ∨ ∃ p ∈ F, p.2 = last
theorem GI.zero (s : Nat → Int) (n : Nat) : GI s n [] [] 0 := ⟨(fun p h => nomatch h), (fun p h => nomatch h), .nil, (fun p h => nomatch h), (fun p h => nomatch h), .inl rfl⟩
theorem GI.yes {s : Nat → Int} {n last : Nat} {P F R : List (Nat × Nat)} {p : Nat × Nat} (h : GI s n P F last) (hS : (P ++ p :: R).Pairwise Ahd) (hall : ∀ b e, St s b e → e ≤ n → (b, e) ∈ P ++ p :: R) (hst : St s p.1 p.2 ∧ p.2 ≤ n) (hl : last < p.2) :
    GI s n (P ++ [p]) (F ++ [p]) p.2 := by
  rw [List.pairwise_append, List.pairwise_cons] at hS
  obtain ⟨h1, ⟨h2, h3⟩, h4⟩ := hS
  have hr : Ripe s n p.1 p.2 := ⟨hst.1, hst.2, fun b' e' st he hb hi => by
    rcases List.mem_append.mp (hall b' e' st he) with z | z
    · have := h.top _ z
      simp only at this
      omega
    · rcases List.mem_cons.mp z with z | z
      · exact ⟨congrArg Prod.fst z, congrArg Prod.snd z⟩
      · have := h2 _ z
        unfold Ahd at this
        simp only at this
        omega⟩
  refine ⟨fun q hq => ?_, fun q hq r => ?_, ?_, fun q hq => ?_, fun q hq => ?_, .inr ⟨p, by simp, rfl⟩⟩
  · rcases List.mem_append.mp hq with z | z
    · exact h.ripe q z
    · rw [List.mem_singleton.mp z]
      exact hr
  · rcases List.mem_append.mp hq with z | z
    · exact List.mem_append.mpr (.inl (h.all q z r))
    · rw [List.mem_singleton.mp z]
      simp
  · rw [List.pairwise_append]
    refine ⟨h.lt, by simp, fun q hq q' hq' => ?_⟩
    rw [List.mem_singleton.mp hq']
    have := h4 q (h.sub q hq) p (List.mem_cons_self ..)
    unfold Ahd at this
    refine ⟨by omega, fun e => ?_⟩
    subst e
    omega
  · rcases List.mem_append.mp hq with z | z
    · exact List.mem_append.mpr (.inl (h.sub q z))
    · exact List.mem_append.mpr (.inr z)
  · rcases List.mem_append.mp hq with z | z
    · have := h.top q z
      omega
    · rw [List.mem_singleton.mp z]
      exact Nat.le_refl _
theorem GI.no {s : Nat → Int} {n last : Nat} {P F R : List (Nat × Nat)} {p : Nat × Nat} (h : GI s n P F last) (hS : (P ++ p :: R).Pairwise Ahd) (hst : St s p.1 p.2) (hl : ¬ last < p.2) : GI s n (P ++ [p]) F last := by
  rw [List.pairwise_append, List.pairwise_cons] at hS
  obtain ⟨h1, ⟨h2, h3⟩, h4⟩ := hS
  refine ⟨h.ripe, fun q hq r => ?_, h.lt, fun q hq => List.mem_append.mpr (.inl (h.sub q hq)), fun q hq => ?_, h.end_⟩
  · rcases List.mem_append.mp hq with z | z
    · exact h.all q z r
    · have e := List.mem_singleton.mp z
      subst e
      have := hst.1
      rcases h.end_ with k | ⟨u, hu, k⟩
      · omega
      · have ha := h4 u (h.sub u hu) q (List.mem_cons_self ..)
        unfold Ahd at ha
        have ru := h.ripe u hu
        have := r.2.2 u.1 u.2 ru.1 ru.2.1 (by omega) (by omega)
        omega
  · rcases List.mem_append.mp hq with z | z
    · exact h.top q z
    · rw [List.mem_singleton.mp z]
      omega
theorem GI.done {s : Nat → Int} {n last : Nat} {P F : List (Nat × Nat)} (h : GI s n P F last) (hall : ∀ b e, St s b e → e ≤ n → (b, e) ∈ P) : RL s n F :=
  RL.of_lt h.ripe (fun b e r => h.all (b, e) (hall b e r.1 r.2.1) r) h.lt
theorem Lex_nodup {M : List (Nat × Nat)} (h : M.Pairwise Lex) : M.Nodup := h.imp fun {p q} hpq e => by
  subst e
  rcases hpq with z | z <;> omega
end Sr
namespace Sr
open PySem PySem.Spec PyProof.Rows L2
theorem alike_ints : ∀ xs ys : List Int, PySem.W.alikeAll (xs.map .int) (ys.map .int) = true
  | [], _ => by simp [PySem.W.alikeAll]
  | x :: xs, [] => by simp [PySem.W.alikeAll]
  | x :: xs, y :: ys => by
    have h := alike_ints xs ys
    simp [PySem.W.alikeAll, PySem.W.alike] at h ⊢
    exact h
theorem allAlike_ints {α : Type} (h : α → List Int) (L : List α) : PySem.W.AllAlike (L.map fun p => PyData.tuple ((h p).map .int)) := by
  intro d hd d' hd'
  obtain ⟨p, _, rfl⟩ := List.mem_map.mp hd
  obtain ⟨q, _, rfl⟩ := List.mem_map.mp hd'
  show PySem.W.alikeAll _ _ = true
  exact alike_ints _ _
theorem depth_tup_ints (xs : List Int) : (PyData.tuple (xs.map .int)).depth ≤ 2 := by
  have h := depth_ints xs
  simp only [PyData.depth]
  omega
theorem plc_first {m n : Nat} {d : Int} (h : 0 < lkn m n d) : (plc m n d)[0]?.getD 0 = bgn d := by
  rw [plc_eq]
  obtain ⟨k, hk⟩ : ∃ k, lkn m n d = k + 1 := ⟨lkn m n d - 1, by omega⟩
  rw [hk, List.range_succ_eq_map]
  simp
theorem rchL_len (g l told : Int) (o t : List Nat) (d : Int) : (rchL g l told o t d).length ≤ o.length := by
  unfold rchL
  rw [List.length_map]
  refine Nat.le_trans (List.length_filter_le _ _) ?_
  unfold ripL
  split
  · rename_i h
    exact Nat.le_trans h.choose_spec.len (likL_le o t d)
  · exact Nat.zero_le _
theorem rchN_len (g l told : Int) (o t : List Nat) (d0 : Int) : ∀ n, (rchN g l told o t d0 n).length ≤ n * o.length
  | 0 => Nat.zero_le _
  | n + 1 => by
    rw [rchN_succ, List.length_append, Nat.succ_mul]
    have h1 := rchN_len g l told o t d0 n
    have h2 := rchL_len g l told o t (d0 + (n : Int))
    omega
/-- the part of a lane's list that the first j of its ripe ones make -/
def rchP (g l told : Int) (o t : List Nat) (d : Int) (M : List (Nat × Nat)) : List Tri :=
  (M.filter fun p => decide (told ≤ lev g l (likL o t d) p.2 - lev g l (likL o t d) p.1)).map fun p => (d, ((bgn d + p.1 : Nat) : Int), ((bgn d + p.2 : Nat) : Int))
theorem rchP_all {g l told : Int} {o t : List Nat} {d : Int} {L : List (Nat × Nat)} (h : RL (lev g l (likL o t d)) (likL o t d).length L) : rchP g l told o t d L = rchL g l told o t d := by
  unfold rchP rchL
  rw [ripL_eq h]
theorem rchP_snoc (g l told : Int) (o t : List Nat) (d : Int) (M : List (Nat × Nat)) (p : Nat × Nat) :
    rchP g l told o t d (M ++ [p]) = rchP g l told o t d M ++ if told ≤ lev g l (likL o t d) p.2 - lev g l (likL o t d) p.1 then [(d, ((bgn d + p.1 : Nat) : Int), ((bgn d + p.2 : Nat) : Int))] else [] := by
  unfold rchP
  rw [List.filter_append, List.map_append, List.filter_cons]
  by_cases h : told ≤ lev g l (likL o t d) p.2 - lev g l (likL o t d) p.1
  · rw [if_pos h, if_pos (decide_eq_true h)]
    rfl
  · rw [if_neg h, if_neg (by rw [decide_eq_false h]; exact Bool.false_ne_true)]
    rfl
theorem rchP_len (g l told : Int) (o t : List Nat) (d : Int) (M : List (Nat × Nat)) : (rchP g l told o t d M).length ≤ M.length := by
  unfold rchP
  rw [List.length_map]
  exact List.length_filter_le _ _
theorem Gd_tris (L : List Tri) (h : L.length ≤ 100000) : Gd (.list (L.map fun p => PyData.tuple (triD p))) := by
  refine .lst _ (by rw [List.length_map]; exact h) fun d hd => ?_
  obtain ⟨p, _, rfl⟩ := List.mem_map.mp hd
  refine .tup _ (by show 3 ≤ 100000; omega) fun e he => ?_
  obtain ⟨i, _, rfl⟩ := List.mem_map.mp he
  exact .int i
theorem depth_tris (L : List Tri) : PyData.depthAll (L.map fun p => PyData.tuple (triD p)) ≤ 2 := by
  induction L with
  | nil => simp [PyData.depthAll]
  | cons p L ih =>
    have h := depth_tup_ints (triI p)
    rw [List.map_cons, PyData.depthAll]
    exact Nat.max_le.mpr ⟨h, ih⟩
theorem lay_tris : ∀ L : List Tri, PyData.canLayAll0 (L.map fun p => PyData.tuple (triD p)) = true
  | [] => by simp [PyData.canLayAll0]
  | p :: L => by
    have h1 := lay_tris L
    have h2 := lay_ints (triI p)
    rw [List.map_cons]
    simp only [PyData.canLayAll0, PyData.canLay0, Bool.and_eq_true]
    exact ⟨h2, h1⟩
theorem shaped_tris (L : List Tri) : SeqAt.shaped (.list (L.map fun p => PyData.tuple (triD p))) = true := by
  unfold SeqAt.shaped
  rw [Bool.and_eq_true]
  refine ⟨lay_tris L, decide_eq_true ?_⟩
  have h := depth_tris L
  simp only [PyData.depth]
  omega
theorem eqv_tris (L : List Tri) : PyData.eqv (.list (L.map fun p => PyData.tuple (triD p))) (.list (L.map fun p => PyData.tuple (triD p))) = true := SeqAt.eqv_refl _ (lay_tris L)
end Sr
namespace Sr
open PySem PySem.Spec PyProof.Rows L2
/-! ### one lane's, each with its worth -/
def lrP (g l told : Int) (o t : List Nat) (d : Int) (M : List (Nat × Nat)) : List Tri :=
  (M.filter fun p => decide (told ≤ lev g l (likL o t d) p.2 - lev g l (likL o t d) p.1)).map fun p => (((bgn d + p.1 : Nat) : Int), ((bgn d + p.2 : Nat) : Int), lev g l (likL o t d) p.2 - lev g l (likL o t d) p.1)
noncomputable def lrL (g l told : Int) (o t : List Nat) (d : Int) : List Tri := lrP g l told o t d (ripL (lev g l (likL o t d)) (likL o t d).length)
theorem lrP_all {g l told : Int} {o t : List Nat} {d : Int} {L : List (Nat × Nat)} (h : RL (lev g l (likL o t d)) (likL o t d).length L) : lrP g l told o t d L = lrL g l told o t d := by
  unfold lrL
  rw [ripL_eq h]
theorem lrP_snoc (g l told : Int) (o t : List Nat) (d : Int) (M : List (Nat × Nat)) (p : Nat × Nat) :
    lrP g l told o t d (M ++ [p]) = lrP g l told o t d M ++ if told ≤ lev g l (likL o t d) p.2 - lev g l (likL o t d) p.1 then [(((bgn d + p.1 : Nat) : Int), ((bgn d + p.2 : Nat) : Int), lev g l (likL o t d) p.2 - lev g l (likL o t d) p.1)] else [] := by
  unfold lrP
  rw [List.filter_append, List.map_append]
  congr 1
  rw [List.filter_cons, List.filter_nil]
  by_cases h : told ≤ lev g l (likL o t d) p.2 - lev g l (likL o t d) p.1
  · rw [if_pos (decide_eq_true h), if_pos h]
    rfl
  · rw [if_neg (by simpa using h), if_neg h]
    rfl
theorem lrP_len (g l told : Int) (o t : List Nat) (d : Int) (M : List (Nat × Nat)) : (lrP g l told o t d M).length ≤ M.length := by
  unfold lrP
  rw [List.length_map]
  exact List.length_filter_le _ _
theorem rchL_lr (g l told : Int) (o t : List Nat) (d : Int) : rchL g l told o t d = (lrL g l told o t d).map fun q => (d, q.1, q.2.1) := by
  unfold rchL lrL lrP
  rw [List.map_map]
  rfl
theorem lrL_len (g l told : Int) (o t : List Nat) (d : Int) : (lrL g l told o t d).length ≤ o.length := by
  have h := rchL_len g l told o t d
  rw [rchL_lr, List.length_map] at h
  exact h
end Sr

namespace Sr
open PySem PySem.Spec PyProof.Rows L2
/-! ### texts in which no seed fits; what bar tells -/
def Free (sds : List (List Nat)) (z : List Nat) : Prop := seededB sds z = false
def Ones (sds : List (List Nat)) : Prop := ∀ sd ∈ sds, 1 ≤ sd.length
theorem free_iff {sds : List (List Nat)} {z : List Nat} (h1 : Ones sds) : Free sds z ↔ ∀ sd ∈ sds, ∀ p : Nat, p + sd.length ≤ z.length → ∃ k, k < sd.length ∧ sd[k]? = some 35 ∧ z[p + k]? = some 47 := by
  unfold Free seededB
  constructor
  · intro h sd hsd p hp
    rw [List.any_eq_false] at h
    have h2 := h sd hsd
    rw [List.any_eq_true] at h2
    have h3 : ¬ fitsB sd z (p : Int) = true := fun h4 => h2 ⟨p, List.mem_range.mpr (by have := h1 sd hsd; omega), h4⟩
    rw [fitsB_iff (h1 sd hsd)] at h3
    refine Classical.byContradiction fun hn => h3 ⟨by omega, by omega, fun k hk hc => hn ⟨k, hk, hc.1, ?_⟩⟩
    have : ((p : Nat) : Int).toNat = p := by omega
    rw [this] at hc
    exact hc.2
  · intro h
    rw [List.any_eq_false]
    intro sd hsd h2
    obtain ⟨p, _, h4⟩ := List.any_eq_true.mp h2
    obtain ⟨_, h5, h6⟩ := (fitsB_iff (h1 sd hsd)).mp h4
    have e : ((p : Nat) : Int).toNat = p := by omega
    rw [e] at h6
    obtain ⟨k, hk, e1, e2⟩ := h sd hsd p (by omega)
    exact h6 k hk ⟨e1, e2⟩
theorem Free.mid {sds : List (List Nat)} (h1 : Ones sds) {a b c : List Nat} (h : Free sds (a ++ b ++ c)) : Free sds b := by
  rw [free_iff h1] at h ⊢
  intro sd hsd p hp
  obtain ⟨k, hk, e1, e2⟩ := h sd hsd (a.length + p) (by simp only [List.length_append]; omega)
  refine ⟨k, hk, e1, ?_⟩
  rw [List.getElem?_append_left (by simp only [List.length_append]; omega), List.getElem?_append_right (by omega)] at e2
  rw [← e2]
  congr 1
  omega
theorem Free.tail {sds : List (List Nat)} (h1 : Ones sds) {c : Nat} {z : List Nat} (h : Free sds (c :: z)) : Free sds z :=
  Free.mid h1 (a := [c]) (c := []) (by simpa using h)
def rp (r : List Nat) (k : Nat) : List Nat := (List.replicate k r).flatten
theorem rp_succ (r : List Nat) (k : Nat) : rp r (k + 1) = r ++ rp r k := by
  unfold rp
  rw [List.replicate_succ, List.flatten_cons]
theorem rp_get (r : List Nat) : ∀ (k i : Nat), i < k * r.length → (rp r k)[i]? = r[i % r.length]?
  | 0, i, h => by omega
  | k + 1, i, h => by
    rw [rp_succ]
    by_cases hi : i < r.length
    · rw [List.getElem?_append_left hi, Nat.mod_eq_of_lt hi]
    · rw [List.getElem?_append_right (by omega), rp_get r k (i - r.length) (by rw [Nat.succ_mul] at h; omega), show i % r.length = (i - r.length) % r.length from Nat.mod_eq_sub_mod (by omega)]
theorem rp_len (r : List Nat) (k : Nat) : (rp r k).length = k * r.length := rep_le r k
theorem wor_rp (g l : Int) (r : List Nat) : ∀ k : Nat, wor g l (rp r k) = k * wor g l r
  | 0 => by simp [rp, wor]
  | k + 1 => by
    rw [rp_succ, wor_app, wor_rp g l r k]
    rw [Int.natCast_add, Int.add_mul]
    omega
theorem Lk.app {a b : List Nat} (ha : Lk a) (hb : Lk b) : Lk (a ++ b) := fun c hc => (List.mem_append.mp hc).elim (ha c) (hb c)
theorem Lk.rp {r : List Nat} (hr : Lk r) : ∀ k, Lk (rp r k)
  | 0 => fun c hc => by simp [Sr.rp] at hc
  | k + 1 => by
    rw [rp_succ]
    exact hr.app (Lk.rp hr k)
theorem Lk.rep (n c : Nat) (hc : c = 61 ∨ c = 47) : Lk (List.replicate n c) := fun x hx => by
  rw [List.eq_of_mem_replicate hx]
  exact hc
/-- = ahead of / -/
def lexB : List Nat → List Nat → Bool
  | [], _ => true
  | _ :: _, [] => false
  | c :: a, d :: b => decide (d < c) || (decide (c = d) && lexB a b)
theorem lexB_refl : ∀ a : List Nat, lexB a a = true
  | [] => rfl
  | c :: a => by simp [lexB, lexB_refl a]
theorem lexB_anti : ∀ {a b : List Nat}, a.length = b.length → lexB a b = true → lexB b a = true → a = b
  | [], [], _, _, _ => rfl
  | [], _ :: _, h, _, _ => by simp at h
  | _ :: _, [], h, _, _ => by simp at h
  | c :: a, d :: b, h, h1, h2 => by
    simp only [lexB, Bool.or_eq_true, Bool.and_eq_true, decide_eq_true_eq] at h1 h2
    rcases h1 with h1 | ⟨e, h1⟩
    · rcases h2 with h2 | ⟨e2, _⟩ <;> omega
    · subst e
      rcases h2 with h2 | ⟨_, h2⟩
      · omega
      · rw [lexB_anti (by simpa using h) h1 h2]
def Sle (a b : List Nat) : Prop := a.length < b.length ∨ (a.length = b.length ∧ lexB a b = true)
theorem Sle.anti {a b : List Nat} (h1 : Sle a b) (h2 : Sle b a) : a = b := by
  rcases h1 with h1 | ⟨e, h1⟩
  · rcases h2 with h2 | ⟨e2, _⟩ <;> omega
  · rcases h2 with h2 | ⟨_, h2⟩
    · omega
    · exact lexB_anti e h1 h2
inductive BarR where
  | bar (w : Int) (z : List Nat)
  | ring (a r : List Nat)
structure IsBar (sds : List (List Nat)) (g l w : Int) (z : List Nat) : Prop where
  lk : Lk z
  free : Free sds z
  is : wor g l z = w
  max : ∀ z', Lk z' → Free sds z' → wor g l z' ≤ w
  first : ∀ z', Lk z' → Free sds z' → wor g l z' = w → Sle z z'
  len : z.length ≤ 1000
structure IsRing (sds : List (List Nat)) (g l : Int) (a r : List Nat) : Prop where
  lka : Lk a
  lkr : Lk r
  free : ∀ k, Free sds (a ++ rp r k)
  pos : 0 < wor g l r
  lena : a.length ≤ 1000
  lenr : r.length ≤ 1000
def BarOk (sds : List (List Nat)) (g l : Int) : BarR → Prop
  | .bar w z => IsBar sds g l w z
  | .ring a r => IsRing sds g l a r
theorem IsBar.uniq {sds : List (List Nat)} {g l w w' : Int} {z z' : List Nat} (h : IsBar sds g l w z) (h' : IsBar sds g l w' z') : w = w' ∧ z = z' := by
  have e1 := h.max z' h'.lk h'.free
  have e2 := h'.max z h.lk h.free
  rw [h'.is] at e1
  rw [h.is] at e2
  have e : w = w' := by omega
  subst e
  exact ⟨rfl, (h.first z' h'.lk h'.free h'.is).anti (h'.first z h.lk h.free h.is)⟩
/-- worths of the texts in which no seed fits grow without end -/
def Grows (sds : List (List Nat)) (g l : Int) : Prop := ∀ B : Nat, ∃ z, Lk z ∧ Free sds z ∧ (B : Int) < wor g l z
theorem IsRing.grows {sds : List (List Nat)} {g l : Int} {a r : List Nat} (h : IsRing sds g l a r) : Grows sds g l := fun B => by
  refine ⟨a ++ rp r (B + (-(wor g l a)).toNat + 1), h.lka.app (h.lkr.rp _), h.free _, ?_⟩
  rw [wor_app, wor_rp]
  have h1 := h.pos
  have h2 : ((B + (-(wor g l a)).toNat + 1 : Nat) : Int) * 1 ≤ ((B + (-(wor g l a)).toNat + 1 : Nat) : Int) * wor g l r := Int.mul_le_mul_of_nonneg_left (by omega) (by omega)
  omega
theorem IsBar.stops {sds : List (List Nat)} {g l w : Int} {z : List Nat} (h : IsBar sds g l w z) : ¬ Grows sds g l := fun hg => by
  obtain ⟨z', h1, h2, h3⟩ := hg w.toNat
  have := h.max z' h1 h2
  omega
/-! ### bars known by hand -/
def ones (m : Nat) : List Nat := List.replicate m 35
def gaps (m : Nat) : List Nat := 35 :: (List.replicate (m - 2) 45 ++ [35])
structure HB (sds : List (List Nat)) (r0 r1 : Int) (b : Nat) : Prop where
  bound : ∀ g l : Int, 1 ≤ g → 1 ≤ l → r0 * g - r1 * l ≤ 0 → ∀ z, Lk z → Free sds z → wor g l z ≤ g * (b : Nat)
  own : Free sds (List.replicate b 61)
  grow : ∀ g l : Int, 1 ≤ g → 1 ≤ l → 0 < r0 * g - r1 * l → Grows sds g l
theorem wor_rep61 (g l : Int) : ∀ n : Nat, wor g l (List.replicate n 61) = g * (n : Nat)
  | 0 => by simp [wor]
  | n + 1 => by
    rw [List.replicate_succ]
    show (if (61 : Nat) = 61 then g else -l) + wor g l (List.replicate n 61) = _
    rw [wor_rep61 g l n, if_pos rfl, Int.natCast_add, Int.mul_add]
    omega
theorem wor_rep47 (g l : Int) : ∀ n : Nat, wor g l (List.replicate n 47) = -(l * (n : Nat))
  | 0 => by simp [wor]
  | n + 1 => by
    rw [List.replicate_succ]
    show (if (47 : Nat) = 61 then g else -l) + wor g l (List.replicate n 47) = _
    rw [wor_rep47 g l n, if_neg (by decide), Int.natCast_add, Int.mul_add]
    omega
theorem wor_le_count (g l : Int) (hg : 1 ≤ g) (hl : 1 ≤ l) : ∀ z : List Nat, Lk z → wor g l z ≤ g * ((z.count 61 : Nat) : Int) := fun z hz => by
  have := wor_count g l hz
  have h0 : 0 ≤ l * ((z.count 47 : Nat) : Int) := Int.mul_nonneg (by omega) (by omega)
  omega
theorem HB.best {sds : List (List Nat)} {r0 r1 : Int} {b : Nat} (h : HB sds r0 r1 b) {g l : Int} (hg : 1 ≤ g) (hl : 1 ≤ l) (hr : r0 * g - r1 * l ≤ 0) (hb : b ≤ 1000) : IsBar sds g l (g * (b : Nat)) (List.replicate b 61) := by
  refine ⟨Lk.rep _ _ (.inl rfl), h.own, wor_rep61 g l b, h.bound g l hg hl hr, fun z hz hf hw => ?_, by rw [List.length_replicate]; exact hb⟩
  have h1 := wor_le_count g l hg hl z hz
  rw [hw] at h1
  have h2 : (b : Int) ≤ ((z.count 61 : Nat) : Int) := Int.le_of_mul_le_mul_left h1 (by omega)
  have h3 := List.count_le_length (a := 61) (l := z)
  unfold Sle
  rw [List.length_replicate]
  by_cases hlt : b < z.length
  · exact .inl hlt
  · refine .inr ⟨by omega, ?_⟩
    have e : z = List.replicate b 61 := by
      have e1 : List.count 61 z = z.length := by omega
      have e2 := List.eq_replicate_iff.mpr ⟨rfl, fun c hc => (List.count_eq_length.mp e1 c hc).symm⟩
      have e3 : z.length = b := by omega
      rw [e3] at e2
      exact e2
    rw [e]
    exact lexB_refl _
theorem get_rep {n c i : Nat} (h : i < n) : (List.replicate n c)[i]? = some c := by
  rw [List.getElem?_replicate, if_pos h]
/-! so many picks in a row -/
def lead : List Nat → Nat
  | [] => 0
  | c :: z => if c = 61 then lead z + 1 else 0
theorem lead_get : ∀ (z : List Nat) (k : Nat), k < lead z → z[k]? = some 61
  | [], k, h => by simp [lead] at h
  | c :: z, k, h => by
    unfold lead at h
    by_cases hc : c = 61
    · rw [if_pos hc] at h
      cases k with
      | zero => rw [hc]; rfl
      | succ k => exact lead_get z k (by omega)
    · rw [if_neg hc] at h
      omega
theorem lead_le : ∀ z : List Nat, lead z ≤ z.length
  | [] => Nat.le_refl _
  | c :: z => by
    have := lead_le z
    unfold lead
    split <;> simp only [List.length_cons] <;> omega
theorem ones_len (m : Nat) : (ones m).length = m := List.length_replicate
theorem one_ones {m : Nat} (h : 1 ≤ m) : Ones [ones m] := fun sd hsd => by
  rw [List.mem_singleton.mp hsd, ones_len]
  exact h
theorem lead_lt {m : Nat} (hm : 1 ≤ m) {z : List Nat} (hf : Free [ones m] z) : lead z ≤ m - 1 := by
  rw [free_iff (one_ones hm)] at hf
  refine Classical.byContradiction fun h => ?_
  obtain ⟨k, hk, _, e⟩ := hf _ (List.mem_singleton.mpr rfl) 0 (by rw [ones_len]; have := lead_le z; omega)
  rw [ones_len] at hk
  rw [Nat.zero_add, lead_get z k (by omega)] at e
  cases e
theorem wor_lead {m : Nat} (hm : 1 ≤ m) {g l : Int} (hr : ((m : Int) - 1) * g ≤ l) (hg : 1 ≤ g) : ∀ z : List Nat, Free [ones m] z → wor g l z ≤ g * (lead z : Nat)
  | [], _ => by simp [wor, lead]
  | c :: z, hf => by
    have hf' := hf.tail (one_ones hm)
    have ih := wor_lead hm hr hg z hf'
    have h1 := lead_lt hm hf'
    show (if c = 61 then g else -l) + wor g l z ≤ g * ((if c = 61 then lead z + 1 else 0 : Nat) : Int)
    by_cases hc : c = 61
    · rw [if_pos hc, if_pos hc, Int.natCast_add, Int.mul_add]
      omega
    · rw [if_neg hc, if_neg hc]
      have h2 : g * (lead z : Nat) ≤ g * ((m : Int) - 1) := Int.mul_le_mul_of_nonneg_left (by omega) (by omega)
      rw [Int.mul_comm g ((m : Int) - 1)] at h2
      omega
theorem HB.row {m : Nat} (hm : 1 ≤ m) : HB [ones m] ((m : Int) - 1) 1 (m - 1) := by
  refine ⟨fun g l hg hl hr z hz hf => ?_, ?_, fun g l hg hl hr B => ?_⟩
  · have h1 := wor_lead hm (g := g) (l := l) (by omega) hg z hf
    have h2 : g * (lead z : Nat) ≤ g * ((m - 1 : Nat) : Int) := Int.mul_le_mul_of_nonneg_left (by have := lead_lt hm hf; omega) (by omega)
    omega
  · rw [free_iff (one_ones hm)]
    intro sd hsd p hp
    rw [List.mem_singleton.mp hsd, ones_len, List.length_replicate] at hp
    omega
  · refine ⟨rp (List.replicate (m - 1) 61 ++ [47]) (B + 1), Lk.rp (Lk.app (Lk.rep _ _ (.inl rfl)) (fun c hc => .inr (List.mem_singleton.mp hc))) _, ?_, ?_⟩
    · rw [free_iff (one_ones hm)]
      intro sd hsd p hp
      rw [List.mem_singleton.mp hsd, ones_len, rp_len, List.length_append, List.length_replicate] at hp
      rw [List.mem_singleton.mp hsd, ones_len]
      have hmm : m - 1 + [47].length = m := by show m - 1 + 1 = m; omega
      rw [hmm] at hp
      have hlt := Nat.mod_lt p (show 0 < m by omega)
      refine ⟨m - 1 - p % m, by omega, get_rep (by omega), ?_⟩
      rw [rp_get _ _ _ (by rw [List.length_append, List.length_replicate, hmm]; omega), List.length_append, List.length_replicate, hmm]
      have e : (p + (m - 1 - p % m)) % m = m - 1 := by
        have h := Nat.div_add_mod p m
        have e2 : p + (m - 1 - p % m) = m * (p / m) + (m - 1) := by omega
        rw [e2, Nat.mul_add_mod, Nat.mod_eq_of_lt (by omega)]
      rw [e, List.getElem?_append_right (by rw [List.length_replicate]; exact Nat.le_refl _), List.length_replicate, Nat.sub_self]
      rfl
    · rw [wor_rp, wor_app, wor_rep61]
      have e : wor g l [47] = -l := by simp [wor]
      rw [e]
      have e1 : ((m - 1 : Nat) : Int) = (m : Int) - 1 := by omega
      rw [e1, Int.mul_comm g]
      have h2 : ((B + 1 : Nat) : Int) * 1 ≤ ((B + 1 : Nat) : Int) * (((m : Int) - 1) * g + -l) := Int.mul_le_mul_of_nonneg_left (by omega) (by omega)
      omega
/-! two picks so far apart -/
theorem gaps_len {m : Nat} (hm : 2 ≤ m) : (gaps m).length = m := by
  unfold gaps
  rw [List.length_cons, List.length_append, List.length_replicate]
  show m - 2 + 1 + 1 = m
  omega
theorem one_gaps {m : Nat} (hm : 2 ≤ m) : Ones [gaps m] := fun sd hsd => by
  rw [List.mem_singleton.mp hsd, gaps_len hm]
  omega
theorem gaps_pick {m k : Nat} (hm : 2 ≤ m) (hk : k < m) : (gaps m)[k]? = some 35 ↔ k = 0 ∨ k = m - 1 := by
  unfold gaps
  cases k with
  | zero => simp
  | succ k =>
    rw [List.getElem?_cons_succ]
    by_cases h : k < m - 2
    · rw [List.getElem?_append_left (by rw [List.length_replicate]; exact h), get_rep h]
      constructor
      · intro e
        cases e
      · intro e
        omega
    · rw [List.getElem?_append_right (by rw [List.length_replicate]; omega), List.length_replicate]
      have : k - (m - 2) = 0 := by omega
      rw [this]
      constructor
      · intro _
        omega
      · intro _
        rfl
theorem free_gaps {m : Nat} (hm : 2 ≤ m) {z : List Nat} : Free [gaps m] z ↔ ∀ p, p + m ≤ z.length → z[p]? = some 47 ∨ z[p + (m - 1)]? = some 47 := by
  rw [free_iff (one_gaps hm)]
  constructor
  · intro h p hp
    obtain ⟨k, hk, e1, e2⟩ := h _ (List.mem_singleton.mpr rfl) p (by rw [gaps_len hm]; exact hp)
    rw [gaps_len hm] at hk
    rcases (gaps_pick hm hk).mp e1 with e | e
    · subst e
      exact .inl e2
    · subst e
      exact .inr e2
  · intro h sd hsd p hp
    rw [List.mem_singleton.mp hsd] at hp ⊢
    rw [gaps_len hm] at hp ⊢
    rcases h p hp with e | e
    · exact ⟨0, by omega, (gaps_pick hm (by omega)).mpr (.inl rfl), e⟩
    · exact ⟨m - 1, by omega, (gaps_pick hm (by omega)).mpr (.inr rfl), e⟩
theorem count_pair : ∀ (y x : List Nat), y.length ≤ x.length → (∀ i : Nat, y[i]? = some 61 → x[i]? = some 47) → y.count 61 ≤ x.count 47
  | [], x, _, _ => by simp
  | _ :: _, [], h, _ => by simp at h
  | c :: y, d :: x, h, hp => by
    have ih := count_pair y x (by simpa using h) fun i hi => hp (i + 1) hi
    rw [List.count_cons, List.count_cons]
    by_cases hc : c = 61
    · have : d = 47 := by
        have := hp 0 (by rw [hc]; rfl)
        exact Option.some.inj this
      subst hc this
      simp
      omega
    · have : (c == 61) = false := by simpa using hc
      rw [this]
      simp
      omega
theorem HB.two {m : Nat} (hm : 2 ≤ m) : HB [gaps m] ((m : Int) - 1) ((m : Int) - 1) (m - 1) := by
  refine ⟨fun g l hg hl hr z hz hf => ?_, ?_, fun g l hg hl hr B => ?_⟩
  · rw [free_gaps hm] at hf
    have hgl : g ≤ l := by
      have : ((m : Int) - 1) * g ≤ ((m : Int) - 1) * l := by omega
      exact Int.le_of_mul_le_mul_left this (by omega)
    have h1 : (z.drop (m - 1)).count 61 ≤ z.count 47 := by
      refine count_pair _ _ (by rw [List.length_drop]; omega) fun i hi => ?_
      rw [List.getElem?_drop] at hi
      have hil := (List.getElem?_eq_some_iff.mp hi).1
      rcases hf i (by omega) with e | e
      · exact e
      · rw [show i + (m - 1) = m - 1 + i by omega, hi] at e
        cases e
    have h2 : (z.take (m - 1)).count 61 ≤ m - 1 := Nat.le_trans List.count_le_length (by rw [List.length_take]; omega)
    have h3 : z.count 61 = (z.take (m - 1)).count 61 + (z.drop (m - 1)).count 61 := by rw [← List.count_append, List.take_append_drop]
    have h4 := wor_count g l hz
    have h5 : g * ((z.count 61 : Nat) : Int) ≤ g * (((m - 1 : Nat) : Int) + ((z.count 47 : Nat) : Int)) := Int.mul_le_mul_of_nonneg_left (by omega) (by omega)
    have h6 : g * ((z.count 47 : Nat) : Int) ≤ l * ((z.count 47 : Nat) : Int) := Int.mul_le_mul_of_nonneg_right hgl (by omega)
    rw [Int.mul_add] at h5
    omega
  · rw [free_gaps hm]
    intro p hp
    rw [List.length_replicate] at hp
    omega
  · refine ⟨rp (List.replicate (m - 1) 61 ++ List.replicate (m - 1) 47) (B + 1), Lk.rp (Lk.app (Lk.rep _ _ (.inl rfl)) (Lk.rep _ _ (.inr rfl))) _, ?_, ?_⟩
    · rw [free_gaps hm]
      intro p hp
      rw [rp_len] at hp
      have e0 : (List.replicate (m - 1) 61 ++ List.replicate (m - 1) 47).length = 2 * (m - 1) := by
        rw [List.length_append, List.length_replicate, List.length_replicate]
        omega
      have hlt := Nat.mod_lt p (show 0 < 2 * (m - 1) by omega)
      rw [e0] at hp
      by_cases hs : p % (2 * (m - 1)) < m - 1
      · refine .inr ?_
        rw [rp_get _ _ _ (by rw [e0]; omega), e0]
        have e : (p + (m - 1)) % (2 * (m - 1)) = p % (2 * (m - 1)) + (m - 1) := by
          have h := Nat.div_add_mod p (2 * (m - 1))
          generalize hq : p / (2 * (m - 1)) = q at h
          have e2 : p + (m - 1) = 2 * (m - 1) * q + (p % (2 * (m - 1)) + (m - 1)) := by omega
          rw [e2, Nat.mul_add_mod, Nat.mod_eq_of_lt (by omega)]
        rw [e, List.getElem?_append_right (by rw [List.length_replicate]; omega), List.length_replicate, get_rep (by omega)]
      · refine .inl ?_
        rw [rp_get _ _ _ (by rw [e0]; omega), e0, List.getElem?_append_right (by rw [List.length_replicate]; omega), List.length_replicate, get_rep (by omega)]
    · rw [wor_rp, wor_app, wor_rep61, wor_rep47]
      have e1 : ((m - 1 : Nat) : Int) = (m : Int) - 1 := by omega
      rw [e1, Int.mul_comm g, Int.mul_comm l]
      have h2 : ((B + 1 : Nat) : Int) * 1 ≤ ((B + 1 : Nat) : Int) * (((m : Int) - 1) * g + -(((m : Int) - 1) * l)) := Int.mul_le_mul_of_nonneg_left (by omega) (by omega)
      omega
/-! a longer seed beside it, in which it fits -/
theorem HB.beside {sds sds' : List (List Nat)} {r0 r1 : Int} {b : Nat} (h : HB sds r0 r1 b) (e : ∀ z, Free sds' z ↔ Free sds z) : HB sds' r0 r1 b :=
  ⟨fun g l hg hl hr z hz hf => h.bound g l hg hl hr z hz ((e z).mp hf), (e _).mpr h.own, fun g l hg hl hr B => by
    obtain ⟨z, h1, h2, h3⟩ := h.grow g l hg hl hr B
    exact ⟨z, h1, (e z).mpr h2, h3⟩⟩
theorem free_beside {sd : List Nat} {n : Nat} (h1 : 1 ≤ sd.length) (hn : sd.length ≤ n) {sds : List (List Nat)} (hs : sds = [sd, ones n] ∨ sds = [ones n, sd]) (z : List Nat) : Free sds z ↔ Free [sd] z := by
  have o1 : Ones [sd] := fun s hsd => by rw [List.mem_singleton.mp hsd]; exact h1
  have mem : ∀ s, s ∈ sds ↔ s = sd ∨ s = ones n := by
    intro s
    rcases hs with e | e <;> subst e <;> simp [or_comm]
  have o2 : Ones sds := fun s hsd => by
    rcases (mem s).mp hsd with e | e
    · rw [e]; exact h1
    · rw [e, ones_len]; omega
  rw [free_iff o1, free_iff o2]
  constructor
  · intro h s hsd
    rw [List.mem_singleton.mp hsd]
    exact h sd ((mem sd).mpr (.inl rfl))
  · intro h s hsd p hp
    rcases (mem s).mp hsd with e | e
    · rw [e] at hp ⊢
      exact h sd (List.mem_singleton.mpr rfl) p hp
    · rw [e] at hp ⊢
      rw [ones_len] at hp ⊢
      obtain ⟨k, hk, _, e2⟩ := h sd (List.mem_singleton.mpr rfl) p (by omega)
      exact ⟨k, by omega, get_rep (by omega), e2⟩
theorem rep_flat (c : Nat) : ∀ k : Nat, (List.replicate k [c]).flatten = List.replicate k c
  | 0 => rfl
  | k + 1 => by
    rw [List.replicate_succ, List.flatten_cons, rep_flat c k]
    rfl
theorem x_mul1 (c : Nat) {n : Int} {H : Hp} {Q : VK} (k : Nat) (hk : n.toNat = k) (h1 : n ≤ 1000) (h2 : -1000 ≤ n) (q : Q (.str (S (List.replicate k c))) H) : rMulS (.str (S [c])) (.int n) H Q :=
  x_mulS (z := [c]) h1 h2 (show 1 ≤ 1000 by decide) (by rw [rep_flat, hk]; exact q)
theorem sd_ones {m : Nat} (h1 : 1 ≤ m) (h8 : m ≤ 8) : Sd 8 (ones m) :=
  ⟨by rw [ones_len]; exact h1, by rw [ones_len]; exact h8, fun c hc => .inl (List.eq_of_mem_replicate hc), get_rep (by omega), by rw [ones_len]; exact get_rep (by omega)⟩
theorem sd_gaps {m : Nat} (h1 : 2 ≤ m) (h8 : m ≤ 8) : Sd 8 (gaps m) := by
  refine ⟨by rw [gaps_len h1]; omega, by rw [gaps_len h1]; exact h8, fun c hc => ?_, (gaps_pick h1 (by omega)).mpr (.inl rfl), by rw [gaps_len h1]; exact (gaps_pick h1 (by omega)).mpr (.inr rfl)⟩
  unfold gaps at hc
  rcases List.mem_cons.mp hc with e | e
  · exact .inl e
  · rcases List.mem_append.mp e with e | e
    · exact .inr (List.eq_of_mem_replicate e)
    · exact .inl (List.mem_singleton.mp e)
def barV : BarR → List V
  | .bar w z => [.str "bar", .int w, .str (S z)]
  | .ring a r => [.str "endless", .str (S a), .str (S r)]
theorem Lk.cd {z : List Nat} (h : Lk z) : ∀ c ∈ z, c < 1114112 := fun c hc => by rcases h c hc with e | e <;> omega
def barD : BarR → PyData
  | .bar w z => .tuple [.str "bar", .int w, .str (S z)]
  | .ring a r => .tuple [.str "endless", .str (S a), .str (S r)]
theorem dp_bar {K : PySem.W.Frag} {H : Hp} {p : Addr} : ∀ {b : BarR}, H p = some (.tup (barV b)) → Dp K H (.ref p) (barD b)
  | .bar _ _, h => .tup (SqT.of h) (.cons (.str _) (.cons (.int _) (.cons (.str _) .nil)))
  | .ring _ _, h => .tup (SqT.of h) (.cons (.str _) (.cons (.str _) (.cons (.str _) .nil)))
theorem lay_bar {sds : List (List Nat)} {g l : Int} : ∀ {b : BarR}, BarOk sds g l b → PyData.canLay0 (barD b) = true
  | .bar w z, h => by
    have h1 : IsBar sds g l w z := h
    have h2 := strOk_S h1.lk.cd
    simp only [barD, PyData.canLayAll0, PyData.canLay0, Bool.and_eq_true, Bool.true_and]
    exact ⟨by decide +kernel, h2, trivial⟩
  | .ring a r, h => by
    have h1 : IsRing sds g l a r := h
    have h2 := strOk_S h1.lka.cd
    have h3 := strOk_S h1.lkr.cd
    simp only [barD, PyData.canLayAll0, PyData.canLay0, Bool.and_eq_true, Bool.true_and]
    exact ⟨by decide +kernel, h2, h3, trivial⟩
theorem shaped_bar {sds : List (List Nat)} {g l : Int} {b : BarR} (h : BarOk sds g l b) : SeqAt.shaped (barD b) = true := by
  unfold SeqAt.shaped
  rw [Bool.and_eq_true]
  refine ⟨lay_bar h, decide_eq_true ?_⟩
  cases b <;> simp only [barD, PyData.depth, PyData.depthAll] <;> omega
theorem ne_bar_same {K : PySem.W.Frag} {H : Hp} {p p' : Addr} {sds : List (List Nat)} {g l : Int} {b : BarR} (ok : BarOk sds g l b) (h : H p = some (.tup (barV b))) (h' : H p' = some (.tup (barV b))) {Q : VK} (q : Q (.bl false) H) : rNeD K (.ref p) (.ref p') H Q :=
  ⟨barD b, barD b, dp_bar h, dp_bar h', shaped_bar ok, shaped_bar ok, by rw [SeqAt.eqv_refl _ (lay_bar ok)]; exact q⟩
end Sr

namespace Sr
/-! ### what bar works with -/
/-- no seed that fits ends with c behind t -/
def okS (sds : List (List Nat)) (t : List Nat) (c : Nat) : Bool := !(sds.any fun sd => fitsB sd (t ++ [c]) (((t ++ [c]).length : Int) - (sd.length : Int)))
/-- the tail that matters -/
def tlK (k : Nat) (z : List Nat) : List Nat := (z.drop (z.length - k)).dropWhile (fun c => c == 47)
theorem tw_all : ∀ (l : List Nat), ∀ c ∈ l.takeWhile (fun c => c == 47), c = 47
  | [], c, h => by simp at h
  | d :: l, c, h => by
    rw [List.takeWhile_cons] at h
    by_cases e : (d == 47) = true
    · rw [if_pos e] at h
      rcases List.mem_cons.mp h with h | h
      · rw [h]; simpa using e
      · exact tw_all l c h
    · rw [if_neg e] at h
      simp at h
theorem dw_app : ∀ {u : List Nat} (w : List Nat), (∀ c ∈ u, c = 47) → (u ++ w).dropWhile (fun c => c == 47) = w.dropWhile (fun c => c == 47)
  | [], w, _ => rfl
  | d :: u, w, h => by
    rw [List.cons_append, List.dropWhile_cons, if_pos (by have := h d List.mem_cons_self; simp [this])]
    exact dw_app w fun c hc => h c (List.mem_cons_of_mem _ hc)
theorem dw_fix {w : List Nat} (l : List Nat) (h : w = l.dropWhile (fun c => c == 47)) : w.dropWhile (fun c => c == 47) = w := by
  subst h
  induction l with
  | nil => rfl
  | cons d l ih =>
    by_cases e : (d == 47) = true
    · rw [List.dropWhile_cons, if_pos e]
      exact ih
    · rw [List.dropWhile_cons, if_neg e, List.dropWhile_cons, if_neg e]
theorem tlK_split (k : Nat) (z : List Nat) : ∃ p u, z = p ++ (u ++ tlK k z) ∧ p.length = z.length - k ∧ ∀ c ∈ u, c = 47 := by
  refine ⟨z.take (z.length - k), (z.drop (z.length - k)).takeWhile (fun c => c == 47), ?_, ?_, tw_all _⟩
  · unfold tlK
    rw [List.takeWhile_append_dropWhile, List.take_append_drop]
  · rw [List.length_take]
    omega
theorem fits_end {k : Nat} {sd : List Nat} (h1 : 1 ≤ sd.length) (hk : sd.length ≤ k + 1) (h0 : sd[0]? = some 35) (z : List Nat) (c : Nat) :
    fitsB sd (z ++ [c]) (((z ++ [c]).length : Int) - (sd.length : Int)) = fitsB sd (tlK k z ++ [c]) (((tlK k z ++ [c]).length : Int) - (sd.length : Int)) := by
  obtain ⟨p, u, e, hp, hu⟩ := tlK_split k z
  generalize tlK k z = t at e
  subst e
  rw [Bool.eq_iff_iff, fitsB_iff h1, fitsB_iff h1]
  simp only [List.length_append, List.length_cons, List.length_nil] at hp ⊢
  constructor
  · rintro ⟨a, b, f⟩
    have hlen : sd.length ≤ t.length + 1 := by
      refine Classical.byContradiction fun hn => ?_
      have hq := f 0 (by omega)
      refine hq ⟨h0, ?_⟩
      generalize hqe : (((p.length + (u.length + t.length) + (0 + 1) : Nat) : Int) - (sd.length : Int)).toNat = q
      have hq1 : p.length ≤ q := by omega
      have hq2 : q < p.length + u.length := by omega
      rw [Nat.add_zero, List.append_assoc, List.append_assoc, List.getElem?_append_right hq1, List.getElem?_append_left (by omega), List.getElem?_eq_getElem (by omega)]
      exact congrArg some (hu _ (List.getElem_mem _))
    refine ⟨by omega, by omega, fun j hj hc => f j hj ⟨hc.1, ?_⟩⟩
    rw [← hc.2, show p ++ (u ++ t) ++ [c] = (p ++ u) ++ (t ++ [c]) by simp, List.getElem?_append_right (by simp only [List.length_append]; omega)]
    congr 1
    simp only [List.length_append]
    omega
  · rintro ⟨a, b, f⟩
    refine ⟨by omega, by omega, fun j hj hc => f j hj ⟨hc.1, ?_⟩⟩
    have h2 := hc.2
    rw [show p ++ (u ++ t) ++ [c] = (p ++ u) ++ (t ++ [c]) by simp, List.getElem?_append_right (by simp only [List.length_append]; omega)] at h2
    rw [← h2]
    congr 1
    simp only [List.length_append]
    omega
structure SdK (k : Nat) (sds : List (List Nat)) : Prop where
  one : ∀ sd ∈ sds, 1 ≤ sd.length
  most : ∀ sd ∈ sds, sd.length ≤ k + 1
  first : ∀ sd ∈ sds, sd[0]? = some 35
theorem any_congr' {α : Type} {f g : α → Bool} : ∀ {l : List α}, (∀ x ∈ l, f x = g x) → l.any f = l.any g
  | [], _ => rfl
  | x :: l, h => by
    rw [List.any_cons, List.any_cons, h x List.mem_cons_self, any_congr' fun y hy => h y (List.mem_cons_of_mem _ hy)]
theorem okS_tl {k : Nat} {sds : List (List Nat)} (hs : SdK k sds) (z : List Nat) (c : Nat) : okS sds z c = okS sds (tlK k z) c := by
  unfold okS
  rw [any_congr' fun sd h => fits_end (hs.one sd h) (hs.most sd h) (hs.first sd h) z c]
theorem tlK_len (k : Nat) (z : List Nat) : (tlK k z).length ≤ k := by
  obtain ⟨p, u, e, hp, hu⟩ := tlK_split k z
  have := congrArg List.length e
  simp only [List.length_append] at this
  omega
theorem tlK_short {k : Nat} {z : List Nat} (h : z.length ≤ k) : tlK k z = z.dropWhile (fun c => c == 47) := by
  unfold tlK
  rw [show z.length - k = 0 by omega, List.drop_zero]
theorem tlK_idem (k : Nat) (z : List Nat) : tlK k (tlK k z) = tlK k z := by
  rw [tlK_short (tlK_len k z)]
  exact dw_fix _ rfl
theorem tlK_snoc (k : Nat) (z : List Nat) (c : Nat) : tlK k (z ++ [c]) = tlK k (tlK k z ++ [c]) := by
  obtain ⟨p, u, e, hp, hu⟩ := tlK_split k z
  have hl := tlK_len k z
  generalize tlK k z = t at e hl
  subst e
  simp only [List.length_append] at hp
  by_cases hk : k = 0
  · subst hk
    unfold tlK
    rw [List.drop_of_length_le (by omega), List.drop_of_length_le (by omega)]
  · by_cases hz : p.length = 0
    · have : p = [] := List.length_eq_zero_iff.mp hz
      subst this
      by_cases ht : u.length + t.length = k
      · unfold tlK
        cases u with
        | nil => rfl
        | cons a u =>
          rw [List.nil_append, show ((a :: u ++ t ++ [c]).length - k) = 1 by simp only [List.length_append, List.length_cons, List.length_nil] at ht ⊢; omega]
          rw [show ((t ++ [c]).length - k) = 0 by simp only [List.length_append, List.length_cons, List.length_nil] at ht ⊢; omega, List.drop_zero]
          show (u ++ t ++ [c]).dropWhile _ = _
          rw [List.append_assoc]
          exact dw_app _ fun d hd => hu d (List.mem_cons_of_mem _ hd)
      · rw [tlK_short (by simp only [List.length_append, List.length_cons, List.length_nil]; simp only [List.length_nil] at hp; omega), tlK_short (by simp only [List.length_append, List.length_cons, List.length_nil]; simp only [List.length_nil] at hp; omega), List.nil_append, List.append_assoc]
        exact dw_app _ hu
    · have ht : u.length + t.length = k := by omega
      unfold tlK
      rw [show ((p ++ (u ++ t) ++ [c]).length - k) = p.length + 1 by simp only [List.length_append, List.length_cons, List.length_nil]; omega]
      rw [show p ++ (u ++ t) ++ [c] = p ++ (u ++ (t ++ [c])) by simp, List.drop_append, List.drop_of_length_le (by omega), List.nil_append, show p.length + 1 - p.length = 1 by omega]
      cases u with
      | nil =>
        simp only [List.length_nil] at ht
        rw [List.nil_append, show ((t ++ [c]).length - k) = 1 by simp only [List.length_append, List.length_cons, List.length_nil]; omega]
      | cons a u =>
        simp only [List.length_cons] at ht
        rw [show ((t ++ [c]).length - k) = 0 by simp only [List.length_append, List.length_cons, List.length_nil]; omega, List.drop_zero]
        show (u ++ (t ++ [c])).dropWhile _ = _
        exact dw_app _ fun d hd => hu d (List.mem_cons_of_mem _ hd)
/-! walks over tails -/
def run (sds : List (List Nat)) (k : Nat) : List Nat → List Nat → Option (List Nat)
  | t, [] => some t
  | t, c :: z => if okS sds t c = true then run sds k (tlK k (t ++ [c])) z else none
theorem run_tl {k : Nat} {sds : List (List Nat)} (hs : SdK k sds) : ∀ (z h : List Nat) (t' : List Nat), run sds k (tlK k h) z = some t' → t' = tlK k (h ++ z)
  | [], h, t', e => by
    rw [List.append_nil]
    exact (Option.some.inj e).symm
  | c :: z, h, t', e => by
    unfold run at e
    by_cases hc : okS sds (tlK k h) c = true
    · rw [if_pos hc, ← tlK_snoc] at e
      have := run_tl hs z (h ++ [c]) t' e
      rw [this]
      simp
    · rw [if_neg hc] at e
      cases e
theorem run_some {k : Nat} {sds : List (List Nat)} (hs : SdK k sds) : ∀ (z h : List Nat), (run sds k (tlK k h) z).isSome = true ↔ ∀ i, (hi : i < z.length) → okS sds (h ++ z.take i) z[i] = true
  | [], h => by simp [run]
  | c :: z, h => by
    unfold run
    by_cases hc : okS sds (tlK k h) c = true
    · rw [if_pos hc, ← tlK_snoc, run_some hs z (h ++ [c])]
      constructor
      · intro q i hi
        cases i with
        | zero =>
          rw [List.take_zero, List.append_nil, okS_tl hs]
          exact hc
        | succ i =>
          have := q i (by simpa using hi)
          simpa using this
      · intro q i hi
        have := q (i + 1) (by simpa using hi)
        simpa using this
    · rw [if_neg hc]
      refine ⟨fun q => by simp at q, fun q => ?_⟩
      have := q 0 (by simp)
      rw [List.take_zero, List.append_nil, okS_tl hs] at this
      exact absurd this hc
theorem free_of_ok {sds : List (List Nat)} (h1 : Ones sds) (h z : List Nat) (q : ∀ i, (hi : i < z.length) → okS sds (h ++ z.take i) z[i] = true) : Free sds z := by
  rw [free_iff h1]
  intro sd hsd p hp
  have hl := h1 sd hsd
  have hi : p + sd.length - 1 < z.length := by omega
  have := q (p + sd.length - 1) hi
  unfold okS at this
  rw [Bool.not_eq_true', List.any_eq_false] at this
  have h2 := this sd hsd
  rw [fitsB_iff hl] at h2
  refine Classical.byContradiction fun hn => h2 ⟨?_, ?_, fun j hj hc => hn ⟨j, hj, hc.1, ?_⟩⟩
  · simp only [List.length_append, List.length_take, List.length_cons, List.length_nil]
    omega
  · simp only [List.length_append, List.length_take, List.length_cons, List.length_nil]
    omega
  · have h3 := hc.2
    rw [List.append_assoc, show z.take (p + sd.length - 1) ++ [z[p + sd.length - 1]] = z.take (p + sd.length - 1 + 1) from (List.take_succ_eq_append_getElem hi).symm] at h3
    rw [List.getElem?_append_right (by simp only [List.length_append, List.length_take]; omega), List.getElem?_take] at h3
    split at h3
    · rw [← h3]
      congr 1
      simp only [List.length_append, List.length_take]
      omega
    · cases h3
theorem free_ok {sds : List (List Nat)} (h1 : Ones sds) {z : List Nat} (f : Free sds z) (i : Nat) (hi : i < z.length) : okS sds (z.take i) z[i] = true := by
  rw [free_iff h1] at f
  unfold okS
  rw [Bool.not_eq_true', List.any_eq_false]
  intro sd hsd hc
  have hl := h1 sd hsd
  obtain ⟨a, b, g⟩ := (fitsB_iff hl).mp hc
  rw [show z.take i ++ [z[i]] = z.take (i + 1) from (List.take_succ_eq_append_getElem hi).symm] at a b g
  rw [List.length_take] at a b g
  have hm : min (i + 1) z.length = i + 1 := by omega
  rw [hm] at a b g
  obtain ⟨j, hj, e1, e2⟩ := f sd hsd (i + 1 - sd.length) (by omega)
  refine g j hj ⟨e1, ?_⟩
  rw [List.getElem?_take, if_pos (by omega), ← e2]
  congr 1
  omega
theorem free_run {k : Nat} {sds : List (List Nat)} (hs : SdK k sds) {z : List Nat} : Free sds z ↔ (run sds k [] z).isSome = true := by
  have e : ([] : List Nat) = tlK k [] := by unfold tlK; simp
  have key := run_some hs z []
  rw [← e] at key
  rw [key]
  exact ⟨fun f i hi => by rw [List.nil_append]; exact free_ok hs.one f i hi, fun q => free_of_ok hs.one [] z q⟩
theorem run_free {k : Nat} {sds : List (List Nat)} (hs : SdK k sds) {t z : List Nat} (ht : tlK k t = t) (h : (run sds k t z).isSome = true) : Free sds z := by
  have key := run_some hs z t
  rw [ht] at key
  exact free_of_ok hs.one t z (key.mp h)
theorem run_cons (sds : List (List Nat)) (k : Nat) (t : List Nat) (c : Nat) (z : List Nat) : run sds k t (c :: z) = if okS sds t c = true then run sds k (tlK k (t ++ [c])) z else none := rfl
theorem run_app {sds : List (List Nat)} {k : Nat} : ∀ (a t b : List Nat), run sds k t (a ++ b) = (run sds k t a).bind fun s => run sds k s b
  | [], t, b => rfl
  | c :: a, t, b => by
    rw [List.cons_append, run_cons, run_cons]
    by_cases h : okS sds t c = true
    · rw [if_pos h, if_pos h]
      exact run_app a _ b
    · rw [if_neg h, if_neg h]
      rfl
theorem run_rp {sds : List (List Nat)} {k : Nat} {t r : List Nat} (h : run sds k t r = some t) : ∀ n, run sds k t (rp r n) = some t
  | 0 => rfl
  | n + 1 => by
    rw [rp_succ, run_app, h]
    exact run_rp h n
end Sr
namespace Sr
/-! ### the best likes behind a tail -/
def wt (g l : Int) (c : Nat) : Int := if c = 61 then g else -l
def stps (sds : List (List Nat)) (k : Nat) (t : List Nat) : List (Nat × List Nat) := ([61, 47].filter fun c => okS sds t c).map fun c => (c, tlK k (t ++ [c]))
/-- b is better than a, as the program weighs them -/
def bet (a b : Int × List Nat) : Bool := decide (a.1 < b.1) || (decide (a.1 = b.1) && decide (b.2.length < a.2.length))
def pick (a b : Int × List Nat) : Int × List Nat := if bet a b = true then b else a
def cand (g l : Int) (o : List Nat → Int × List Nat) (p : Nat × List Nat) : Int × List Nat := (wt g l p.1 + (o p.2).1, p.1 :: (o p.2).2)
def optS (sds : List (List Nat)) (k : Nat) (g l : Int) : Nat → List Nat → Int × List Nat
  | 0, _ => (0, [])
  | r + 1, t => ((stps sds k t).map (cand g l (optS sds k g l r))).foldl pick (0, [])
theorem lexB_trans : ∀ {a b c : List Nat}, lexB a b = true → lexB b c = true → lexB a c = true
  | [], _, _, _, _ => rfl
  | x :: a, [], _, h, _ => by simp [lexB] at h
  | x :: a, y :: b, [], _, h => by simp [lexB] at h
  | x :: a, y :: b, w :: c, h1, h2 => by
    simp only [lexB, Bool.or_eq_true, Bool.and_eq_true, decide_eq_true_eq] at h1 h2 ⊢
    rcases h1 with h1 | ⟨e1, h1⟩
    · rcases h2 with h2 | ⟨e2, h2⟩
      · exact .inl (by omega)
      · exact .inl (by omega)
    · rcases h2 with h2 | ⟨e2, h2⟩
      · exact .inl (by omega)
      · exact .inr ⟨by omega, lexB_trans h1 h2⟩
theorem Sle.refl (a : List Nat) : Sle a a := .inr ⟨rfl, lexB_refl a⟩
theorem Sle.trans {a b c : List Nat} (h1 : Sle a b) (h2 : Sle b c) : Sle a c := by
  rcases h1 with h1 | ⟨e1, h1⟩
  · rcases h2 with h2 | ⟨e2, _⟩
    · exact .inl (by omega)
    · exact .inl (by omega)
  · rcases h2 with h2 | ⟨e2, h2⟩
    · exact .inl (by omega)
    · exact .inr ⟨by omega, lexB_trans h1 h2⟩
theorem Sle.len {a b : List Nat} (h : Sle a b) : a.length ≤ b.length := by
  rcases h with h | ⟨e, _⟩ <;> omega
theorem Sle.cons {a b : List Nat} (c : Nat) (h : Sle a b) : Sle (c :: a) (c :: b) := by
  rcases h with h | ⟨e, h⟩
  · exact .inl (by simpa using h)
  · exact .inr ⟨by simpa using e, by simp [lexB, h]⟩
/-- at least as good -/
def Gd2 (p q : Int × List Nat) : Prop := q.1 < p.1 ∨ (p.1 = q.1 ∧ Sle p.2 q.2)
theorem Gd2.refl (p : Int × List Nat) : Gd2 p p := .inr ⟨rfl, Sle.refl _⟩
theorem Gd2.trans {p q r : Int × List Nat} (h1 : Gd2 p q) (h2 : Gd2 q r) : Gd2 p r := by
  rcases h1 with h1 | ⟨e1, h1⟩
  · rcases h2 with h2 | ⟨e2, h2⟩
    · exact .inl (by omega)
    · exact .inl (by omega)
  · rcases h2 with h2 | ⟨e2, h2⟩
    · exact .inl (by omega)
    · exact .inr ⟨by omega, h1.trans h2⟩
theorem Gd2.anti {p q : Int × List Nat} (h1 : Gd2 p q) (h2 : Gd2 q p) : p = q := by
  rcases h1 with h1 | ⟨e1, h1⟩
  · rcases h2 with h2 | ⟨e2, h2⟩ <;> omega
  · rcases h2 with h2 | ⟨e2, h2⟩
    · omega
    · exact Prod.ext e1 (h1.anti h2)
/-- the pick of two is at least as good as both, where equal worth and length puts the first one ahead -/
theorem pick_gd {a b : Int × List Nat} (h : a.1 = b.1 → a.2.length = b.2.length → Sle a.2 b.2) : Gd2 (pick a b) a ∧ Gd2 (pick a b) b := by
  unfold pick bet
  by_cases hb : (decide (a.1 < b.1) || (decide (a.1 = b.1) && decide (b.2.length < a.2.length))) = true
  · rw [if_pos hb]
    refine ⟨?_, Gd2.refl _⟩
    simp only [Bool.or_eq_true, Bool.and_eq_true, decide_eq_true_eq] at hb
    rcases hb with hb | ⟨e, hb⟩
    · exact .inl hb
    · exact .inr ⟨e.symm, .inl hb⟩
  · rw [if_neg hb]
    refine ⟨Gd2.refl _, ?_⟩
    simp only [Bool.or_eq_true, Bool.and_eq_true, decide_eq_true_eq] at hb
    by_cases e : b.1 < a.1
    · exact .inl e
    · by_cases e2 : a.1 = b.1
      · refine .inr ⟨e2, ?_⟩
        by_cases e3 : a.2.length = b.2.length
        · exact h e2 e3
        · exact .inl (by omega)
      · omega
theorem pick_or (a b : Int × List Nat) : pick a b = a ∨ pick a b = b := by
  unfold pick
  split
  · exact .inr rfl
  · exact .inl rfl
structure IsOpt (sds : List (List Nat)) (k : Nat) (g l : Int) (r : Nat) (t : List Nat) (p : Int × List Nat) : Prop where
  lk : Lk p.2
  ok : (run sds k t p.2).isSome = true
  is : wor g l p.2 = p.1
  len : p.2.length ≤ r
  best : ∀ z, Lk z → (run sds k t z).isSome = true → z.length ≤ r → Gd2 p (wor g l z, z)
theorem IsOpt.uniq {sds : List (List Nat)} {k : Nat} {g l : Int} {r : Nat} {t : List Nat} {p q : Int × List Nat} (h : IsOpt sds k g l r t p) (h' : IsOpt sds k g l r t q) : p = q := by
  have a := h.best q.2 h'.lk h'.ok h'.len
  have b := h'.best p.2 h.lk h.ok h.len
  rw [h'.is] at a
  rw [h.is] at b
  exact a.anti b
theorem wor_cons (g l : Int) (c : Nat) (z : List Nat) : wor g l (c :: z) = wt g l c + wor g l z := rfl
theorem Lk.cons {c : Nat} {z : List Nat} (hc : c = 61 ∨ c = 47) (hz : Lk z) : Lk (c :: z) := fun d hd => by
  rcases List.mem_cons.mp hd with e | e
  · rw [e]; exact hc
  · exact hz d e
theorem optS_is {sds : List (List Nat)} {k : Nat} {g l : Int} : ∀ (r : Nat) (t : List Nat), IsOpt sds k g l r t (optS sds k g l r t)
  | 0, t => ⟨fun c h => by simp [optS] at h, rfl, rfl, Nat.le_refl _, fun z _ _ hz => by
      have : z = [] := List.length_eq_zero_iff.mp (by omega)
      subst this
      exact Gd2.refl _⟩
  | r + 1, t => by
    have ih := optS_is (sds := sds) (k := k) (g := g) (l := l) r
    -- one pair's candidate
    have cnd : ∀ c, (c = 61 ∨ c = 47) → okS sds t c = true →
        (Lk (cand g l (optS sds k g l r) (c, tlK k (t ++ [c]))).2 ∧ (run sds k t (cand g l (optS sds k g l r) (c, tlK k (t ++ [c]))).2).isSome = true ∧
         wor g l (cand g l (optS sds k g l r) (c, tlK k (t ++ [c]))).2 = (cand g l (optS sds k g l r) (c, tlK k (t ++ [c]))).1 ∧ (cand g l (optS sds k g l r) (c, tlK k (t ++ [c]))).2.length ≤ r + 1) ∧
        ∀ y, Lk y → (run sds k t (c :: y)).isSome = true → y.length ≤ r → Gd2 (cand g l (optS sds k g l r) (c, tlK k (t ++ [c]))) (wor g l (c :: y), c :: y) := by
      intro c hc hok
      have h := ih (tlK k (t ++ [c]))
      refine ⟨⟨Lk.cons hc h.lk, ?_, ?_, ?_⟩, fun y hy hr hl => ?_⟩
      · show (run sds k t (c :: _)).isSome = true
        rw [run_cons, if_pos hok]
        exact h.ok
      · show wor g l (c :: _) = wt g l c + _
        rw [wor_cons, h.is]
      · exact Nat.succ_le_succ h.len
      · rw [run_cons, if_pos hok] at hr
        have := h.best y hy hr hl
        rw [wor_cons]
        rcases this with e | ⟨e, e2⟩
        · exact .inl (by show wt g l c + wor g l y < wt g l c + _; simp only at e ⊢; omega)
        · exact .inr ⟨by show wt g l c + _ = wt g l c + wor g l y; simp only at e ⊢; omega, Sle.cons c e2⟩
    have em : Lk ([] : List Nat) := fun c h => by simp at h
    -- what is walked begins with nothing, = or /
    have cas : ∀ z : List Nat, Lk z → (run sds k t z).isSome = true → z.length ≤ r + 1 → z = [] ∨ ∃ c y, z = c :: y ∧ (c = 61 ∨ c = 47) ∧ okS sds t c = true ∧ Lk y ∧ (run sds k t (c :: y)).isSome = true ∧ y.length ≤ r := by
      intro z hz hr hl
      cases z with
      | nil => exact .inl rfl
      | cons c y =>
        refine .inr ⟨c, y, rfl, hz c List.mem_cons_self, ?_, fun d hd => hz d (List.mem_cons_of_mem _ hd), hr, by simpa using hl⟩
        rw [run_cons] at hr
        by_cases e : okS sds t c = true
        · exact e
        · rw [if_neg e] at hr
          simp at hr
    have p0 : ∀ c, Gd2 (pick (0, []) (cand g l (optS sds k g l r) (c, tlK k (t ++ [c])))) (0, []) ∧ Gd2 (pick (0, []) (cand g l (optS sds k g l r) (c, tlK k (t ++ [c])))) (cand g l (optS sds k g l r) (c, tlK k (t ++ [c]))) := fun c => by
      refine pick_gd fun _ e => ?_
      simp [cand] at e
    unfold optS stps
    by_cases h1 : okS sds t 61 = true
    · obtain ⟨⟨a1, a2, a3, a4⟩, a5⟩ := cnd 61 (.inl rfl) h1
      by_cases h2 : okS sds t 47 = true
      · obtain ⟨⟨b1, b2, b3, b4⟩, b5⟩ := cnd 47 (.inr rfl) h2
        rw [List.filter_cons, if_pos h1, List.filter_cons, if_pos h2, List.filter_nil]
        simp only [List.map_cons, List.map_nil, List.foldl_cons, List.foldl_nil]
        have q1 := p0 61
        have q2 : Gd2 (pick (pick (0, []) (cand g l (optS sds k g l r) (61, tlK k (t ++ [61])))) (cand g l (optS sds k g l r) (47, tlK k (t ++ [47])))) (pick (0, []) (cand g l (optS sds k g l r) (61, tlK k (t ++ [61])))) ∧ Gd2 (pick (pick (0, []) (cand g l (optS sds k g l r) (61, tlK k (t ++ [61])))) (cand g l (optS sds k g l r) (47, tlK k (t ++ [47])))) (cand g l (optS sds k g l r) (47, tlK k (t ++ [47]))) := by
          refine pick_gd fun _ e => ?_
          rcases pick_or (0, []) (cand g l (optS sds k g l r) (61, tlK k (t ++ [61]))) with e3 | e3
          · rw [e3] at e
            simp [cand] at e
          · rw [e3] at e ⊢
            exact .inr ⟨e, by simp [cand, lexB]⟩
        have fin : ∀ z, Lk z → (run sds k t z).isSome = true → z.length ≤ r + 1 → Gd2 (pick (pick (0, []) (cand g l (optS sds k g l r) (61, tlK k (t ++ [61])))) (cand g l (optS sds k g l r) (47, tlK k (t ++ [47])))) (wor g l z, z) := fun z hz hr hl => by
          rcases cas z hz hr hl with e | ⟨c, y, rfl, hc, hok, hy, hr2, hl2⟩
          · subst e
            exact q2.1.trans q1.1
          · rcases hc with e | e
            · subst e
              exact (q2.1.trans q1.2).trans (a5 y hy hr2 hl2)
            · subst e
              exact q2.2.trans (b5 y hy hr2 hl2)
        rcases pick_or (pick (0, []) (cand g l (optS sds k g l r) (61, tlK k (t ++ [61])))) (cand g l (optS sds k g l r) (47, tlK k (t ++ [47]))) with e | e
        · rcases pick_or (0, []) (cand g l (optS sds k g l r) (61, tlK k (t ++ [61]))) with e3 | e3
          · rw [e3] at e fin
            rw [e3, e]
            rw [e] at fin
            exact ⟨em, rfl, rfl, Nat.zero_le _, fin⟩
          · rw [e3] at e fin
            rw [e3, e]
            rw [e] at fin
            exact ⟨a1, a2, a3, a4, fin⟩
        · rw [e] at fin ⊢
          exact ⟨b1, b2, b3, b4, fin⟩
      · rw [List.filter_cons, if_pos h1, List.filter_cons, if_neg h2, List.filter_nil]
        simp only [List.map_cons, List.map_nil, List.foldl_cons, List.foldl_nil]
        have q1 := p0 61
        have fin : ∀ z, Lk z → (run sds k t z).isSome = true → z.length ≤ r + 1 → Gd2 (pick (0, []) (cand g l (optS sds k g l r) (61, tlK k (t ++ [61])))) (wor g l z, z) := fun z hz hr hl => by
          rcases cas z hz hr hl with e | ⟨c, y, rfl, hc, hok, hy, hr2, hl2⟩
          · subst e
            exact q1.1
          · rcases hc with e | e
            · subst e
              exact q1.2.trans (a5 y hy hr2 hl2)
            · subst e
              exact absurd hok h2
        rcases pick_or (0, []) (cand g l (optS sds k g l r) (61, tlK k (t ++ [61]))) with e | e
        · rw [e] at fin ⊢
          exact ⟨em, rfl, rfl, Nat.zero_le _, fin⟩
        · rw [e] at fin ⊢
          exact ⟨a1, a2, a3, a4, fin⟩
    · by_cases h2 : okS sds t 47 = true
      · obtain ⟨⟨b1, b2, b3, b4⟩, b5⟩ := cnd 47 (.inr rfl) h2
        rw [List.filter_cons, if_neg h1, List.filter_cons, if_pos h2, List.filter_nil]
        simp only [List.map_cons, List.map_nil, List.foldl_cons, List.foldl_nil]
        have q1 := p0 47
        have fin : ∀ z, Lk z → (run sds k t z).isSome = true → z.length ≤ r + 1 → Gd2 (pick (0, []) (cand g l (optS sds k g l r) (47, tlK k (t ++ [47])))) (wor g l z, z) := fun z hz hr hl => by
          rcases cas z hz hr hl with e | ⟨c, y, rfl, hc, hok, hy, hr2, hl2⟩
          · subst e
            exact q1.1
          · rcases hc with e | e
            · subst e
              exact absurd hok h1
            · subst e
              exact q1.2.trans (b5 y hy hr2 hl2)
        rcases pick_or (0, []) (cand g l (optS sds k g l r) (47, tlK k (t ++ [47]))) with e | e
        · rw [e] at fin ⊢
          exact ⟨em, rfl, rfl, Nat.zero_le _, fin⟩
        · rw [e] at fin ⊢
          exact ⟨b1, b2, b3, b4, fin⟩
      · rw [List.filter_cons, if_neg h1, List.filter_cons, if_neg h2, List.filter_nil]
        simp only [List.map_nil, List.foldl_nil]
        refine ⟨em, rfl, rfl, Nat.zero_le _, fun z hz hr hl => ?_⟩
        rcases cas z hz hr hl with e | ⟨c, y, rfl, hc, hok, hy, hr2, hl2⟩
        · subst e
          exact Gd2.refl _
        · rcases hc with e | e <;> subst e
          · exact absurd hok h1
          · exact absurd hok h2
/-- where a pair more betters it, it is as long as may be -/
theorem optS_len {sds : List (List Nat)} {k : Nat} {g l : Int} {r : Nat} {t : List Nat} (h : optS sds k g l (r + 1) t ≠ optS sds k g l r t) : (optS sds k g l (r + 1) t).2.length = r + 1 := by
  have h1 := optS_is (sds := sds) (k := k) (g := g) (l := l) (r + 1) t
  have h2 := optS_is (sds := sds) (k := k) (g := g) (l := l) r t
  refine Classical.byContradiction fun hn => h (IsOpt.uniq (r := r) (t := t) ?_ h2)
  have := h1.len
  exact ⟨h1.lk, h1.ok, h1.is, by omega, fun z a b c => h1.best z a b (by omega)⟩
end Sr
namespace Sr
/-! ### all tails -/
def goals (sds : List (List Nat)) (k : Nat) (t : List Nat) : List (List Nat) := (stps sds k t).map (·.2)
def stp (sds : List (List Nat)) (k : Nat) : Nat → List (List Nat) → List (List Nat) → List (List Nat)
  | 0, ks, _ => ks
  | n + 1, ks, w => match w.getLast? with
    | none => ks
    | some t => if t ∈ ks then stp sds k n ks w.dropLast else stp sds k n (ks ++ [t]) (w.dropLast ++ goals sds k t)
def keys (sds : List (List Nat)) (k : Nat) : List (List Nat) := stp sds k 1000 [] [[]]
theorem goals_len (sds : List (List Nat)) (k : Nat) (t : List Nat) : (goals sds k t).length ≤ 2 := by
  unfold goals stps
  rw [List.length_map, List.length_map]
  exact Nat.le_trans (List.length_filter_le _ _) (by decide)
theorem mem_stps {sds : List (List Nat)} {k : Nat} {t : List Nat} {p : Nat × List Nat} : p ∈ stps sds k t ↔ (p.1 = 61 ∨ p.1 = 47) ∧ okS sds t p.1 = true ∧ p.2 = tlK k (t ++ [p.1]) := by
  unfold stps
  rw [List.mem_map]
  constructor
  · rintro ⟨c, hc, rfl⟩
    rw [List.mem_filter] at hc
    exact ⟨by simpa using hc.1, hc.2, rfl⟩
  · rintro ⟨h1, h2, h3⟩
    exact ⟨p.1, List.mem_filter.mpr ⟨by simpa using h1, h2⟩, by rw [← h3]⟩
/-- a tail: of likes, no more than k, no unlike one first -/
structure Tl (k : Nat) (t : List Nat) : Prop where
  fix : tlK k t = t
  lk : Lk t
theorem Lk.tlK {k : Nat} {z : List Nat} (h : Lk z) : Lk (Sr.tlK k z) := fun c hc => by
  unfold Sr.tlK at hc
  exact h c (List.mem_of_mem_drop ((List.dropWhile_sublist _).subset hc))
theorem Tl.nil (k : Nat) : Tl k [] := ⟨by unfold tlK; simp, fun c h => by simp at h⟩
theorem Tl.step {k : Nat} {t : List Nat} (h : Tl k t) {c : Nat} (hc : c = 61 ∨ c = 47) : Tl k (tlK k (t ++ [c])) :=
  ⟨tlK_idem _ _, Lk.tlK fun d hd => by
    rcases List.mem_append.mp hd with e | e
    · exact h.lk d e
    · rw [List.mem_singleton.mp e]; exact hc⟩
theorem Tl.goal {k : Nat} {t u : List Nat} {sds : List (List Nat)} (h : Tl k t) (hu : u ∈ goals sds k t) : Tl k u := by
  unfold goals at hu
  obtain ⟨p, hp, rfl⟩ := List.mem_map.mp hu
  obtain ⟨h1, h2, h3⟩ := mem_stps.mp hp
  rw [h3]
  exact h.step h1
theorem Tl.len {k : Nat} {t : List Nat} (h : Tl k t) : t.length ≤ k := by rw [← h.fix]; exact tlK_len _ _
/-! how many there may be -/
theorem nodup_le : ∀ {l u : List (List Nat)}, l.Nodup → (∀ x ∈ l, x ∈ u) → l.length ≤ u.length
  | [], u, _, _ => Nat.zero_le _
  | a :: l, u, hn, h => by
    rw [List.nodup_cons] at hn
    have ha := h a List.mem_cons_self
    have := nodup_le (l := l) (u := u.erase a) hn.2 fun x hx => by
      refine (List.mem_erase_of_ne ?_).mpr (h x (List.mem_cons_of_mem _ hx))
      rintro rfl
      exact hn.1 hx
    rw [List.length_erase_of_mem ha] at this
    have hp := List.length_pos_of_mem ha
    rw [List.length_cons]
    omega
def allL : Nat → List (List Nat)
  | 0 => [[]]
  | n + 1 => [] :: ((allL n).map (61 :: ·) ++ (allL n).map (47 :: ·))
theorem allL_len : ∀ n, (allL n).length + 1 = 2 ^ (n + 1)
  | 0 => rfl
  | n + 1 => by
    have := allL_len n
    rw [allL, List.length_cons, List.length_append, List.length_map, List.length_map, Nat.pow_succ, ← this]
    omega
theorem mem_allL : ∀ {n : Nat} {z : List Nat}, Lk z → z.length ≤ n → z ∈ allL n
  | 0, z, _, hz => by
    rw [List.length_eq_zero_iff.mp (Nat.le_zero.mp hz)]
    exact List.mem_singleton.mpr rfl
  | n + 1, [], _, _ => List.mem_cons_self
  | n + 1, c :: z, hl, hz => by
    have ih := mem_allL (n := n) (z := z) (fun d hd => hl d (List.mem_cons_of_mem _ hd)) (by simpa using hz)
    refine List.mem_cons_of_mem _ (List.mem_append.mpr ?_)
    rcases hl c List.mem_cons_self with e | e
    · rw [e]; exact .inl (List.mem_map.mpr ⟨z, ih, rfl⟩)
    · rw [e]; exact .inr (List.mem_map.mpr ⟨z, ih, rfl⟩)
theorem tails_le {k : Nat} (hk : k ≤ 7) {ks : List (List Nat)} (hn : ks.Nodup) (ht : ∀ t ∈ ks, Tl k t) : ks.length ≤ 255 := by
  have h1 := nodup_le hn fun x hx => mem_allL (n := 7) (ht x hx).lk (Nat.le_trans (ht x hx).len hk)
  have h2 := allL_len 7
  omega
/-- where the search for tails stands -/
structure StpI (sds : List (List Nat)) (k : Nat) (ks w : List (List Nat)) : Prop where
  nodup : ks.Nodup
  tl : ∀ t ∈ ks, Tl k t
  wtl : ∀ t ∈ w, Tl k t
  closed : ∀ t ∈ ks, ∀ u ∈ goals sds k t, u ∈ ks ∨ u ∈ w
  root : [] ∈ ks ∨ [] ∈ w
def msr (ks w : List (List Nat)) : Nat := 2 * (256 - ks.length) + w.length
theorem snoc_of {α : Type} {w : List α} {t : α} (h : w.getLast? = some t) : w = w.dropLast ++ [t] := by
  have hne : w ≠ [] := fun e => by rw [e] at h; cases h
  have := List.dropLast_concat_getLast hne
  rw [List.getLast?_eq_getLast hne] at h
  rw [Option.some.inj h] at this
  exact this.symm
theorem StpI.old {sds : List (List Nat)} {k : Nat} {ks w : List (List Nat)} {t : List Nat} (h : StpI sds k ks w) (hl : w.getLast? = some t) (ht : t ∈ ks) : StpI sds k ks w.dropLast := by
  have e := snoc_of hl
  have mem : ∀ u, u ∈ w → u ∈ ks ∨ u ∈ w.dropLast := fun u hu => by
    rw [e] at hu
    rcases List.mem_append.mp hu with q | q
    · exact .inr q
    · rw [List.mem_singleton.mp q]; exact .inl ht
  refine ⟨h.nodup, h.tl, fun u hu => h.wtl u ((List.dropLast_sublist _).subset hu), fun u hu v hv => ?_, ?_⟩
  · rcases h.closed u hu v hv with q | q
    · exact .inl q
    · exact mem v q
  · rcases h.root with q | q
    · exact .inl q
    · exact mem _ q
theorem StpI.new {sds : List (List Nat)} {k : Nat} {ks w : List (List Nat)} {t : List Nat} (h : StpI sds k ks w) (hl : w.getLast? = some t) (ht : t ∉ ks) : StpI sds k (ks ++ [t]) (w.dropLast ++ goals sds k t) := by
  have e := snoc_of hl
  have htl : Tl k t := h.wtl t (by rw [e]; exact List.mem_append_right _ (List.mem_singleton.mpr rfl))
  have mem : ∀ u, u ∈ w → u ∈ ks ++ [t] ∨ u ∈ w.dropLast ++ goals sds k t := fun u hu => by
    rw [e] at hu
    rcases List.mem_append.mp hu with q | q
    · exact .inr (List.mem_append_left _ q)
    · exact .inl (List.mem_append_right _ q)
  refine ⟨?_, fun u hu => ?_, fun u hu => ?_, fun u hu v hv => ?_, ?_⟩
  · rw [List.nodup_append]
    refine ⟨h.nodup, by simp, fun a ha b hb q => ?_⟩
    rw [List.mem_singleton.mp hb] at q
    exact ht (q ▸ ha)
  · rcases List.mem_append.mp hu with q | q
    · exact h.tl u q
    · rw [List.mem_singleton.mp q]; exact htl
  · rcases List.mem_append.mp hu with q | q
    · exact h.wtl u ((List.dropLast_sublist _).subset q)
    · exact htl.goal q
  · rcases List.mem_append.mp hu with q | q
    · rcases h.closed u q v hv with r | r
      · exact .inl (List.mem_append_left _ r)
      · exact mem v r
    · rw [List.mem_singleton.mp q] at hv
      exact .inr (List.mem_append_right _ hv)
  · rcases h.root with q | q
    · exact .inl (List.mem_append_left _ q)
    · exact mem _ q
theorem msr_old {ks w : List (List Nat)} {t : List Nat} (hl : w.getLast? = some t) : msr ks w.dropLast < msr ks w := by
  have e := congrArg List.length (snoc_of hl)
  rw [List.length_append] at e
  unfold msr
  simp only [List.length_cons, List.length_nil] at e
  omega
theorem msr_new {sds : List (List Nat)} {k : Nat} (hk : k ≤ 7) {ks w : List (List Nat)} {t : List Nat} (h : StpI sds k ks w) (hl : w.getLast? = some t) (ht : t ∉ ks) : msr (ks ++ [t]) (w.dropLast ++ goals sds k t) < msr ks w := by
  have e := congrArg List.length (snoc_of hl)
  have h1 := tails_le hk (h.new hl ht).nodup (h.new hl ht).tl
  have h2 := goals_len sds k t
  unfold msr
  simp only [List.length_append, List.length_cons, List.length_nil] at e h1 ⊢
  omega
theorem stp_is {sds : List (List Nat)} {k : Nat} (hk : k ≤ 7) : ∀ (n : Nat) (ks w : List (List Nat)), StpI sds k ks w → msr ks w < n → StpI sds k (stp sds k n ks w) []
  | 0, _, _, _, h => by omega
  | n + 1, ks, w, h, hm => by
    unfold stp
    cases hl : w.getLast? with
    | none =>
      have : w = [] := List.getLast?_eq_none_iff.mp hl
      subst this
      exact h
    | some t =>
      show StpI sds k (if t ∈ ks then _ else _) []
      by_cases ht : t ∈ ks
      · rw [if_pos ht]
        exact stp_is hk n _ _ (h.old hl ht) (by have := msr_old (ks := ks) hl; omega)
      · rw [if_neg ht]
        exact stp_is hk n _ _ (h.new hl ht) (by have := msr_new hk h hl ht; omega)
theorem StpI.start (sds : List (List Nat)) (k : Nat) : StpI sds k [] [[]] :=
  ⟨List.nodup_nil, fun t h => by simp at h, fun t h => by rw [List.mem_singleton.mp h]; exact Tl.nil k, fun t h => by simp at h, .inr (List.mem_singleton.mpr rfl)⟩
structure KeysI (sds : List (List Nat)) (k : Nat) (ks : List (List Nat)) : Prop where
  nodup : ks.Nodup
  tl : ∀ t ∈ ks, Tl k t
  closed : ∀ t ∈ ks, ∀ u ∈ goals sds k t, u ∈ ks
  root : [] ∈ ks
  len : ks.length ≤ 255
theorem keys_is {sds : List (List Nat)} {k : Nat} (hk : k ≤ 7) : KeysI sds k (keys sds k) := by
  have h := stp_is hk 1000 _ _ (StpI.start sds k) (by decide)
  refine ⟨h.nodup, h.tl, fun t ht u hu => ?_, ?_, tails_le hk h.nodup h.tl⟩
  · rcases h.closed t ht u hu with q | q
    · exact q
    · simp at q
  · rcases h.root with q | q
    · exact q
    · simp at q
theorem KeysI.step {sds : List (List Nat)} {k : Nat} {ks : List (List Nat)} (h : KeysI sds k ks) {t : List Nat} (ht : t ∈ ks) {c : Nat} (hc : c = 61 ∨ c = 47) (ho : okS sds t c = true) : tlK k (t ++ [c]) ∈ ks :=
  h.closed t ht _ (by
    unfold goals
    exact List.mem_map.mpr ⟨(c, tlK k (t ++ [c])), mem_stps.mpr ⟨hc, ho, rfl⟩, rfl⟩)
/-! ### rings -/
def rgo (k : Nat) (vis : List (List Nat)) (t : List Nat) (don : List Nat) : List Nat → List Nat
  | [] => []
  | c :: z => if tlK k (t ++ [c]) ∈ vis then (don ++ [c]).drop (vis.idxOf (tlK k (t ++ [c]))) else rgo k (vis ++ [tlK k (t ++ [c])]) (tlK k (t ++ [c])) (don ++ [c]) z
/-- the way so far: vis are all tails that were come by, behind done -/
structure RgI (sds : List (List Nat)) (k : Nat) (ks : List (List Nat)) (t0 : List Nat) (vis : List (List Nat)) (t don : List Nat) : Prop where
  len : vis.length = don.length + 1
  nodup : vis.Nodup
  mem : ∀ u ∈ vis, u ∈ ks
  at_ : ∀ i u, vis[i]? = some u → run sds k t0 (don.take i) = some u
  here : run sds k t0 don = some t
theorem RgI.start {sds : List (List Nat)} {k : Nat} {ks : List (List Nat)} {t0 : List Nat} (h : t0 ∈ ks) : RgI sds k ks t0 [t0] t0 [] :=
  ⟨rfl, by simp, fun u hu => by rw [List.mem_singleton.mp hu]; exact h, fun i u e => by
    cases i with
    | zero => exact e
    | succ i => simp at e, rfl⟩
theorem RgI.last {sds : List (List Nat)} {k : Nat} {ks : List (List Nat)} {t0 t don : List Nat} {vis : List (List Nat)} (h : RgI sds k ks t0 vis t don) : t ∈ vis := by
  have hl := h.len
  have e : vis[don.length]? = some vis[don.length] := List.getElem?_eq_getElem (by omega)
  have := h.at_ _ _ e
  rw [List.take_length, h.here] at this
  rw [Option.some.inj this]
  exact List.getElem_mem _
theorem RgI.step {sds : List (List Nat)} {k : Nat} {ks : List (List Nat)} (hk : KeysI sds k ks) {t0 t don : List Nat} {vis : List (List Nat)} (h : RgI sds k ks t0 vis t don) {c : Nat} (hc : c = 61 ∨ c = 47) (ho : okS sds t c = true) (hn : tlK k (t ++ [c]) ∉ vis) :
    RgI sds k ks t0 (vis ++ [tlK k (t ++ [c])]) (tlK k (t ++ [c])) (don ++ [c]) := by
  have hrun : run sds k t0 (don ++ [c]) = some (tlK k (t ++ [c])) := by
    rw [run_app, h.here]
    show run sds k t [c] = _
    rw [run_cons, if_pos ho]
    rfl
  refine ⟨by rw [List.length_append, List.length_append, h.len]; rfl, ?_, fun u hu => ?_, fun i u e => ?_, hrun⟩
  · rw [List.nodup_append]
    refine ⟨h.nodup, by simp, fun a ha b hb q => ?_⟩
    rw [List.mem_singleton.mp hb] at q
    exact hn (q ▸ ha)
  · rcases List.mem_append.mp hu with q | q
    · exact h.mem u q
    · rw [List.mem_singleton.mp q]
      exact hk.step (h.mem t h.last) hc ho
  · have hl := h.len
    by_cases hi : i < vis.length
    · rw [List.getElem?_append_left hi] at e
      rw [List.take_append_of_le_length (by omega)]
      exact h.at_ i u e
    · have hi2 := (List.getElem?_eq_some_iff.mp e).1
      rw [List.length_append, List.length_cons, List.length_nil] at hi2
      have : i = vis.length := by omega
      subst this
      rw [List.getElem?_append_right (Nat.le_refl _), Nat.sub_self] at e
      rw [List.take_of_length_le (by rw [List.length_append, hl]; exact Nat.le_refl _), hrun]
      exact e
/-- what a ring is found for: a way that comes by a tail twice -/
theorem rgo_is {sds : List (List Nat)} {k : Nat} {ks : List (List Nat)} (hk : KeysI sds k ks) {t0 : List Nat} : ∀ (z : List Nat) (vis : List (List Nat)) (t don : List Nat), RgI sds k ks t0 vis t don → Lk z → (run sds k t z).isSome = true →
    (∃ a r b u, don ++ z = a ++ (r ++ b) ∧ rgo k vis t don z = r ∧ r ≠ [] ∧ u ∈ ks ∧ run sds k t0 a = some u ∧ run sds k u r = some u) ∨ (rgo k vis t don z = [] ∧ don.length + z.length + 1 ≤ ks.length)
  | [], vis, t, don, h, _, _ => .inr ⟨rfl, by
      have := nodup_le h.nodup h.mem
      rw [h.len] at this
      exact this⟩
  | c :: z, vis, t, don, h, hz, hr => by
    have hc := hz c List.mem_cons_self
    rw [run_cons] at hr
    have ho : okS sds t c = true := by
      refine Classical.byContradiction fun e => ?_
      rw [if_neg e] at hr
      simp at hr
    rw [if_pos ho] at hr
    unfold rgo
    by_cases hm : tlK k (t ++ [c]) ∈ vis
    · rw [if_pos hm]
      have hj := List.idxOf_lt_length_of_mem hm
      have hg : vis[vis.idxOf (tlK k (t ++ [c]))]? = some (tlK k (t ++ [c])) := by
        rw [List.getElem?_eq_getElem hj]
        exact congrArg some (List.getElem_idxOf hj)
      have h1 := h.at_ _ _ hg
      generalize vis.idxOf (tlK k (t ++ [c])) = j at hj h1
      have hl := h.len
      have hfull : run sds k t0 (don ++ [c]) = some (tlK k (t ++ [c])) := by
        rw [run_app, h.here]
        show run sds k t [c] = _
        rw [run_cons, if_pos ho]
        rfl
      have esp : (don ++ [c]).take j = don.take j := List.take_append_of_le_length (by omega)
      have e2 : don ++ [c] = don.take j ++ (don ++ [c]).drop j := by
        rw [← esp, List.take_append_drop]
      refine .inl ⟨don.take j, (don ++ [c]).drop j, z, tlK k (t ++ [c]), ?_, rfl, fun q => ?_, h.mem _ hm, h1, ?_⟩
      · rw [← List.append_assoc, ← e2]
        simp
      · have := congrArg List.length q
        simp only [List.length_drop, List.length_append, List.length_cons, List.length_nil] at this
        omega
      · rw [e2, run_app, h1] at hfull
        exact hfull
    · rw [if_neg hm]
      have := rgo_is hk z _ _ _ (h.step hk hc ho hm) (fun d hd => hz d (List.mem_cons_of_mem _ hd)) hr
      rw [show don ++ c :: z = don ++ [c] ++ z by simp, show don.length + (c :: z).length = (don ++ [c]).length + z.length by simp; omega]
      exact this
/-! ### what bar tells -/
def betd (sds : List (List Nat)) (k : Nat) (g l : Int) (ks : List (List Nat)) (r : Nat) : List (List Nat) := ks.filter fun t => decide (optS sds k g l (r + 1) t ≠ optS sds k g l r t)
def barGo (sds : List (List Nat)) (k : Nat) (g l : Int) (ks : List (List Nat)) : Nat → Nat → BarR
  | 0, _ => .bar 0 []
  | n + 1, r => match betd sds k g l ks r with
    | [] => .bar (optS sds k g l r []).1 (optS sds k g l r []).2
    | t :: _ => if rgo k [t] t [] (optS sds k g l (r + 1) t).2 = [] then barGo sds k g l ks n (r + 1) else .ring [] (rgo k [t] t [] (optS sds k g l (r + 1) t).2)
theorem opt_fix {sds : List (List Nat)} {k : Nat} {g l : Int} {ks : List (List Nat)} (hk : KeysI sds k ks) {r : Nat} (hf : ∀ t ∈ ks, optS sds k g l (r + 1) t = optS sds k g l r t) : ∀ n, ∀ t ∈ ks, optS sds k g l (r + n) t = optS sds k g l r t
  | 0, t, _ => rfl
  | n + 1, t, ht => by
    have ih := opt_fix hk hf n
    rw [← hf t ht]
    show ((stps sds k t).map (cand g l (optS sds k g l (r + n)))).foldl pick (0, []) = ((stps sds k t).map (cand g l (optS sds k g l r))).foldl pick (0, [])
    congr 1
    refine List.map_congr_left fun p hp => ?_
    unfold cand
    rw [ih p.2 (hk.closed t ht _ (by unfold goals; exact List.mem_map.mpr ⟨p, hp, rfl⟩))]
theorem fix_bar {sds : List (List Nat)} {k : Nat} {g l : Int} {ks : List (List Nat)} (hs : SdK k sds) (hk : KeysI sds k ks) {r : Nat} (hr : r ≤ 1000) (hf : ∀ t ∈ ks, optS sds k g l (r + 1) t = optS sds k g l r t) :
    IsBar sds g l (optS sds k g l r []).1 (optS sds k g l r []).2 := by
  have h := optS_is (sds := sds) (k := k) (g := g) (l := l) r []
  have big : ∀ z, Lk z → Free sds z → Gd2 (optS sds k g l r []) (wor g l z, z) := fun z hz hfz => by
    have h2 := optS_is (sds := sds) (k := k) (g := g) (l := l) (r + z.length) []
    rw [opt_fix hk hf z.length [] hk.root] at h2
    exact h2.best z hz ((free_run hs).mp hfz) (by omega)
  refine ⟨h.lk, (free_run hs).mpr h.ok, h.is, fun z hz hfz => ?_, fun z hz hfz e => ?_, by have := h.len; omega⟩
  · rcases big z hz hfz with q | ⟨q, _⟩
    · exact Int.le_of_lt q
    · exact Int.le_of_eq q.symm
  · rcases big z hz hfz with q | ⟨_, q⟩
    · have q' : wor g l z < (optS sds k g l r []).1 := q
      omega
    · exact q
theorem ring_pos {sds : List (List Nat)} {k : Nat} {g l : Int} {r : Nat} {t a q b u : List Nat} (h : IsOpt sds k g l r t (optS sds k g l r t)) (e : (optS sds k g l r t).2 = a ++ (q ++ b)) (hq : q ≠ []) (h1 : run sds k t a = some u) (h2 : run sds k u q = some u) : 0 < wor g l q := by
  have hlk := h.lk
  have hok := h.ok
  have his := h.is
  have hle := h.len
  rw [e] at hlk hok his hle
  have hql : 0 < q.length := by
    cases q with
    | nil => exact absurd rfl hq
    | cons c q => exact Nat.succ_pos _
  have hb := h.best (a ++ b) (fun c hc => hlk c (by
    rcases List.mem_append.mp hc with x | x
    · exact List.mem_append_left _ x
    · exact List.mem_append_right _ (List.mem_append_right _ x))) (by
    rw [run_app, h1] at hok ⊢
    rw [Option.bind_some, run_app, h2] at hok
    exact hok) (by simp only [List.length_append] at hle ⊢; omega)
  rw [wor_app, wor_app] at his
  rcases hb with x | ⟨x, y⟩
  · have x' : wor g l (a ++ b) < (optS sds k g l r t).1 := x
    rw [wor_app] at x'
    omega
  · have y' : Sle (optS sds k g l r t).2 (a ++ b) := y
    have := y'.len
    rw [e] at this
    simp only [List.length_append] at this
    omega
theorem barGo_ok {sds : List (List Nat)} {k : Nat} {g l : Int} {ks : List (List Nat)} (hs : SdK k sds) (hk : KeysI sds k ks) : ∀ (n r : Nat), 256 < n + r → r ≤ 256 → BarOk sds g l (barGo sds k g l ks n r)
  | 0, r, h1, h2 => by omega
  | n + 1, r, h1, h2 => by
    unfold barGo
    cases hb : betd sds k g l ks r with
    | nil =>
      refine fix_bar hs hk (by omega) fun t ht => ?_
      refine Classical.byContradiction fun e => ?_
      have : t ∈ betd sds k g l ks r := List.mem_filter.mpr ⟨ht, decide_eq_true e⟩
      rw [hb] at this
      simp at this
    | cons t r2 =>
      have hm : t ∈ betd sds k g l ks r := by rw [hb]; exact List.mem_cons_self
      obtain ⟨ht, hne⟩ := List.mem_filter.mp hm
      have hne := of_decide_eq_true hne
      have hlen := optS_len hne
      have ho := optS_is (sds := sds) (k := k) (g := g) (l := l) (r + 1) t
      show BarOk sds g l (if rgo k [t] t [] (optS sds k g l (r + 1) t).2 = [] then _ else _)
      rcases rgo_is hk (optS sds k g l (r + 1) t).2 [t] t [] (RgI.start ht) ho.lk ho.ok with ⟨a, q, b, u, e1, e2, e3, e4, e5, e6⟩ | ⟨e1, e2⟩
      · rw [if_neg (by rw [e2]; exact e3), e2]
        rw [List.nil_append] at e1
        have hu := hk.tl u e4
        have hql : q.length ≤ 1000 := by
          have := congrArg List.length e1
          simp only [List.length_append] at this
          omega
        have hlk := ho.lk
        rw [e1] at hlk
        refine ⟨fun c hc => by simp at hc, fun c hc => hlk c (List.mem_append_right _ (List.mem_append_left _ hc)), fun m => ?_, ring_pos ho e1 e3 e5 e6, Nat.zero_le _, hql⟩
        rw [List.nil_append]
        exact run_free hs hu.fix (by rw [run_rp e6]; rfl)
      · rw [if_pos e1]
        rw [hlen, List.length_nil] at e2
        have := hk.len
        exact barGo_ok hs hk n (r + 1) (by omega) (by omega)
def mxL : List Nat → Nat
  | [] => 0
  | a :: l => max a (mxL l)
theorem mxL_ge : ∀ {l : List Nat} {x : Nat}, x ∈ l → x ≤ mxL l
  | a :: l, x, h => by
    rcases List.mem_cons.mp h with e | e
    · subst e; exact Nat.le_max_left _ _
    · exact Nat.le_trans (mxL_ge e) (Nat.le_max_right _ _)
theorem mxL_le : ∀ {l : List Nat} {m : Nat}, (∀ x ∈ l, x ≤ m) → mxL l ≤ m
  | [], m, _ => Nat.zero_le _
  | a :: l, m, h => Nat.max_le.mpr ⟨h a List.mem_cons_self, mxL_le fun x hx => h x (List.mem_cons_of_mem _ hx)⟩
def kM (sds : List (List Nat)) : Nat := mxL (sds.map List.length) - 1
def barM (sds : List (List Nat)) (g l : Int) : BarR := barGo sds (kM sds) g l (keys sds (kM sds)) 300 0
theorem SdK.of {n : Nat} {sds : List (List Nat)} (h : ∀ sd ∈ sds, Sd n sd) : SdK (kM sds) sds :=
  ⟨fun sd hs => (h sd hs).one, fun sd hs => by
    have := mxL_ge (List.mem_map.mpr ⟨sd, hs, rfl⟩ : sd.length ∈ sds.map List.length)
    have h1 := (h sd hs).one
    unfold kM
    omega, fun sd hs => (h sd hs).first⟩
theorem kM_le {sds : List (List Nat)} (h : ∀ sd ∈ sds, Sd 8 sd) : kM sds ≤ 7 := by
  have : mxL (sds.map List.length) ≤ 8 := mxL_le fun x hx => by
    obtain ⟨sd, hs, rfl⟩ := List.mem_map.mp hx
    exact (h sd hs).most
  unfold kM
  omega
theorem barM_ok {sds : List (List Nat)} {g l : Int} (h : ∀ sd ∈ sds, Sd 8 sd) : BarOk sds g l (barM sds g l) :=
  barGo_ok (SdK.of h) (keys_is (kM_le h)) 300 0 (by decide) (by decide)
end Sr

namespace L2
open PySem PySem.Spec PyProof.Rows LamX
/-! ### a lambda that captures nothing, as a known object -/
structure LF where
  qual : Str
  params : Arguments
  body : Expr
  scope : Scope
  c : Addr
abbrev LF.obj (F : LF) (pm ctv : Value) : Obj := PySem.W.kla_obj "<lambda>" F.qual F.params F.body F.scope [] pm F.c ctv
def LamO (f : Addr) (F : LF) : HO := .ext fun h => ∃ (pm ctv : Value), h.get? f = some (F.obj pm ctv)
theorem lamO_ne {f : Addr} {F : LF} (ps : Array Value) : LamO f F ≠ .tbl ps := fun z => by
  unfold LamO at z
  cases z
theorem upd_none' {H : Hp} {a b : Addr} {o : HO} (e : upd H a o b = Option.none) : H b = Option.none := by
  unfold upd at e
  split at e
  · cases e
  · exact e
section
variable {X : Cx} {pins : List (Addr × Obj)} {σ : St} {H : Hp} {s : Shared}
theorem inv_lam {F : LF} {t' : Nat} {pm ctv : Value} (I : Inv X pins σ H s) :
    Inv X pins σ (upd H s.heap.objs.size (LamO s.heap.objs.size F)) { s with heap := s.heap.push (F.obj pm ctv), toks := t' } := by
  refine I.laid (a := s.heap.objs.size) (fun b u e => Heap.get?_push_of_some _ e) (Nat.le_refl _) ?_
  have e : (s.heap.push (F.obj pm ctv)).get? s.heap.objs.size = some (F.obj pm ctv) := Heap.get?_push_size _ rfl
  exact ⟨⟨pm, ctv, e⟩, ⟨_, e⟩, fun h1 h2 ⟨p, t, z⟩ st => ⟨p, t, st _ z⟩⟩
end
/-! ### heaps between which the table at P may have grown -/
theorem tabS_upd {H : Hp} {P D : Addr} {q : Str} {o : HO} (t : TabS H P q) (h1 : ∀ ps, H D ≠ some (.tbl ps)) (h2 : ∀ φ, H D ≠ some (.ext φ)) : TabS (upd H D o) P q := by
  obtain ⟨ps, a, b, c⟩ := t
  refine ⟨ps, by rw [upd_ne (fun z => h1 ps (by rw [← z]; exact a))]; exact a, b, fun pos cv hc => ?_⟩
  obtain ⟨c0, e1, e2⟩ := c pos cv hc
  exact ⟨c0, e1, by rw [upd_ne (fun z => h2 _ (by rw [← z]; exact e2))]; exact e2⟩
structure SmT (P : Addr) (q : Str) (H H' : Hp) : Prop where
  k : ∀ b o, H b = some o → (∀ ps, o ≠ .tbl ps) → H' b = some o
  k' : ∀ b o, b ≠ P → H b = some o → H' b = some o
  t : TabS H P q → TabS H' P q
section
variable {P : Addr} {q : Str} {H H1 H2 H' : Hp}
theorem SmT.refl (H : Hp) : SmT P q H H := ⟨fun _ _ h _ => h, fun _ _ _ h => h, fun h => h⟩
theorem SmT.trans (a : SmT P q H H1) (b : SmT P q H1 H2) : SmT P q H H2 := ⟨fun c o h n => b.k c o (a.k c o h n) n, fun c o n h => b.k' c o n (a.k' c o n h), fun h => b.t (a.t h)⟩
theorem SmT.of (e : Same H H') : SmT P q H H' := ⟨fun b o h _ => e b o h, fun b o _ h => e b o h, fun h => h.ext e⟩
theorem SmT.new {p : Addr} {o : HO} (h : H p = none) : SmT P q H (upd H p o) := SmT.of fun b x e => by
  rw [upd_ne (ne_of_none e h)]
  exact e
theorem SmT.lst (e : SmT P q H H') {a : Addr} {xs : List V} (h : H a = some (.lst xs)) : H' a = some (.lst xs) := e.k _ _ h fun _ z => nomatch z
theorem SmT.tup (e : SmT P q H H') {a : Addr} {xs : List V} (h : H a = some (.tup xs)) : H' a = some (.tup xs) := e.k _ _ h fun _ z => nomatch z
theorem SmT.dK (e : SmT P q H H') {a : Addr} {xs : List (Key × V)} (h : H a = some (.dK xs)) : H' a = some (.dK xs) := e.k _ _ h fun _ z => nomatch z
theorem SmT.frz (e : SmT P q H H') {a : Addr} {o : Obj} {u : HO} (h : H a = some (.frz o u)) : H' a = some (.frz o u) := e.k _ _ h fun _ z => nomatch z
theorem SmT.rdD (e : SmT P q H H') {a : Addr} {xs : List (Key × V)} (h : Rd H a (.dK xs)) : Rd H' a (.dK xs) := by
  rcases h with h | ⟨o, h⟩
  · exact .inl (e.dK h)
  · exact .inr ⟨o, e.frz h⟩
theorem SmT.seq {K : PySem.W.Frag} {a : Addr} {xs : List V} (e : SmT P q H H') (h : SqL K H a xs) : SqL K H' a xs := by
  rcases h with (h | ⟨o, h⟩) | h
  · exact .inl (.inl (e.lst h))
  · exact .inl (.inr ⟨o, e.frz h⟩)
  · exact .inr h
theorem SmT.seqT {K : PySem.W.Frag} {a : Addr} {xs : List V} (e : SmT P q H H') (h : SqT K H a xs) : SqT K H' a xs := by
  rcases h with (h | ⟨o, h⟩) | h
  · exact .inl (.inl (e.tup h))
  · exact .inl (.inr ⟨o, e.frz h⟩)
  · exact .inr h
theorem SmT.free (e : SmT P q H H') (hT : TabS H P q) {l : Addr} (h : H' l = none) : H l = none := by
  cases z : H l with
  | none => rfl
  | some o =>
    by_cases hl : l = P
    · subst hl
      obtain ⟨ps', h1, _⟩ := e.t hT
      rw [h1] at h
      cases h
    · rw [e.k' l o hl z] at h
      cases h
/-- a thing that was new at the start, no table, no code object, is written -/
theorem SmT.put (e : SmT P q H H') {D : Addr} {o : HO} (hD : H D = none) (h1 : ∀ ps, H' D ≠ some (.tbl ps)) (h2 : ∀ φ, H' D ≠ some (.ext φ)) : SmT P q H (upd H' D o) :=
  ⟨fun b x hb n => by rw [upd_ne (ne_of_none hb hD)]; exact e.k b x hb n, fun b x hn hb => by rw [upd_ne (ne_of_none hb hD)]; exact e.k' b x hn hb, fun t => tabS_upd (e.t t) h1 h2⟩
theorem SmT.putD (e : SmT P q H H') {D : Addr} {o : HO} {kvs : List (Key × V)} (hD : H D = none) (h : H' D = some (.dK kvs)) : SmT P q H (upd H' D o) :=
  e.put hD (fun _ z => by rw [h] at z; cases z) fun _ z => by rw [h] at z; cases z
theorem SmT.putL (e : SmT P q H H') {D : Addr} {o : HO} {xs : List V} (hD : H D = none) (h : H' D = some (.lst xs)) : SmT P q H (upd H' D o) :=
  e.put hD (fun _ z => by rw [h] at z; cases z) fun _ z => by rw [h] at z; cases z
theorem SmT.lock {sp : Addr} {od : Obj} {kvs : List (Key × V)} (hd : H sp = some (.dK kvs)) (e : SmT P q (upd H sp (.frz od (.dK kvs))) H2) : SmT P q H (upd H2 sp (.dK kvs)) := by
  have hf : H2 sp = some (.frz od (.dK kvs)) := e.frz upd_same
  refine ⟨fun b o hb n => ?_, fun b o hn hb => ?_, fun t => tabS_upd (e.t (tabS_upd t (fun _ z => by rw [hd] at z; cases z) fun _ z => by rw [hd] at z; cases z)) (fun _ z => by rw [hf] at z; cases z) fun _ z => by rw [hf] at z; cases z⟩
  · by_cases h : b = sp
    · rw [h, hd] at hb
      rw [h, upd_same]
      exact hb
    · rw [upd_ne h]
      exact e.k b o (by rw [upd_ne h]; exact hb) n
  · by_cases h : b = sp
    · rw [h, hd] at hb
      rw [h, upd_same]
      exact hb
    · rw [upd_ne h]
      exact e.k' b o hn (by rw [upd_ne h]; exact hb)
theorem Same.lockD {sp : Addr} {od : Obj} {kvs : List (Key × V)} (hd : H sp = some (.dK kvs)) (e : Same (upd H sp (.frz od (.dK kvs))) H2) : Same H (upd H2 sp (.dK kvs)) := fun b o hb => by
  by_cases h : b = sp
  · rw [h, hd] at hb
    rw [h, upd_same]
    exact hb
  · rw [upd_ne h]
    exact e b o (by rw [upd_ne h]; exact hb)
theorem Same.putN (e : Same H H') {D : Addr} {o : HO} (hD : H D = none) : Same H (upd H' D o) := fun b x hb => by
  rw [upd_ne (ne_of_none hb hD)]
  exact e b x hb
theorem Same.rdD (e : Same H H') {a : Addr} {xs : List (Key × V)} (h : Rd H a (.dK xs)) : Rd H' a (.dK xs) := by
  rcases h with h | ⟨o, h⟩
  · exact .inl (e _ _ h)
  · exact .inr ⟨o, e _ _ h⟩
end
def tLamF (P : Addr) (q : Str) (params : Arguments) (body : Expr) (scope : Scope) : TE := fun _ H Q => TabS H P q ∧
  ∀ (f c' : Addr) (H1 : Hp), SmT P q H H1 → H f = none → H1 f = some (LamO f ⟨q, params, body, scope, c'⟩) → H1 c' = some (CodeO c' q) → Q (.ref f) H1
theorem pe_lamF {X : Cx} {c P : Addr} {params : Arguments} {body : Expr} {scope : Scope} {pos : Pos} (TB : TabB X.base X.mg c P) (hcode : X.env.code = .ref c) (hcl : closureFor scope X.env = pure []) (hdef : defaultsOf params X.env = ([], [])) :
    PE X (.Lambda params body scope pos) (tLamF P (X.env.qual ++ "<lambda>") params body scope) := by
  refine ⟨fun pins s σ H Q I h => ?_⟩
  obtain ⟨⟨ps, hP, ht, ha⟩, h⟩ := h
  refine PySem.W.kla_eval hdef ?_
  have bP : s.heap.BuiltinsAt X.mg P := TB.bm.keeps I.bk
  have hP' : s.heap.get? P = some { cls := .none, data := .fields ps } := I.hok P _ hP
  cases hc : codeAmong pos ps.toList with
  | none =>
    refine PySem.W.kla_makeFunction (mg := X.mg) (c := c) (P := P) (ps := ps) hcl I.ok.glob (I.mod.glob.keeps I.bk) hcode (TB.code.keeps I.bk) hP' ht hc TB.gP bP fun c' ctv h' tk hx hge hlt hrec htb => ?_
    obtain ⟨c2, oc, vs, t, e2, hoc, hd, hv⟩ := hrec
    cases e2
    have nC : H c' = none := I.hok.fresh hge
    have I1 := inv_table (t' := tk) (more := #[rawInt pos.line, rawInt pos.col, .ref c']) (h' := h') I hP (fun b o hb e => hx b o hb e) htb hge ⟨oc, vs, t, hoc, hd, hv⟩
    have hE : ExtN H (upd (upd H P (.tbl (ps ++ #[rawInt pos.line, rawInt pos.col, .ref c']))) c' (CodeO c' (X.env.qual ++ "<lambda>"))) := fun b o e n => by
      rw [upd_ne (ne_of_none e nC), upd_ne (fun z => n ps (Option.some.inj (e.symm.trans (by rw [z]; exact hP))))]
      exact e
    have hE' : ∀ b o, b ≠ P → H b = some o → upd (upd H P (.tbl (ps ++ #[rawInt pos.line, rawInt pos.col, .ref c']))) c' (CodeO c' (X.env.qual ++ "<lambda>")) b = some o := fun b o n e => by
      rw [upd_ne (ne_of_none e nC), upd_ne n]
      exact e
    have eL : (ps ++ #[rawInt pos.line, rawInt pos.col, .ref c']).toList = ps.toList ++ [rawInt pos.line, rawInt pos.col, .ref c'] := by simp
    have T1 : TabS (upd (upd H P (.tbl (ps ++ #[rawInt pos.line, rawInt pos.col, .ref c']))) c' (CodeO c' (X.env.qual ++ "<lambda>"))) P (X.env.qual ++ "<lambda>") := by
      refine ⟨_, by rw [upd_ne (ne_of_none hP nC), upd_same], by rw [eL]; exact PySem.TriplesOk_snoc _ _ _ _ ht, fun p' cv hcv => ?_⟩
      rw [eL] at hcv
      rcases among_app _ ht hcv with z | z
      · obtain ⟨c0, e1, e2⟩ := ha p' cv z
        exact ⟨c0, e1, hE _ _ e2 codeO_ne⟩
      · exact ⟨c', z, upd_same⟩
    have hcc : upd (upd H P (.tbl (ps ++ #[rawInt pos.line, rawInt pos.col, .ref c']))) c' (CodeO c' (X.env.qual ++ "<lambda>")) c' = some (CodeO c' (X.env.qual ++ "<lambda>")) := upd_same
    generalize upd (upd H P (.tbl (ps ++ #[rawInt pos.line, rawInt pos.col, .ref c']))) c' (CodeO c' (X.env.qual ++ "<lambda>")) = H1 at I1 hE hE' T1 hcc
    have nf : H1 h'.objs.size = none := I1.hok.fresh (Nat.le_refl _)
    have sm : ∀ b o, H1 b = some o → upd H1 h'.objs.size (LamO h'.objs.size ⟨X.env.qual ++ "<lambda>", params, body, scope, c'⟩) b = some o := fun b o e => by
      rw [upd_ne (ne_of_none e nf)]
      exact e
    have nfH : H h'.objs.size = none := I.hok.fresh (Nat.le_trans hge (Nat.le_of_lt hlt))
    exact ⟨.ref h'.objs.size, _, inv_lam (F := ⟨X.env.qual ++ "<lambda>", params, body, scope, c'⟩) (t' := tk) I1, rfl, h _ c' _ (SmT.trans ⟨fun b o e n => hE b o e n, hE', fun _ => T1⟩ (SmT.of sm)) nfH upd_same (sm _ _ hcc)⟩
  | some cv =>
    obtain ⟨c', e, hco⟩ := ha pos cv hc
    subst e
    refine PySem.W.kla_makeFunctionHit (mg := X.mg) (c := c) (P := P) (ps := ps) hcl I.ok.glob (I.mod.glob.keeps I.bk) hcode (TB.code.keeps I.bk) hP' ht hc bP fun ctv h' tk hx hsz => ?_
    have I1 : Inv X pins σ H { s with heap := h', toks := tk } := I.kept hx
    have nf : H h'.objs.size = none := I.hok.fresh hsz
    have sm : ∀ b o, H b = some o → upd H h'.objs.size (LamO h'.objs.size ⟨X.env.qual ++ "<lambda>", params, body, scope, c'⟩) b = some o := fun b o e => by
      rw [upd_ne (ne_of_none e nf)]
      exact e
    exact ⟨.ref h'.objs.size, _, inv_lam (F := ⟨X.env.qual ++ "<lambda>", params, body, scope, c'⟩) (t' := tk) I1, rfl, h _ c' _ (SmT.of sm) nf upd_same (sm _ _ hco)⟩
/-! ### its call -/
theorem lam_call {P : Program} {w : World} {K : PySem.W.Frag} {mg : Str → Option Value} {base : Heap} {k : Nat} {F : LF} {f : Addr} {pm ctv : Value} {N ps : List Str} {A : Around} {outer : List Env} {s : Shared} {H : Hp} {us : List Value} {vs : List V} {Q : VK}
    (S : FnScope N ps F.scope) (ho : s.heap.get? f = some (F.obj pm ctv)) (hcode : s.heap.CodeRec (.ref F.c) F.qual) (hb : bindArgs (PySem.W.kla_fn "<lambda>" F.qual F.params F.body F.scope [] pm (.ref F.c) ctv) ⟨us, []⟩ = pure (ps.zip us))
    (r : Vals vs us) (hl : vs.length = ps.length) (hr : Room (k + 1) A) (e0 : Env0 P w K mg base A outer s H)
    (hbody : Room k (A.deeper (envOfC F.qual F.scope s.heap.objs.size f (.ref F.c))) → ∃ t, PE (cxOf CX0 P w K mg base N F.qual F.scope f (.ref F.c) A outer s H E0) F.body t ∧ t (start N vs) H Q) :
    codeAny (model P w) A (.call (.ref f) ⟨us, []⟩) (CR CX0 outer P w H s Q E0) s := by
  have lim : s.heap.NoLimit := e0.mod.nolimit.keeps fun b o e => (e0.bs b o e).1
  have hkind : ∀ y ∈ ps.zip us, F.scope.names.lookup y.1 = some .local ∨ (F.scope.names.lookup y.1 = some .cell ∧ ((cellsFrom (s.heap.objs.size + 1) F.scope.names []).lookup y.1).isSome = true) := fun ⟨n, v⟩ hy => by
    rcases S.par n (List.of_mem_zip hy).1 with q | q
    · exact .inl q
    · exact .inr ⟨q, PySem.W.cellsFrom_some _ _ _ (.inl q)⟩
  refine PySem.W.kla_callFunE hr.depth ho rfl S.co S.gen rfl hcode ?_
  rw [hb]
  refine wpAny_pure ?_
  refine wpAny_newFunctionEnv_cells S.kind hkind fun env he s1 x => ?_
  subst he
  refine ⟨lim.keeps x.toInCall.keep, ?_⟩
  obtain ⟨t, ht, hq⟩ := hbody (hr.deeper _)
  have I : Inv (cxOf CX0 P w K mg base N F.qual F.scope f (.ref F.c) A outer s H E0) [] (start N vs) H s1 := inv_start S hr.hd e0 hl r x
  refine PySem.W.kla_codeExpr (wpAny_mono (ht.run [] s1 (start N vs) H Q I hq) (fun v s' hs => ?_) fun e s' hs => hs)
  obtain ⟨w', H', J, rv, q⟩ := hs
  exact ⟨w', H', J.os, J.bare, J.base, J.hok, rv, q⟩
/-! ### max(xs, key=lambda x: ..), the keys pairs of ints -/
def MxIt (H : Hp) (t : Addr) (p : Int × List Nat) : Prop := H t = some (.tup [.int p.1, .str (Sr.S p.2)]) ∧ p.2.length ≤ 100000
def keyT (p : Int × List Nat) : HO := .tup [.int p.1, .int (-((p.2.length : Nat) : Int))]
def rMaxK (K : PySem.W.Frag) (q : Str) (params : Arguments) (body : Expr) (scope : Scope) : List V → List V → Hp → VK → Prop := fun vs zs H Q => ∃ (a f c' : Addr) (ts : List Addr) (p0 : Int × List Nat) (ps : List (Int × List Nat)),
  vs = [V.ref a] ∧ zs = [V.ref f] ∧ SqL K H a (ts.map V.ref) ∧ H f = some (LamO f ⟨q, params, body, scope, c'⟩) ∧ H c' = some (CodeO c' q) ∧ ts.length = ps.length + 1 ∧ (∀ (i : Nat) t p, ts[i]? = some t → (p0 :: ps)[i]? = some p → MxIt H t p) ∧
  ∀ (i : Nat) t H', ts[i]? = some t → (p0 :: ps)[i]? = some (ps.foldl Sr.pick p0) → Same H H' → Q (.ref t) H'
theorem pair_reads {X : Cx} {pins : List (Addr × Obj)} {σ : St} {H : Hp} {s : Shared} {a : Addr} {x y : Int} (I : Inv X pins σ H s) (h : H a = some (.tup [.int x, .int y])) : ∃ as, Reads s.heap (.ref a) (.tuple [.int x, .int y]) as := by
  obtain ⟨its, r, ⟨o, ho, hc, n, hd⟩, _⟩ := I.tuple (SqT.of h)
  obtain ⟨u, w, rfl, ⟨t1, rfl⟩, ⟨t2, rfl⟩⟩ := vals2 r
  exact ⟨_, .tuple ho hc hd (.cons (.int _ _) (.cons (.int _ _) .nil))⟩
theorem vals_refs_eq : ∀ {ts : List Addr} {us : List Value}, Vals (ts.map V.ref) us → us = ts.map Value.ref
  | [], _, .nil => rfl
  | t :: ts, _, .cons r rr => by
    have e : _ = Value.ref t := r
    rw [e, vals_refs_eq rr]
    rfl
theorem bet_lt (p q : Int × List Nat) : PySem.W.dataLt (.tuple [.int q.1, .int (-((q.2.length : Nat) : Int))]) (.tuple [.int p.1, .int (-((p.2.length : Nat) : Int))]) = Sr.bet q p := by
  rw [PySem.W.dataLt_ii]
  unfold Sr.bet
  rw [Bool.eq_iff_iff]
  simp only [decide_eq_true_eq, Bool.or_eq_true, Bool.and_eq_true]
  omega
section
variable {X : Cx} {k : Nat} {q y : Str} {params : Arguments} {body : Expr} {scope : Scope} {N : List Str} {tb : TE}
theorem max_loop (hc : X.calm = true) (hr : Room (k + 2) X.A) (S : FnScope N [y] scope) (hb : ∀ (c : Addr) (pm ctv u : Value), bindArgs (PySem.W.kla_fn "<lambda>" q params body scope [] pm (.ref c) ctv) ⟨[u], []⟩ = pure ([y].zip [u]))
    (hbody : ∀ (c f : Addr) (A : Around) (outer : List Env) (s : Shared) (H : Hp), Room k (A.deeper (envOfC q scope s.heap.objs.size f (.ref c))) → PE (cxOf CX0 X.prog X.w X.K X.mg X.base N q scope f (.ref c) A outer s H E0) body tb)
    (hkey : ∀ (t : Addr) (p : Int × List Nat) (H : Hp) (Q : VK), MxIt H t p → (∀ kp H', Same H H' → H kp = none → H' kp = some (keyT p) → Q (.ref kp) H') → tb (start N [.ref t]) H Q)
    {pins : List (Addr × Obj)} {σ : St} {H0 : Hp} {a f c' I0 S0 : Addr} {ts : List Addr} {p0 : Int × List Nat} {ps : List (Int × List Nat)} {R : Result → Shared → Prop} (hs0 : SqL X.K H0 a (ts.map V.ref)) (hf0 : H0 f = some (LamO f ⟨q, params, body, scope, c'⟩)) (hc0 : H0 c' = some (CodeO c' q))
    (hlen : ts.length = ps.length + 1) (hit0 : ∀ (i : Nat) t p, ts[i]? = some t → (p0 :: ps)[i]? = some p → MxIt H0 t p) (hfp : FpOk X pins H0 I0) (haI : a ≠ I0)
    (hR : ∀ (i : Nat) t H' s', ts[i]? = some t → (p0 :: ps)[i]? = some (ps.foldl Sr.pick p0) → Same H0 H' → Inv X pins σ H' s' → R (.ok (.ret (.ref t))) s') :
    ∀ (r j : Nat) (s : Shared) (H : Hp) (cur : List V), ts.length - j = r → j ≤ ts.length → Inv X pins σ H s → Same H0 H → H I0 = none → s.heap.IsListIter I0 a j → H S0 = some (.lst cur) → H0 S0 = none →
      (j = 0 ∧ cur = [] ∨ ∃ (n i : Nat) (t kp : Addr), j = n + 1 ∧ cur = [.ref t, .ref kp] ∧ ts[i]? = some t ∧ (p0 :: ps)[i]? = some ((ps.take n).foldl Sr.pick p0) ∧ H kp = some (keyT ((ps.take n).foldl Sr.pick p0))) →
      codeAny (model X.prog X.w) X.A (.builtin "max.loop" ⟨[.ref I0, .ref f, .ref S0], []⟩) R s := by
  have hname : (toString "max" ++ toString ".loop" : String) = "max.loop" := by decide
  have hu := hr.units
  have itl : ∀ {H : Hp} {s : Shared}, Inv X pins σ H s → Same H0 H → s.heap.IsList a (ts.map Value.ref).toArray := fun {H s} I sm => by
    obtain ⟨its, rv, hl, _⟩ := I.list (sm.seq hs0)
    rw [← vals_refs_eq rv]
    exact hl.isList
  have hsz : (ts.map Value.ref).toArray.size = ts.length := by rw [List.size_toArray, List.length_map]
  intro r
  induction r with
  | zero =>
    intro j s H cur hr0 hj I sm nI hit hS nS hcur
    have hjn : j = ts.length := by omega
    have hh : X.A.handled = none := I.ok.hd hc
    have W := Walks.list (prog := X.prog) (w := X.w) (A := X.A.in1) hh I0 a haI (ts.map Value.ref).toArray
    obtain ⟨n, i, t, kp, ej, rfl, ht, hp, hk⟩ : ∃ (n i : Nat) (t kp : Addr), j = n + 1 ∧ cur = [.ref t, .ref kp] ∧ ts[i]? = some t ∧ (p0 :: ps)[i]? = some ((ps.take n).foldl Sr.pick p0) ∧ H kp = some (keyT ((ps.take n).foldl Sr.pick p0)) := by
      rcases hcur with ⟨e, _⟩ | e
      · omega
      · exact e
    obtain ⟨_, its, ne, rv, _, hSo⟩ := I.lstM hS
    obtain ⟨u1, u2, rfl, e1, e2⟩ := vals2 rv
    obtain rfl : u1 = Value.ref t := e1
    obtain rfl : u2 = Value.ref kp := e2
    have nSI : S0 ≠ I0 := fun z => by rw [z, nI] at hS; cases hS
    refine codeAny_builtin F.entry_max_loop ?_
    rw [Around.under_plainId F.plain_max_loop _]
    show wpAny _ X.A.in1 (seqItems? (.ref S0) >>= _) _ _ s
    refine wpAny_bind (wpAny_seqItems hSo rfl ?_)
    show wpAny _ X.A.in1 (tryCatch (pyNext (.ref I0)) _ >>= _) _ _ s
    refine wpAny_bind (wpAny_tryCatch (W.done _ _ _ ⟨by rw [hsz, ← hjn]; exact hit, itl I sm⟩ fun h' tk' hk' => ?_))
    have I1 : Inv X pins σ H { s with heap := h', toks := tk' } := I.turned (t' := tk') (fun b o hb e => hk' b o (by simpa using hb) e) nI hfp.2.1 hfp.2.2.2.1 hfp.2.2.2.2.1 hfp.2.2.2.2.2
    have hS' := hk' S0 _ (by simpa using nSI) hSo
    show wpAny _ X.A.in1 (updateSeq S0 (fun _ => #[]) >>= _) _ _ _
    refine wpAny_bind ?_
    refine wpAny_updateSeq hS' rfl (wpAny_bind (wpAny_letGo (wpAny_pure ?_)))
    have I2 := I1.lset (l := S0) (its' := []) (ys := []) (f := fun _ => #[]) (t' := tk') hS hS' rfl .nil (Nat.zero_le _)
    have en : n = ps.length := by omega
    refine hR i t _ _ ht ?_ (fun b o e => ?_) I2
    · rw [hp, en, List.take_length]
    · rw [upd_ne (ne_of_none e nS)]
      exact sm b o e
  | succ r ih =>
    intro j s H cur hr0 hj I sm nI hit hS nS hcur
    have hlt : j < ts.length := by omega
    have hh : X.A.handled = none := I.ok.hd hc
    have W := Walks.list (prog := X.prog) (w := X.w) (A := X.A.in1) hh I0 a haI (ts.map Value.ref).toArray
    obtain ⟨_, its, ne, rv, _, hSo⟩ := I.lstM hS
    have nSI : S0 ≠ I0 := fun z => by rw [z, nI] at hS; cases hS
    refine codeAny_builtin F.entry_max_loop ?_
    rw [Around.under_plainId F.plain_max_loop _]
    show wpAny _ X.A.in1 (seqItems? (.ref S0) >>= _) _ _ s
    refine wpAny_bind (wpAny_seqItems hSo rfl ?_)
    show wpAny _ X.A.in1 (tryCatch (pyNext (.ref I0)) _ >>= _) _ _ s
    refine wpAny_bind (wpAny_tryCatch (W.item j _ _ _ (by rw [hsz]; exact hlt) ⟨hit, itl I sm⟩ fun v h' tk' hP hst' hk' => ?_))
    have htj : ts[j]? = some ts[j] := List.getElem?_eq_getElem hlt
    have hv : v = Value.ref ts[j] := by
      have hP' : (ts.map Value.ref).toArray[j]? = some v := hP
      rw [List.getElem?_toArray, List.getElem?_map, htj] at hP'
      exact (Option.some.inj hP').symm
    subst hv
    have hpj : j < (p0 :: ps).length := by rw [List.length_cons]; omega
    have hpj' : (p0 :: ps)[j]? = some (p0 :: ps)[j] := List.getElem?_eq_getElem hpj
    have hmx := hit0 j _ _ htj hpj'
    generalize hpe : (p0 :: ps)[j] = pj at hpj' hmx
    generalize hte : ts[j] = tj at htj hmx
    have I1 : Inv X pins σ H { s with heap := h', toks := tk' } := I.turned (t' := tk') (fun b o hb e => hk' b o (by simpa using hb) e) nI hfp.2.1 hfp.2.2.2.1 hfp.2.2.2.2.1 hfp.2.2.2.2.2
    have hS1 := hk' S0 _ (by simpa using nSI) hSo
    obtain ⟨⟨oI, hoI, hoc, hod⟩, _⟩ := hst'
    show wpAny _ X.A.in1 (tryCatch (holding [.ref tj] (call (.ref f) [.ref tj])) _ >>= _) _ _ _
    obtain ⟨⟨pm, ctv, hfo⟩, _, _⟩ := I1.hok f _ (sm _ _ hf0)
    have hcr : ({ s with heap := h', toks := tk' } : Shared).heap.CodeRec (.ref c') q := by
      obtain ⟨⟨oc, vs, t, h1, h2, h3⟩, _, _⟩ := I1.hok c' _ (sm _ _ hc0)
      exact ⟨c', oc, vs, t, rfl, h1, h2, h3⟩
    have run := lam_call (P := X.prog) (w := X.w) (K := X.K) (mg := X.mg) (base := X.base) (F := ⟨q, params, body, scope, c'⟩) (us := [.ref tj]) (vs := [.ref tj]) (Q := fun v H' => ∃ kp, v = .ref kp ∧ Same H H' ∧ H kp = none ∧ H' kp = some (keyT pj)) S hfo hcr (hb _ _ _ _) (.cons rfl .nil) rfl hr.in1 I1.env0.in1
      (fun hr' => ⟨tb, hbody _ _ _ _ _ _ hr', hkey tj pj H _ ⟨sm _ _ hmx.1, hmx.2⟩ fun kp H' s1 n1 e1 => ⟨kp, rfl, s1, n1, e1⟩⟩)
    refine wpAny_bind (wpAny_tryCatch (wpAny_holding (wpAny_call (codeAny_mono run fun r2 s2 hq => ?_))))
    cases r2 with
    | error e => exact (show False from hq).elim
    | ok fl =>
      cases fl with
      | next => exact False.elim hq
      | brk => exact False.elim hq
      | cont => exact False.elim hq
      | ret u =>
        have nfI : I0 ∉ frs X.stack := fun z => by
          rcases List.mem_cons.mp (I1.stkSub _ z) with z | z
          · exact hfp.2.1 z
          · exact hfp.2.2.1 z
        have hI2 : s2.heap.get? I0 = some oI := by
          obtain ⟨_, _, _, _, un, _, _, _⟩ := hq
          exact un.keep I0 oI hoI nI nfI (by simp)
        have nI2 : ∀ H2 : Hp, Un (frs X.stack) [] H H2 h' s2.heap → H2 I0 = none := fun H2 un => un.free I0 oI hoI nI (by simp)
        obtain ⟨v2, H2, os, bare, un, hok, rv2, kp, rfl, sm2, nk, hkp⟩ := id hq
        obtain rfl : u = Value.ref kp := rv2
        have nI3 := nI2 H2 un
        have I2 : Inv X pins σ H2 s2 := by
          obtain ⟨v3, H3, J, _, ev, eH⟩ := I1.after (Q := fun v H' => v = .ref kp ∧ H' = H2) ⟨.ref kp, H2, os, bare, un, hok, rfl, rfl, rfl⟩
          rw [eH] at J
          exact J
        have smA : Same H0 H2 := sm.trans sm2
        have hS2 := sm2 _ _ hS
        obtain ⟨_, its2, ne2, rv3, _, hSo2⟩ := I2.lstM hS2
        have hit2 : s2.heap.IsListIter I0 a (j + 1) := ⟨oI, hI2, hoc, hod⟩
        -- the step's new best
        have upd_inv : Inv X pins σ (upd H2 S0 (.lst [.ref tj, .ref kp])) { s2 with heap := s2.heap.update S0 (Obj.mapSeq fun _ => #[.ref tj, .ref kp]), toks := s2.toks } :=
          I2.lset (l := S0) (its' := [.ref tj, .ref kp]) (ys := [.ref tj, .ref kp]) (f := fun _ => #[.ref tj, .ref kp]) (t' := s2.toks) hS2 hSo2 rfl (.cons rfl (.cons rfl .nil)) (by show 2 ≤ sizeLine; decide)
        have upd_sm : Same H0 (upd H2 S0 (.lst [.ref tj, .ref kp])) := fun b o e => by
          rw [upd_ne (ne_of_none e nS)]
          exact smA b o e
        have kS : kp ≠ S0 := fun z => by rw [z, hS] at nk; cases nk
        have upd_k : upd H2 S0 (.lst [.ref tj, .ref kp]) kp = some (keyT pj) := by rw [upd_ne kS]; exact hkp
        have upd_I : upd H2 S0 (.lst [.ref tj, .ref kp]) I0 = none := by rw [upd_ne nSI.symm]; exact nI3
        have upd_it : (s2.heap.update S0 (Obj.mapSeq fun _ => #[.ref tj, .ref kp])).IsListIter I0 a (j + 1) := ⟨oI, (Heap.get?_update_other _ _ nSI).trans hI2, hoc, hod⟩
        rcases hcur with ⟨j0, rfl⟩ | ⟨n, i, t, kb, ej, rfl, ht, hp, hkb⟩
        · -- the first one
          subst j0
          cases rv
          show wpAny _ X.A.in1 (updateSeq S0 (fun _ => #[.ref tj, .ref kp]) >>= _) _ _ _
          refine wpAny_bind ?_
          refine wpAny_updateSeq hSo2 rfl ?_
          rw [hname]
          have ep : p0 = pj := hpe
          refine wpAny_pure ⟨plainId_quiet F.plain_max_loop _, ih 1 _ _ _ (by omega) (by omega) upd_inv upd_sm upd_I upd_it upd_same nS (.inr ⟨0, 0, tj, kp, rfl, rfl, htj, by rw [ep]; rfl, by rw [List.take_zero, List.foldl_nil, ep]; exact upd_k⟩)⟩
        · subst ej
          obtain ⟨u1, u2, rfl, e1, e2⟩ := vals2 rv
          obtain rfl : u1 = Value.ref t := e1
          obtain rfl : u2 = Value.ref kb := e2
          have hnlt : n < ps.length := by rw [List.length_cons] at hpj; omega
          have hpn : ps[n] = pj := hpe
          generalize hbe : (ps.take n).foldl Sr.pick p0 = pb at hp hkb
          have hfold : (ps.take (n + 1)).foldl Sr.pick p0 = Sr.pick pb pj := by
            rw [List.take_succ_eq_append_getElem hnlt, List.foldl_append, hbe, hpn]
            rfl
          obtain ⟨as1, r1⟩ := pair_reads I2 hkp
          obtain ⟨as2, r2⟩ := pair_reads I2 (sm2 _ _ hkb)
          have cmp := PySem.W.rcGt_alike _ _ X.A.in1 s2 _ _ _ _ r1 r2 rfl (fun z => nomatch z) (by
            show X.A.units + 1 + min (PyData.depth _) (PyData.depth _) < cLine
            simp only [PyData.depth, PyData.depthAll]
            omega)
          rw [bet_lt pj pb] at cmp
          show wpAny _ X.A.in1 (tryCatch (holding [.ref tj, .ref kp] (richCompare .Gt (.ref kp) (.ref kb) >>= _)) _ >>= _) _ _ _
          refine wpAny_bind (wpAny_tryCatch (wpAny_holding (wpAny_bind (cmp X.prog X.w _ _ ?_))))
          refine wpAny_bind (wpAny_holding (wpAny_truthy_bool ?_))
          refine wpAny_bind (wpAny_letGo (wpAny_pure ?_))
          cases hbt : Sr.bet pb pj with
          | true =>
            have epick : Sr.pick pb pj = pj := if_pos hbt
            simp only [if_true]
            refine wpAny_bind ?_
            refine wpAny_updateSeq hSo2 rfl (wpAny_bind (wpAny_letGo ?_))
            rw [hname]
            refine wpAny_pure ⟨plainId_quiet F.plain_max_loop _, ih (n + 1 + 1) _ _ _ (by omega) (by omega) upd_inv upd_sm upd_I upd_it upd_same nS (.inr ⟨n + 1, n + 1, tj, kp, rfl, rfl, htj, by rw [hfold, epick]; exact hpj', by rw [hfold, epick]; exact upd_k⟩)⟩
          | false =>
            have epick : Sr.pick pb pj = pb := if_neg (by rw [hbt]; exact Bool.false_ne_true)
            simp only [Bool.false_eq_true, if_false]
            refine wpAny_bind (wpAny_letGo ?_)
            rw [hname]
            exact wpAny_pure ⟨plainId_quiet F.plain_max_loop _, ih (n + 1 + 1) _ _ _ (by omega) (by omega) I2 smA nI3 hit2 hS2 nS (.inr ⟨n + 1, i, t, kb, rfl, rfl, ht, by rw [hfold, epick]; exact hp, by rw [hfold, epick]; exact sm2 _ _ hkb⟩)⟩
theorem cr_maxKey (hc : X.calm = true) (hr : Room (k + 2) X.A) (S : FnScope N [y] scope) (hb : ∀ (c : Addr) (pm ctv u : Value), bindArgs (PySem.W.kla_fn "<lambda>" q params body scope [] pm (.ref c) ctv) ⟨[u], []⟩ = pure ([y].zip [u]))
    (hbody : ∀ (c f : Addr) (A : Around) (outer : List Env) (s : Shared) (H : Hp), Room k (A.deeper (envOfC q scope s.heap.objs.size f (.ref c))) → PE (cxOf CX0 X.prog X.w X.K X.mg X.base N q scope f (.ref c) A outer s H E0) body tb)
    (hkey : ∀ (t : Addr) (p : Int × List Nat) (H : Hp) (Q : VK), MxIt H t p → (∀ kp H', Same H H' → H kp = none → H' kp = some (keyT p) → Q (.ref kp) H') → tb (start N [.ref t]) H Q) :
    CallRK X (.builtin "max") [Str.ofString "key"] (rMaxK X.K q params body scope) := by
  intro pins s σ H xs zs us ws Q I rx rz h
  obtain ⟨a, f, c', ts, p0, ps, rfl, rfl, hs, hf, hcc, hlen, hit, hq⟩ := h
  obtain rfl := Vals.ref1 rx
  obtain ⟨w1, rfl, e1⟩ := vals1 rz
  obtain rfl : w1 = Value.ref f := e1
  have hh : X.A.handled = none := I.ok.hd hc
  have hname : (toString "max" ++ toString ".loop" : String) = "max.loop" := by decide
  obtain ⟨its, rv, hl, _⟩ := I.list hs
  refine PyProof.Rows.kmk_tree F.kind_max F.plain_max F.entry_max (PyProof.Rows.kmk_max_key _ _) ?_
  show wpAny _ X.A.in1 (Builtin.Builtins.bindParams "max" ["key", "default"] 0 ⟨[], [(Str.ofString "key", .ref f)]⟩ >>= _) _ _ s
  refine wpAny_bind (wpAny_of_eq (show Builtin.Builtins.bindParams "max" ["key", "default"] 0 ⟨[], [(Str.ofString "key", .ref f)]⟩ = pure [some (.ref f), none] from rfl) ?_)
  refine wpAny_bind (wpAny_pure ?_)
  refine wpAny_bind (wpAny_pyIter_list hl.isList ?_)
  have hsz1 : (s.heap.push { cls := .type "list_iterator", data := .fields #[.ref a, .int 0 0] }).objs.size = s.heap.objs.size + 1 := size_push' ..
  have I1 : Inv X pins σ H { s with heap := s.heap.push { cls := .type "list_iterator", data := .fields #[.ref a, .int 0 0] } } := I.kept (t' := s.toks) fun b o e => Heap.get?_push_of_some _ e
  refine wpAny_bind (wpAny_newList ?_ (Nat.zero_le _))
  rw [hname]
  have nS : H (s.heap.push { cls := .type "list_iterator", data := .fields #[.ref a, .int 0 0] }).objs.size = none := I1.hok.fresh (Nat.le_refl _)
  have I2 := I1.laid (a := (s.heap.push { cls := .type "list_iterator", data := .fields #[.ref a, .int 0 0] }).objs.size) (o := .lst []) (t' := s.toks) (h' := (s.heap.push { cls := .type "list_iterator", data := .fields #[.ref a, .int 0 0] }).push (seqObj "list" #[] 0)) (fun b o e => Heap.get?_push_of_some _ e) (Nat.le_refl _)
    ⟨Nat.zero_le _, [], 0, .nil, Heap.get?_push_size _ rfl⟩
  have alt : a < s.heap.objs.size := by
    obtain ⟨o, ho, _⟩ := hl.isList
    exact Heap.lt_size ho
  have nI : H s.heap.objs.size = none := I.hok.fresh (Nat.le_refl _)
  have nSI : s.heap.objs.size ≠ (s.heap.push { cls := .type "list_iterator", data := .fields #[.ref a, .int 0 0] }).objs.size := by rw [hsz1]; exact Nat.ne_of_lt (Nat.lt_succ_self _)
  refine wpAny_pure ⟨plainId_quiet F.plain_max_loop _, ?_⟩
  refine max_loop (S0 := (s.heap.push { cls := .type "list_iterator", data := .fields #[.ref a, .int 0 0] }).objs.size) hc hr S hb hbody hkey hs hf hcc hlen hit (I.fpOk (Nat.le_refl _) nI) (Nat.ne_of_lt alt) (fun i t H' s' h1 h2 h3 J => ⟨.ref t, H', J, rfl, hq i t H' h1 h2 h3⟩) ts.length 0 _ _ [] (by omega) (Nat.zero_le _) I2 (fun b o e => ?_) ?_ ?_ upd_same nS (.inl ⟨rfl, rfl⟩)
  · rw [upd_ne (ne_of_none e nS)]
    exact e
  · rw [upd_ne nSI]
    exact nI
  · exact ⟨_, Heap.get?_push_of_some _ (Heap.get?_push_size _ rfl), rfl, rfl⟩
end
/-! ### max(xs, default=d), xs ints -/
def rMaxD (K : PySem.W.Frag) : List V → List V → Hp → VK → Prop := fun vs zs H Q => ∃ (a : Addr) (ns : List Int) (d : Int), vs = [V.ref a] ∧ zs = [V.int d] ∧ SqL K H a (ns.map V.int) ∧ ns ≠ [] ∧ ∀ m ∈ ns, (∀ x ∈ ns, x ≤ m) → Q (.int m) H
theorem foldl_max : ∀ (ns : List Int) (n : Int), (ns.foldl max n = n ∨ ns.foldl max n ∈ ns) ∧ n ≤ ns.foldl max n ∧ ∀ x ∈ ns, x ≤ ns.foldl max n
  | [], n => ⟨.inl rfl, Int.le_refl _, fun x h => by simp at h⟩
  | k :: ns, n => by
    obtain ⟨h1, h2, h3⟩ := foldl_max ns (max n k)
    rw [List.foldl_cons]
    refine ⟨?_, by omega, fun x hx => ?_⟩
    · rcases h1 with h1 | h1
      · rw [h1]
        by_cases e : n ≤ k
        · exact .inr (by rw [Int.max_eq_right e]; exact List.mem_cons_self)
        · exact .inl (by omega)
      · exact .inr (List.mem_cons_of_mem _ h1)
    · rcases List.mem_cons.mp hx with e | e
      · subst e; omega
      · exact h3 x e
theorem reads_ints {h : Heap} : ∀ {ns : List Int} {us : List Value}, Vals (ns.map V.int) us → ReadsAll h us (ns.map PyData.int) []
  | [], _, .nil => .nil
  | n :: ns, _, .cons ⟨t, e⟩ rr => by
    subst e
    exact .cons (as := []) (bs := []) (.int _ _) (reads_ints rr)
theorem alike_ints (ns : List Int) : PySem.W.AlikeAll (ns.map PyData.int) := by
  refine ⟨fun x hx y hy => ?_, fun x hx => ?_⟩
  · obtain ⟨i, _, rfl⟩ := List.mem_map.mp hx
    obtain ⟨j, _, rfl⟩ := List.mem_map.mp hy
    rfl
  · obtain ⟨i, _, rfl⟩ := List.mem_map.mp hx
    exact fun z => nomatch z
theorem cr_maxD {X : Cx} (hc : X.calm = true) (hu : X.A.units + 64 < cLine) : CallRK X (.builtin "max") [Str.ofString "default"] (rMaxD X.K) := by
  intro pins s σ H xs zs us ws Q I rx rz h
  obtain ⟨a, ns, d, rfl, rfl, hs, hne, q⟩ := h
  obtain rfl := Vals.ref1 rx
  obtain ⟨w1, rfl, t1, rfl⟩ := vals1 rz
  have hh : X.A.handled = none := I.ok.hd hc
  obtain ⟨its, rv, hl, _⟩ := I.list hs
  have hdep : PyData.depthAll (ns.map PyData.int) ≤ 1 := Sr.depth_ints ns
  refine PySem.W.max_list_default (as := []) hh hl.isList (xs := ns.map PyData.int) (show ReadsAll s.heap its _ _ from reads_ints rv) (alike_ints ns) (by omega) (fun e => ?_) fun y ys i v h' tk bs e hv hR hk => ?_
  · cases ns with
    | nil => exact absurd rfl hne
    | cons n ns => cases e
  · cases ns with
    | nil => cases e
    | cons n ns =>
      injection e with e1 e2
      subst e1 e2
      rw [PySem.W.maxD_ints] at hR
      cases hR with
      | int _ t =>
        obtain ⟨h1, h2, h3⟩ := foldl_max ns n
        refine ⟨.int _, H, I.kept (t' := tk) hk, ⟨t, rfl⟩, q _ ?_ fun x hx => ?_⟩
        · rcases h1 with h1 | h1
          · rw [h1]; exact List.mem_cons_self
          · exact List.mem_cons_of_mem _ h1
        · rcases List.mem_cons.mp hx with e | e
          · rw [e]; exact h2
          · exact h3 x e
end L2

namespace L2
open PySem PySem.Spec PyProof.Rows LamX
/-! ### a def whose code object is known -/
theorem fn_okL {P : Program} {w : World} {K : PySem.W.Frag} {mg : Str → Option Value} {base : Heap} {x qual : Str} {st : Stmt} {f cc : Addr} {oc kV doc pm ct : Value} {od an : Option Addr} {osl : Array (Option Value)} {N ps : List Str} {k : Nat} {sp : Sp}
    (lk : K.lookup f = some ⟨oc, od, .func (PySem.W.fnOf x qual (defArgs st) (defBody st) (defScope st) .none kV doc pm an (.ref cc) ct), osl⟩) (hcd : PySem.W.codeIn K (.ref cc) qual = true) (S : FnScope N ps (defScope st)) (len : ∀ vs H Q E, sp vs H Q E → vs.length = ps.length)
    (hbody : ∀ (A : Around) (outer : List Env) (s : Shared) (H : Hp) (vs : List V) (Q : VK) (E : XK), Room k (A.deeper (envOfC qual (defScope st) s.heap.objs.size f (.ref cc))) → sp vs H Q E →
      ∃ t, PSs (cxOf CX0 P w K mg base N qual (defScope st) f (.ref cc) A outer s H E).nox (defBody st) t ∧ t { nx := fun _ H' => Q .non H', rt := Q } (start N vs) H) :
    FnOk P w K mg base CX0 (k + 1) f (PySem.W.fnOf x qual (defArgs st) (defBody st) (defScope st) .none kV doc pm an (.ref cc) ct) ps sp :=
  fn_of lk hcd S len fun A outer s H vs Q E hr hsp => by
    obtain ⟨t, h, q⟩ := hbody A outer s H vs Q E hr hsp
    exact ⟨t, h.nox, q⟩
/-! ### readings of dicts -/
section
variable {σ : St} {H : Hp} {Q : VK} {ta tb td ty tv : TE}
theorem x_dget (q : td σ H fun x H1 => ty σ H1 fun y H2 => ∃ a v, x = .ref a ∧ DGet H2 a y (some v) ∧ Q v H2) : tDGet td ty σ H Q := q
theorem x_dnotin (q : ty σ H fun y H1 => td σ H1 fun x H2 => ∃ a o, x = .ref a ∧ DGet H2 a y o ∧ Q (.bl (!o.isSome)) H2) : tDNotIn ty td σ H Q := q
theorem x_din (q : ty σ H fun y H1 => td σ H1 fun x H2 => ∃ a o, x = .ref a ∧ DGet H2 a y o ∧ Q (.bl o.isSome) H2) : tDIn ty td σ H Q := q
theorem x_dput {D : Ends} (q : tv σ H fun v H1 => td σ H1 fun x H2 => ty σ H2 fun y H3 => ∃ a H4, x = .ref a ∧ DPut H3 a y v H4 ∧ D.nx σ H4) : sDPut td ty tv D σ H := q
theorem x_lock {t : TS} {D : Ends} {d : Addr} {u : HO} (hd : H d = some u) (mu : Mut (some u)) (q : ∀ od, t ⟨fun σ' H' => H' d = some (.frz od u) ∧ D.nx σ' (upd H' d u), fun v H' => H' d = some (.frz od u) ∧ D.rt v (upd H' d u), fun σ' H' => H' d = some (.frz od u) ∧ D.bk σ' (upd H' d u), fun σ' H' => H' d = some (.frz od u) ∧ D.ct σ' (upd H' d u)⟩ σ (upd H d (.frz od u))) : tLock t D σ H := ⟨d, u, hd, mu, q⟩
theorem x_getS {a : Addr} {kvs : List (Key × V)} {z : Str} {v : V} {R : Addr → V → Prop} (h : Rd H a (.dK kvs)) (e : valV kvs (.inr z) = some v) (q : R a v) : ∃ a' v', V.ref a = .ref a' ∧ DGet H a' (.str z) (some v') ∧ R a' v' := ⟨a, v, rfl, .inl ⟨kvs, .inr z, h, rfl, e.symm⟩, q⟩
theorem x_askS {a : Addr} {kvs : List (Key × V)} {z : Str} {R : Addr → Option V → Prop} (h : Rd H a (.dK kvs)) (q : R a (valV kvs (.inr z))) : ∃ a' o, V.ref a = .ref a' ∧ DGet H a' (.str z) o ∧ R a' o := ⟨a, _, rfl, .inl ⟨kvs, .inr z, h, rfl, rfl⟩, q⟩
theorem x_putS {a : Addr} {kvs : List (Key × V)} {z : Str} {v : V} {R : Hp → Prop} (h : H a = some (.dK kvs)) (hl : kvs.length < sizeLine) (q : R (upd H a (.dK (putK kvs (.inr z) v)))) : ∃ a' H4, V.ref a = .ref a' ∧ DPut H a' (.str z) v H4 ∧ R H4 := ⟨a, _, rfl, DPut.k (k := .inr z) h hl, q⟩
theorem x_keys {R : It → Hp → Prop} {a : Addr} {o : Obj} {kvs : List (Key × V)} (h : H a = some (.frz o (.dK kvs))) (q : R (Itk a o kvs) H) : ∃ d o', V.ref a = .ref d ∧ ((∃ kvs, H d = some (.frz o' (.dK kvs)) ∧ R (Itk d o' kvs) H) ∨ ∃ kvs, H d = some (.frz o' (.dT kvs)) ∧ R (Itkt d o' kvs) H) := ⟨a, o, rfl, .inl ⟨kvs, h, q⟩⟩
end
/-- a dict comprehension over anything that is walked -/
theorem dc_it {J : It} {n : Nat} {G : Hp → Prop} {Y : Nat → Hp → V → Hp → Prop} (w : Walk J n G Y) {g : TG} {tt : TT} {tk tv : TE} {vs : List Nat} {σ : St} {H1 : Hp} {D : Addr} {Qd : Hp → Prop} (Pv : Nat → Hp → Prop) (h0 : Pv 0 (upd H1 D (.dK []))) (hG : ∀ i H, i ≤ n → Pv i H → G H)
    (hs : ∀ i x H H', i < n → Pv i H → Y i H x H' → g x (wipe σ vs) H' fun σ2 H2 => wipe σ2 vs = wipe σ vs ∧ tt σ2 H2 fun b H3 =>
      if b = true then tk σ2 H3 fun y H4 => tv σ2 H4 fun z H5 => ∃ kvs k, y = kV k ∧ H5 D = some (.dK kvs) ∧ kvs.length < sizeLine ∧ Pv (i + 1) (upd H5 D (.dK (putK kvs k z))) else Pv (i + 1) H3) (hd : ∀ H, Pv n H → Qd H) :
    ∃ W : Nat → Nat → Hp → Prop, (∃ m, W 0 m (upd H1 D (.dK []))) ∧ ∀ i m H, W i m H →
      (J.stop i H ∧ Qd H) ∨ (J.go i H ∧ ∃ Nx : Hp → Prop, (∀ H', Nx H' → ∃ m', m' < m ∧ W (i + 1) m' H') ∧ ∀ x H', J.yld i H x H' → g x (wipe σ vs) H' fun σ2 H2 => wipe σ2 vs = wipe σ vs ∧ tt σ2 H2 fun b H3 =>
        if b = true then tk σ2 H3 fun y H4 => tv σ2 H4 fun z H5 => ∃ kvs k, y = kV k ∧ H5 D = some (.dK kvs) ∧ kvs.length < sizeLine ∧ Nx (upd H5 D (.dK (putK kvs k z))) else Nx H3) := by
  refine ⟨fun i m H => m = n - i ∧ i ≤ n ∧ Pv i H, ⟨n, by simp, Nat.zero_le _, h0⟩, ?_⟩
  rintro i m H ⟨rfl, hi, p⟩
  have q := hG i H hi p
  by_cases hlt : i < n
  · refine .inr ⟨w.goes i H hlt q, Pv (i + 1), fun H' p' => ⟨n - (i + 1), by omega, rfl, hlt, p'⟩, fun x H' y => hs i x H H' hlt p (w.yields i H x H' hlt q y)⟩
  · have e : i = n := by omega
    subst e
    exact .inl ⟨w.stops H q, hd H p⟩
theorem x_dc {wi : TI} {g : TG} {tt : TT} {tk tv : TE} {vs : List Nat} {σ : St} {H : Hp} {Q : VK} (q : wi σ H fun J H1 => ∀ D, H1 D = none → ∃ W : Nat → Nat → Hp → Prop, (∃ m, W 0 m (upd H1 D (.dK []))) ∧ ∀ i m H, W i m H →
  (J.stop i H ∧ Q (.ref D) H) ∨ (J.go i H ∧ ∃ Nx : Hp → Prop, (∀ H', Nx H' → ∃ m', m' < m ∧ W (i + 1) m' H') ∧ ∀ x H', J.yld i H x H' → g x (wipe σ vs) H' fun σ2 H2 => wipe σ2 vs = wipe σ vs ∧ tt σ2 H2 fun b H3 =>
    if b = true then tk σ2 H3 fun y H4 => tv σ2 H4 fun z H5 => ∃ kvs k, y = kV k ∧ H5 D = some (.dK kvs) ∧ kvs.length < sizeLine ∧ Nx (upd H5 D (.dK (putK kvs k z))) else Nx H3)) : tDc wi g tt tk tv vs σ H Q := q
theorem x_bm0 {K : PySem.W.Frag} {T : String} {r : V → List V → Hp → VK → Prop} {to : TE} {σ : St} {H : Hp} {Q : VK} (q : to σ H fun x H1 => tyV K T x H1 ∧ r x [] H1 Q) : tBM0 K T r to σ H Q := q
theorem x_ckw {r : List V → List V → Hp → VK → Prop} {t tk : TA} {σ : St} {H : Hp} {Q : VK} (q : t σ H fun vs H1 => tk σ H1 fun zs H2 => r vs zs H2 Q) : tCKw r t tk σ H Q := q
theorem x_iTup {K : PySem.W.Frag} {te : TE} {σ : St} {H : Hp} {R : It → Hp → Prop} (q : te σ H fun v H1 => ∃ a, v = .ref a ∧ (∃ xs, SqT K H1 a xs) ∧ R (Itt K a) H1) : iTup K te σ H R := q
theorem x_iKeys {td : TE} {σ : St} {H : Hp} {R : It → Hp → Prop} (q : td σ H fun x H1 => ∃ d o, x = .ref d ∧ ((∃ kvs, H1 d = some (.frz o (.dK kvs)) ∧ R (Itk d o kvs) H1) ∨ ∃ kvs, H1 d = some (.frz o (.dT kvs)) ∧ R (Itkt d o kvs) H1)) : iKeys td σ H R := q
/-! ### list(d.values()) -/
def rValsL : V → Hp → VK → Prop := fun x H Q => ∃ (d : Addr) (kvs : List (Key × V)), x = .ref d ∧ H d = some (.dK kvs) ∧ ∀ p, H p = none → Q (.ref p) (upd H p (.lst (kvs.map (·.2))))
def tListVals (te : TE) : TE := fun σ H Q => te σ H fun x H1 => rValsL x H1 Q
theorem KV.vals' : ∀ {kvs : List (Key × V)} {vs : List (Key × Value)}, KV kvs vs → Vals (kvs.map (·.2)) (vs.map (·.2))
  | _, _, .nil => .nil
  | _, _, .cons r t => .cons r.2 (KV.vals' t)
theorem pe_listVals {X : Cx} {e : Expr} {te : TE} {p apos cpos pos : Pos} (hc : X.calm = true) (he : PE X e te) (hg : Gl X "list") (hm : X.mg "list" = none) (hv : bootBuiltins "list" = some (.type "list")) (hbase : attributeBase e "values" X.env (eval e X.env) = eval e X.env := by rfl) (hline : (apos.endLine == cpos.line) = true := by rfl)
    (hs : starEach [.Call (.Attribute e "values" apos) [] [] cpos] X.env = (false, eval (.Call (.Attribute e "values" apos) [] [] cpos) X.env) :: starEach [] X.env := by rfl) :
    PE X (.Call (.Name "list" p) [.Call (.Attribute e "values" apos) [] [] cpos] [] pos) (tListVals te) := by
  refine ⟨fun pins s σ H Q I hq => ?_⟩
  refine wpAny_Call_Name_kw (ld_blt I hg hm hv ?_)
  refine PyProof.Rows.callWith_type1 ?_ hs rfl
  rw [hs]
  show wpAny _ _ (spliced ((false, eval (.Call (.Attribute e "values" apos) [] [] cpos) X.env) :: backTo pos (starEach [] X.env))) _ _ s
  refine Calls.spliced_cons ?_
  refine wpAny_Call_method (T := "dict") (id := "dict.values") hbase rfl hline F.plainAttrs_dict F.slot_dict_values F.type_dict_values (thn (he.run pins s σ H _ I hq) fun u s1 ⟨x, H1, I1, rx, d, kvs, ex, hd, q⟩ => ?_)
  subst ex
  obtain rfl : u = Value.ref d := rx
  obtain ⟨hz, hs0, vs, kv, hdo⟩ := I1.hok d _ hd
  obtain ⟨ep, hat⟩ := hdo.dictAt
  have lk : kvs.length = vs.length := Paired.length kv
  have I2 : Inv X pins σ H1 { s1 with heap := s1.heap.push { cls := .type "dict_values", data := .fields #[.ref d] } } := I1.kept (t' := s1.toks) fun b ob q => Heap.get?_push_of_some _ q
  refine ⟨hdo.typeIs, hdo.mapOf.noDict, ?_⟩
  show wpAny _ _ (callWith cpos (.builtin "dict.values") [.ref d] [] []) _ X.xe s1
  refine method_meetsIn F.slot_dict_values F.entry_dict_values rfl (PySem.evalArgs_none ⟨rfl, hdo.typeIs, F.args_dict_values_1 _, _, meets_dict_values (mixKind X.prog X.w) d hs0, ⟨vs, hdo⟩, ?_⟩)
  refine Calls.spliced_nil ?_
  refine PySem.W.kdl_call (PySem.W.kdl_values (knd := mixKind X.prog X.w) (kvs := vs) (ep := ep)) (I1.ok.hd hc) ⟨⟨_, Heap.get?_push_size _ rfl, rfl, rfl⟩, hat.push _⟩ (by omega) fun h' tk acc' c' hk hS hacc => ?_
  refine ⟨.ref _, upd H1 _ (.lst (kvs.map (·.2))), I2.laid (t' := tk) hk (Nat.le_refl _) (show ObjOk X.prog X.w _ _ _ (.lst (kvs.map (·.2))) from ⟨by rw [List.length_map]; exact hz, acc'.toList, c', ?_, ?_⟩), rfl, q _ (I2.hok.fresh (Nat.le_refl _))⟩
  · have e1 : acc'.toList = vs.map (·.2) := by
      apply List.ext_getElem?
      intro j
      by_cases hj : j < acc'.size
      · have h1 : acc'.toList[j]? = some acc'[j] := by rw [Array.getElem?_toList]; exact Array.getElem?_eq_getElem hj
        obtain ⟨k, hk2⟩ := hacc.2 j acc'[j] (Array.getElem?_eq_getElem hj)
        rw [h1, List.getElem?_map, hk2]
        rfl
      · rw [List.getElem?_eq_none (by rw [Array.length_toList]; omega), List.getElem?_eq_none (by rw [List.length_map, ← hacc.1]; omega)]
    rw [e1]
    exact KV.vals' kv
  · rw [Array.toArray_toList]
    exact hS
theorem x_listVals {te : TE} {σ : St} {H : Hp} {Q : VK} (q : te σ H fun x H1 => rValsL x H1 Q) : tListVals te σ H Q := q
theorem x_valsD {a : Addr} {kvs : List (Key × V)} {H : Hp} {Q : VK} (h : H a = some (.dK kvs)) (q : ∀ p, H p = none → Q (.ref p) (upd H p (.lst (kvs.map (·.2))))) : rValsL (.ref a) H Q := ⟨a, kvs, rfl, h, q⟩
/-! ### lstrip of one sign -/
theorem dropW_eq (p : Nat → Bool) : ∀ l : List Nat, l.drop (l.takeWhile p).length = l.dropWhile p
  | [] => rfl
  | c :: l => by
    by_cases h : p c = true
    · rw [List.takeWhile_cons, if_pos h, List.dropWhile_cons, if_pos h, List.length_cons, List.drop_succ_cons, dropW_eq p l]
    · rw [List.takeWhile_cons, if_neg h, List.dropWhile_cons, if_neg h]
      rfl
theorem dropW_no {p : Nat → Bool} {c : Nat} {l : List Nat} (h : ¬ p c = true) : (c :: l).dropWhile p = c :: l := by rw [List.dropWhile_cons, if_neg h]
theorem TabS_nil {H : Hp} {P : Addr} {q : Str} (h : H P = some (.tbl #[])) : TabS H P q := TabS.nil h
/-! ### the law's end where a def's table is empty -/
def TabF (K : PySem.W.Frag) (mg : Str → Option Value) (h : Heap) (x : Str) : Prop := ∀ (a c P : Addr) (o : Obj) (fd : FuncData) (e : Value) (dd : Option Addr) (vs : Array Value) (sl : Array (Option Value)), mg x = some (.ref a) → K.lookup a = some o → o.data = .func fd → fd.code = .ref c → K.lookup c = some ⟨e, dd, .fields vs, sl⟩ → vs[11]? = some (.ref P) →
  h.get? P = some { cls := .none, data := .fields #[] }
theorem walk_ofTab {l : PySem.W.OpenLaw} {n k : Nat} {q : Program} {loose : List Str} {XP : (Str → Option Value) → Heap → Prop} {YP : World → Heap → Prop} {d : DefRec} {K : Params → PySem.W.Frag} {CX : World → CXT} {x y : Str}
    (hn : l.most = some n) (hn2 : n ≤ sizeLine) (hdf : d.params.defaults = []) (hr : Room k callerA) (hrec : ((recsOf q).any fun e => e.name == y) = true) (hY : ∀ (w : World) (h : Heap), YP w h → (K w.params).In h)
    (F : ∀ (w : World) (mg : Str → Option Value) (fa : Addr) (h : Heap), YP w h → (K w.params).In h → h.Ns mainGlobals mg → mg d.name = some (.ref fa) → TabF (K w.params) mg h y → LawAtS l w (K w.params) (CX w) k n x mg fa h)
    (hCX : ∀ (w : World) (H : Hp) (s : Shared) (e : Value) (s' : Shared), CX w [] H s (fun _ _ _ => False) e s' → False) :
    PySem.W.WalkO q loose XP YP l.row.toRowW d [] (fun f vs => PySem.call f vs) := by
  refine Att.attach_callB hn hdf fun w s₀ s₁ mg mb fa o pm cd doc a vs ns G Y ho hd hcd hmg hobj hints hlen hbits hg => ?_
  have KX := hY w _ Y
  have own : TabF (K w.params) mg s₁.heap y := fun a1 c P o1 fd1 e dd vs1 sl k0 k1 k2 k3 k4 k5 => by
    obtain ⟨dL, hm, hn1⟩ := List.any_eq_true.mp hrec
    have hn2 : dL.name = y := beq_iff_eq.mp hn1
    obtain ⟨a', o', fd', c', P', h1, h2, h3, h4, h5, h6⟩ := G.T.tab dL hm
    rw [hn2, k0] at h1
    cases h1
    have g1 := KX _ _ k1
    rw [g1] at h2
    cases h2
    rw [k2] at h3
    cases h3
    rw [k3] at h4
    cases h4
    obtain ⟨⟨oc, vc, e1, _, e3, e4⟩, hP⟩ := h6
    have g2 := KX _ _ k4
    rw [g2] at e1
    cases e1
    cases e3
    rw [k5] at e4
    cases e4
    exact hP
  obtain ⟨fd, cs, sp, hT, nT, C, hb, hsp, hF⟩ := F w mg fa _ Y KX G.T.g hmg own
  exact law_callTs KX G.T.g G.T.b G.T.builtins G.T.nolimit hg hT nT C G.T.bmain hobj hints (Nat.le_trans hlen hn2) hr hF hb (fun H hH hS => hsp H a ns hlen hbits hH hS) fun H e s' => hCX w H s₁ e s'
end L2
namespace Sr
open PySem PySem.Spec PyProof.Rows L2
theorem lstrip_S (l : List Nat) : Txt.lstripChars (S l) (S [47]) = S (l.dropWhile fun c => c == 47) := by
  have hp : (S [47]).cps.contains = fun c => c == 47 := by
    funext c
    show (#[47] : Array Nat).contains c = _
    rw [Bool.eq_iff_iff]
    simp
  unfold Txt.lstripChars Txt.stripBy
  rw [hp]
  have hlo : stripLo (fun c => c == 47) true (S l) = (l.takeWhile fun c => c == 47).length := rfl
  have hhi : ∀ n, stripHi (fun c => c == 47) false (S l) n = l.length := fun n => len_S l
  refine TL.ext_tl ?_
  by_cases h : stripSame (fun c => c == 47) true false (S l) = true
  · rw [if_pos h, tl_S, tl_S]
    unfold stripSame at h
    rw [Bool.and_eq_true, hlo] at h
    have h0 : (l.takeWhile fun c => c == 47).length = 0 := by simpa using h.1
    have := dropW_eq (fun c => c == 47) l
    rw [h0, List.drop_zero] at this
    exact this
  · rw [if_neg h, tl_S]
    unfold stripped
    rw [hlo, hhi]
    show (Builtin.Str.strSub (S l) _ _).cps.toList = _
    rw [StrLaws.strSub_toList]
    show (l.drop _).take _ = _
    rw [List.take_of_length_le (by rw [List.length_drop]; exact Nat.le_refl _), dropW_eq]
end Sr

namespace Sr
open PySem PySem.Spec PyProof.Rows L2
/-! ### how the tails' tables stand in the heap -/
abbrev qL : Str := "_best_behind.<locals>." ++ "<lambda>"
def stKV : List (List Nat) → List Addr → List (Key × V)
  | t :: ks, d :: ds => (Sum.inr (S t), V.ref d) :: stKV ks ds
  | _, _ => []
theorem stKV_len : ∀ {ks : List (List Nat)} {ds : List Addr}, ds.length = ks.length → (stKV ks ds).length = ks.length
  | [], [], _ => rfl
  | [], _ :: _, h => by simp at h
  | _ :: _, [], h => by simp at h
  | t :: ks, d :: ds, h => by
    rw [stKV, List.length_cons, stKV_len (by simpa using h), List.length_cons]
theorem stKV_snoc {t : List Nat} {d : Addr} : ∀ {ks : List (List Nat)} {ds : List Addr}, ds.length = ks.length → stKV (ks ++ [t]) (ds ++ [d]) = stKV ks ds ++ [(Sum.inr (S t), V.ref d)]
  | [], [], _ => rfl
  | [], _ :: _, h => by simp at h
  | _ :: _, [], h => by simp at h
  | u :: ks, e :: ds, h => by
    rw [List.cons_append, List.cons_append, stKV, stKV_snoc (by simpa using h), stKV, List.cons_append]
theorem stKV_get : ∀ {ks : List (List Nat)} {ds : List Addr} {i : Nat} {t : List Nat} {d : Addr}, ks[i]? = some t → ds[i]? = some d → (stKV ks ds)[i]? = some (Sum.inr (S t), V.ref d)
  | [], _, i, t, d, h, _ => by simp at h
  | _ :: _, [], i, t, d, _, h => by simp at h
  | u :: ks, e :: ds, 0, t, d, h1, h2 => by
    cases h1; cases h2
    rfl
  | u :: ks, e :: ds, i + 1, t, d, h1, h2 => by
    rw [stKV, List.getElem?_cons_succ]
    exact stKV_get (by simpa using h1) (by simpa using h2)
theorem inr_S {a b : List Nat} (h : (Sum.inr (S a) : Key) = Sum.inr (S b)) : a = b := S_inj (Sum.inr.inj h)
theorem stKV_in : ∀ {ks : List (List Nat)} {ds : List Addr} {t : List Nat}, ds.length = ks.length → t ∈ ks → ∃ (i : Nat) (d : Addr), ks[i]? = some t ∧ ds[i]? = some d ∧ valV (stKV ks ds) (Sum.inr (S t)) = some (.ref d)
  | [], _, t, _, h => by simp at h
  | _ :: _, [], _, h, _ => by simp at h
  | u :: ks, e :: ds, t, hl, ht => by
    by_cases hu : u = t
    · subst hu
      exact ⟨0, e, rfl, rfl, valV_pos rfl⟩
    · obtain ⟨i, d, h1, h2, h3⟩ := stKV_in (ks := ks) (ds := ds) (t := t) (by simpa using hl) (by
        rcases List.mem_cons.mp ht with q | q
        · exact absurd q.symm hu
        · exact q)
      refine ⟨i + 1, d, h1, h2, ?_⟩
      rw [stKV, valV_neg (fun q => hu (inr_S q))]
      exact h3
theorem stKV_out : ∀ {ks : List (List Nat)} {ds : List Addr} {t : List Nat}, t ∉ ks → valV (stKV ks ds) (Sum.inr (S t)) = none
  | [], _, t, _ => rfl
  | _ :: _, [], _, _ => rfl
  | u :: ks, e :: ds, t, ht => by
    rw [stKV, valV_neg (fun q => ht (by rw [← inr_S q]; exact List.mem_cons_self))]
    exact stKV_out fun q => ht (List.mem_cons_of_mem _ q)
def stepKV (l : List (Nat × List Nat)) : List (Key × V) := l.map fun p => (Sum.inr (S [p.1]), V.str (S p.2))
theorem stepKV_vals (sds : List (List Nat)) (k : Nat) (t : List Nat) : (stepKV (stps sds k t)).map (·.2) = (goals sds k t).map strV := by
  unfold stepKV goals
  rw [List.map_map, List.map_map]
  rfl
theorem stepKV_in {c : Nat} {u : List Nat} : ∀ {l : List (Nat × List Nat)}, (c, u) ∈ l → (∀ p ∈ l, p.1 = c → p.2 = u) → valV (stepKV l) (Sum.inr (S [c])) = some (.str (S u))
  | [], h, _ => by simp at h
  | p :: l, h, hu => by
    by_cases hp : p.1 = c
    · have := hu p List.mem_cons_self hp
      show valV ((Sum.inr (S [p.1]), V.str (S p.2)) :: stepKV l) _ = _
      rw [valV_pos (by rw [hp]), this]
    · show valV ((Sum.inr (S [p.1]), V.str (S p.2)) :: stepKV l) _ = _
      rw [valV_neg (fun q => hp (List.cons.inj (inr_S q)).1)]
      refine stepKV_in ?_ fun r hr => hu r (List.mem_cons_of_mem _ hr)
      rcases List.mem_cons.mp h with q | q
      · rw [← q] at hp
        exact absurd rfl hp
      · exact q
theorem stepKV_go {sds : List (List Nat)} {k : Nat} {t : List Nat} {c : Nat} (hc : c = 61 ∨ c = 47) (ho : okS sds t c = true) : valV (stepKV (stps sds k t)) (Sum.inr (S [c])) = some (.str (S (tlK k (t ++ [c])))) := by
  refine stepKV_in (mem_stps.mpr ⟨hc, ho, rfl⟩) fun p hp e => ?_
  obtain ⟨_, _, h3⟩ := mem_stps.mp hp
  rw [h3, e]
structure StAt (H : Hp) (sp : Addr) (sds : List (List Nat)) (k : Nat) (ks : List (List Nat)) (ds : List Addr) : Prop where
  len : ds.length = ks.length
  at_ : Rd H sp (.dK (stKV ks ds))
  each : ∀ (i : Nat) t d, ks[i]? = some t → ds[i]? = some d → H d = some (.dK (stepKV (stps sds k t)))
theorem StAt.same {H H' : Hp} {sp : Addr} {sds : List (List Nat)} {k : Nat} {ks : List (List Nat)} {ds : List Addr} (h : StAt H sp sds k ks ds) (e : Same H H') : StAt H' sp sds k ks ds :=
  ⟨h.len, e.rdD h.at_, fun i t d h1 h2 => e _ _ (h.each i t d h1 h2)⟩
theorem StAt.smT {H H' : Hp} {P : Addr} {q : Str} {sp : Addr} {sds : List (List Nat)} {k : Nat} {ks : List (List Nat)} {ds : List Addr} (h : StAt H sp sds k ks ds) (e : SmT P q H H') : StAt H' sp sds k ks ds :=
  ⟨h.len, e.rdD h.at_, fun i t d h1 h2 => e.dK (h.each i t d h1 h2)⟩
theorem StAt.get {H : Hp} {sp : Addr} {sds : List (List Nat)} {k : Nat} {ks : List (List Nat)} {ds : List Addr} (h : StAt H sp sds k ks ds) {t : List Nat} (ht : t ∈ ks) : ∃ d, valV (stKV ks ds) (Sum.inr (S t)) = some (.ref d) ∧ H d = some (.dK (stepKV (stps sds k t))) := by
  obtain ⟨i, d, h1, h2, h3⟩ := stKV_in h.len ht
  exact ⟨d, h3, h.each i t d h1 h2⟩
/-- the best likes behind each tail -/
structure BsAt (H : Hp) (bp : Addr) (ks : List (List Nat)) (f : List Nat → Int × List Nat) (as : List Addr) : Prop where
  len : as.length = ks.length
  at_ : H bp = some (.dK (stKV ks as))
  each : ∀ (i : Nat) t a, ks[i]? = some t → as[i]? = some a → MxIt H a (f t)
theorem BsAt.same {H H' : Hp} {bp : Addr} {ks : List (List Nat)} {f : List Nat → Int × List Nat} {as : List Addr} (h : BsAt H bp ks f as) (e : Same H H') : BsAt H' bp ks f as :=
  ⟨h.len, e _ _ h.at_, fun i t a h1 h2 => ⟨e _ _ (h.each i t a h1 h2).1, (h.each i t a h1 h2).2⟩⟩
theorem BsAt.smT {H H' : Hp} {P : Addr} {q : Str} {bp : Addr} {ks : List (List Nat)} {f : List Nat → Int × List Nat} {as : List Addr} (h : BsAt H bp ks f as) (e : SmT P q H H') : BsAt H' bp ks f as :=
  ⟨h.len, e.dK h.at_, fun i t a h1 h2 => ⟨e.tup (h.each i t a h1 h2).1, (h.each i t a h1 h2).2⟩⟩
theorem BsAt.get {H : Hp} {bp : Addr} {ks : List (List Nat)} {f : List Nat → Int × List Nat} {as : List Addr} (h : BsAt H bp ks f as) {t : List Nat} (ht : t ∈ ks) : ∃ a, valV (stKV ks as) (Sum.inr (S t)) = some (.ref a) ∧ MxIt H a (f t) := by
  obtain ⟨i, a, h1, h2, h3⟩ := stKV_in h.len ht
  exact ⟨a, h3, h.each i t a h1 h2⟩
theorem step_ne {ks : List (List Nat)} {ds : List Addr} {l : List (Nat × List Nat)} {i : Nat} {t : List Nat} {d : Addr} (h1 : ks[i]? = some t) (h2 : ds[i]? = some d) (h : stepKV l = stKV ks ds) : False := by
  have e := stKV_get h1 h2
  rw [← h] at e
  unfold stepKV at e
  rw [List.getElem?_map] at e
  cases hl : l[i]? with
  | none => rw [hl] at e; cases e
  | some p => rw [hl] at e; cases e
def wKV (g l : Int) : List (Key × V) := [(Sum.inr (S [61]), .int g), (Sum.inr (S [47]), .int (-l))]
theorem wKV_get {g l : Int} {c : Nat} (hc : c = 61 ∨ c = 47) : valV (wKV g l) (Sum.inr (S [c])) = some (.int (wt g l c)) := by
  rcases hc with e | e
  · subst e; rfl
  · subst e
    unfold wKV
    rw [valV_neg (fun q => by have := (List.cons.inj (inr_S q)).1; omega), valV_pos rfl]
    rfl
theorem mxL_of {l : List Nat} {m : Int} (hm : m ∈ l.map fun n => ((n : Nat) : Int)) (h : ∀ x ∈ l.map (fun n => ((n : Nat) : Int)), x ≤ m) : m = ((mxL l : Nat) : Int) := by
  obtain ⟨n, hn, rfl⟩ := List.mem_map.mp hm
  have h1 := mxL_ge hn
  have h2 : mxL l ≤ n := mxL_le fun x hx => by
    have := h _ (List.mem_map.mpr ⟨x, hx, rfl⟩)
    omega
  omega
end Sr
namespace Sr
open PySem PySem.Spec PyProof.Rows L2
theorem Kp.tab {a b P : Addr} {q : Str} {H H' : Hp} (k : Kp a b H H') (s : Src H a b) (t : LamX.TabS H P q) : LamX.TabS H' P q := by
  obtain ⟨ps, h1, h2, h3⟩ := t
  obtain ⟨_, s0, i, cs, e1, e2, _⟩ := s
  have ne : ∀ c o, H c = some o → (∀ xs, o ≠ .lst xs) → c ≠ a ∧ c ≠ b := fun c o hc hn =>
    ⟨fun z => by
      subst z
      exact hn _ (Option.some.inj (hc.symm.trans e1)), fun z => by
      subst z
      exact hn _ (Option.some.inj (hc.symm.trans e2))⟩
  have n1 := ne P _ h1 (fun _ z => nomatch z)
  refine ⟨ps, k _ _ n1.1 n1.2 h1, h2, fun pos cv hc => ?_⟩
  obtain ⟨c, z1, z2⟩ := h3 pos cv hc
  have n2 := ne c _ z2 (fun _ z => by unfold LamX.CodeO at z; cases z)
  exact ⟨c, z1, k _ _ n2.1 n2.2 z2⟩
theorem Src_smT {a b P : Addr} {q : Str} {H H' : Hp} (x : Src H a b) (e : SmT P q H H') : Src H' a b := by
  obtain ⟨n, s, i, cs, h1, h2, h3⟩ := x
  exact ⟨n, s, i, cs, e.lst h1, e.lst h2, h3⟩
end Sr
namespace Sr
open PySem PySem.Spec PyProof.Rows L2
/-- the tables are kept -/
def Tk (H H' : Hp) : Prop := ∀ P q, LamX.TabS H P q → LamX.TabS H' P q
theorem Tk.refl (H : Hp) : Tk H H := fun _ _ h => h
theorem Tk.new {H H1 : Hp} {p : Addr} {o : HO} (t : Tk H H1) (h : H1 p = none) : Tk H (upd H1 p o) := fun P q x => (t P q x).ext (same_upd h)
theorem Tk.kp {a b : Addr} {H H1 H2 : Hp} (t : Tk H H1) (s : Src H1 a b) (k : Kp a b H1 H2) : Tk H H2 := fun P q x => k.tab s (t P q x)
theorem Tk.lst {H H1 : Hp} {p : Addr} {o : HO} {xs : List V} (t : Tk H H1) (h : H1 p = some (.lst xs)) : Tk H (upd H1 p o) := fun P q x => tabS_upd (t P q x) (fun _ z => by rw [h] at z; cases z) fun _ z => by rw [h] at z; cases z
end Sr

namespace Sr
open PySem PySem.Spec PyProof.Rows L2
/-! ### all texts of likes in which no seed fits -/
/-- no seed fits at the end -/
def endB (sds : List (List Nat)) (y : List Nat) : Bool := (sds.filter fun sd => fitsB sd y ((y.length : Int) - (sd.length : Int))).isEmpty
def two (z : List Nat) : List (List Nat) := [z ++ [61], z ++ [47]]
def nextU (sds : List (List Nat)) (rows : List (List Nat)) : List (List Nat) := (rows.flatMap two).filter (endB sds)
def un (sds : List (List Nat)) : Nat → List (List Nat)
  | 0 => [[]]
  | n + 1 => nextU sds (un sds n)
def every (sds : List (List Nat)) : Nat → List (List Nat)
  | 0 => [[]]
  | n + 1 => every sds n ++ un sds (n + 1)
theorem endB_iff {sds : List (List Nat)} (h1 : Ones sds) {y : List Nat} : endB sds y = true ↔ ∀ sd ∈ sds, sd.length ≤ y.length → ∃ k, k < sd.length ∧ sd[k]? = some 35 ∧ y[y.length - sd.length + k]? = some 47 := by
  unfold endB
  rw [List.isEmpty_iff, List.filter_eq_nil_iff]
  constructor
  · intro h sd hsd hl
    have h2 := h sd hsd
    rw [fitsB_iff (h1 sd hsd)] at h2
    refine Classical.byContradiction fun hn => h2 ⟨by omega, by omega, fun k hk hc => hn ⟨k, hk, hc.1, ?_⟩⟩
    have : ((y.length : Int) - (sd.length : Int)).toNat = y.length - sd.length := by omega
    rw [this] at hc
    exact hc.2
  · intro h sd hsd h2
    obtain ⟨h3, h4, h5⟩ := (fitsB_iff (h1 sd hsd)).mp h2
    obtain ⟨k, hk, e1, e2⟩ := h sd hsd (by omega)
    have : ((y.length : Int) - (sd.length : Int)).toNat = y.length - sd.length := by omega
    rw [this] at h5
    exact h5 k hk ⟨e1, e2⟩
theorem free_snoc {sds : List (List Nat)} (h1 : Ones sds) {z : List Nat} {c : Nat} : Free sds (z ++ [c]) ↔ Free sds z ∧ endB sds (z ++ [c]) = true := by
  constructor
  · intro h
    refine ⟨Free.mid h1 (a := []) (c := [c]) (by simpa using h), ?_⟩
    rw [endB_iff h1]
    rw [free_iff h1] at h
    intro sd hsd hl
    exact h sd hsd _ (by omega)
  · rintro ⟨h, he⟩
    rw [endB_iff h1] at he
    rw [free_iff h1] at h ⊢
    intro sd hsd p hp
    rw [List.length_append] at hp
    have hc : [c].length = 1 := rfl
    by_cases hlt : p + sd.length ≤ z.length
    · obtain ⟨k, hk, e1, e2⟩ := h sd hsd p hlt
      exact ⟨k, hk, e1, by rw [List.getElem?_append_left (by omega)]; exact e2⟩
    · obtain ⟨k, hk, e1, e2⟩ := he sd hsd (by rw [List.length_append]; omega)
      refine ⟨k, hk, e1, ?_⟩
      rw [← e2]
      congr 1
      rw [List.length_append]
      omega
theorem free_nil {sds : List (List Nat)} (h1 : Ones sds) : Free sds [] := by
  rw [free_iff h1]
  intro sd hsd p hp
  have := h1 sd hsd
  have e : ([] : List Nat).length = 0 := rfl
  omega
theorem un_iff {sds : List (List Nat)} (h1 : Ones sds) : ∀ {n : Nat} {z : List Nat}, z ∈ un sds n ↔ z.length = n ∧ Lk z ∧ Free sds z
  | 0, z => by
    show z ∈ [[]] ↔ _
    rw [List.mem_singleton]
    constructor
    · intro e
      subst e
      exact ⟨rfl, (fun c hc => nomatch hc), free_nil h1⟩
    · rintro ⟨e, _⟩
      exact List.length_eq_zero_iff.mp e
  | n + 1, z => by
    show z ∈ nextU sds (un sds n) ↔ _
    unfold nextU
    rw [List.mem_filter, List.mem_flatMap]
    constructor
    · rintro ⟨⟨y, hy, hz⟩, he⟩
      obtain ⟨e, lk, fr⟩ := (un_iff h1).mp hy
      have : z = y ++ [61] ∨ z = y ++ [47] := by simpa [two] using hz
      rcases this with e2 | e2
      · subst e2
        exact ⟨by rw [List.length_append, e]; rfl, lk.app fun c hc => .inl (List.mem_singleton.mp hc), (free_snoc h1).mpr ⟨fr, he⟩⟩
      · subst e2
        exact ⟨by rw [List.length_append, e]; rfl, lk.app fun c hc => .inr (List.mem_singleton.mp hc), (free_snoc h1).mpr ⟨fr, he⟩⟩
    · rintro ⟨e, lk, fr⟩
      have hne : z ≠ [] := fun h => by rw [h] at e; simp at e
      obtain ⟨y, c, rfl⟩ : ∃ y c, z = y ++ [c] := ⟨z.dropLast, z.getLast hne, (List.dropLast_concat_getLast hne).symm⟩
      obtain ⟨f1, f2⟩ := (free_snoc h1).mp fr
      refine ⟨⟨y, (un_iff h1).mpr ⟨by rw [List.length_append] at e; have e1 : [c].length = 1 := rfl; omega, fun d hd => lk d (List.mem_append.mpr (.inl hd)), f1⟩, ?_⟩, f2⟩
      have := lk c (List.mem_append.mpr (.inr (List.mem_singleton.mpr rfl)))
      rcases this with e2 | e2 <;> subst e2 <;> simp [two]
theorem every_iff {sds : List (List Nat)} (h1 : Ones sds) : ∀ {n : Nat} {z : List Nat}, z ∈ every sds n ↔ z.length ≤ n ∧ Lk z ∧ Free sds z
  | 0, z => by
    show z ∈ un sds 0 ↔ _
    rw [un_iff h1]
    constructor
    · rintro ⟨e, h⟩
      exact ⟨by omega, h⟩
    · rintro ⟨e, h⟩
      exact ⟨by omega, h⟩
  | n + 1, z => by
    show z ∈ every sds n ++ un sds (n + 1) ↔ _
    rw [List.mem_append, every_iff h1, un_iff h1]
    constructor
    · rintro (⟨e, h⟩ | ⟨e, h⟩)
      · exact ⟨by omega, h⟩
      · exact ⟨by omega, h⟩
    · rintro ⟨e, h⟩
      by_cases he : z.length ≤ n
      · exact .inl ⟨he, h⟩
      · exact .inr ⟨by omega, h⟩
theorem lexB_app : ∀ {a b : List Nat} (c d : List Nat), a.length = b.length → lexB a b = true → a ≠ b → lexB (a ++ c) (b ++ d) = true
  | [], [], _, _, _, _, h => absurd rfl h
  | [], _ :: _, _, _, h, _, _ => by simp at h
  | _ :: _, [], _, _, h, _, _ => by simp at h
  | x :: a, y :: b, c, d, hl, h, hn => by
    simp only [List.cons_append, lexB, Bool.or_eq_true, Bool.and_eq_true, decide_eq_true_eq] at h ⊢
    rcases h with h | ⟨e, h⟩
    · exact .inl h
    · subst e
      exact .inr ⟨rfl, lexB_app c d (by simpa using hl) h fun e => hn (by rw [e])⟩
theorem lexB_two : ∀ z : List Nat, lexB (z ++ [61]) (z ++ [47]) = true
  | [] => by decide
  | c :: z => by simp [lexB, lexB_two z]
/-- strictly ahead, at one length -/
def Ahead (a b : List Nat) : Prop := lexB a b = true ∧ a ≠ b
theorem un_sorted {sds : List (List Nat)} (h1 : Ones sds) : ∀ n : Nat, (un sds n).Pairwise Ahead
  | 0 => List.pairwise_singleton _ _
  | n + 1 => by
    show (nextU sds (un sds n)).Pairwise Ahead
    refine List.Pairwise.filter _ ?_
    rw [List.pairwise_flatMap]
    refine ⟨fun z _ => ?_, ?_⟩
    · refine List.pairwise_cons.mpr ⟨fun y hy => ?_, List.pairwise_singleton _ _⟩
      rw [List.mem_singleton.mp hy]
      refine ⟨lexB_two z, fun e => ?_⟩
      have := List.append_cancel_left e
      cases this
    · refine List.Pairwise.imp_of_mem ?_ (un_sorted h1 n)
      intro a b ha hb hab x hx y hy
      have hl : a.length = b.length := by rw [((un_iff h1).mp ha).1, ((un_iff h1).mp hb).1]
      have ex : ∃ c, x = a ++ [c] := by
        have : x = a ++ [61] ∨ x = a ++ [47] := by simpa [two] using hx
        rcases this with e | e <;> exact ⟨_, e⟩
      have ey : ∃ c, y = b ++ [c] := by
        have : y = b ++ [61] ∨ y = b ++ [47] := by simpa [two] using hy
        rcases this with e | e <;> exact ⟨_, e⟩
      obtain ⟨c, rfl⟩ := ex
      obtain ⟨d, rfl⟩ := ey
      refine ⟨lexB_app _ _ hl hab.1 hab.2, fun e => hab.2 ?_⟩
      exact (List.append_inj e hl).1
theorem every_sorted {sds : List (List Nat)} (h1 : Ones sds) : ∀ n : Nat, (every sds n).Pairwise Sle
  | 0 => List.pairwise_singleton _ _
  | n + 1 => by
    show (every sds n ++ un sds (n + 1)).Pairwise Sle
    rw [List.pairwise_append]
    refine ⟨every_sorted h1 n, ?_, fun a ha b hb => .inl ?_⟩
    · refine List.Pairwise.imp_of_mem ?_ (un_sorted h1 (n + 1))
      intro a b ha hb hab
      exact .inr ⟨by rw [((un_iff h1).mp ha).1, ((un_iff h1).mp hb).1], hab.1⟩
    · have := ((every_iff h1).mp ha).1
      have := ((un_iff h1).mp hb).1
      omega
theorem two_len (rows : List (List Nat)) : (rows.flatMap two).length = 2 * rows.length := by
  induction rows with
  | nil => rfl
  | cons z rows ih =>
    rw [List.flatMap_cons, List.length_append, ih]
    show 2 + _ = 2 * (_ + 1)
    omega
theorem un_len (sds : List (List Nat)) : ∀ n : Nat, (un sds n).length ≤ 2 ^ n
  | 0 => Nat.le_refl _
  | n + 1 => by
    have h := un_len sds n
    have h2 := List.length_filter_le (endB sds) ((un sds n).flatMap two)
    rw [two_len] at h2
    show (((un sds n).flatMap two).filter (endB sds)).length ≤ _
    rw [Nat.pow_succ]
    omega
theorem every_len (sds : List (List Nat)) : ∀ n : Nat, (every sds n).length ≤ 2 ^ (n + 1)
  | 0 => (show 1 ≤ 2 by decide)
  | n + 1 => by
    have h := every_len sds n
    have h2 := un_len sds (n + 1)
    show (every sds n ++ un sds (n + 1)).length ≤ _
    rw [List.length_append, Nat.pow_succ]
    omega
/-- the first one of the best ones is the bar's -/
theorem best_first {sds : List (List Nat)} (h1 : Ones sds) {g l w : Int} {z : List Nat} (h : IsBar sds g l w z) {n : Nat} (hz : z.length ≤ n) : ((every sds n).filter fun y => decide (w ≤ wor g l y))[0]? = some z := by
  have hmem : z ∈ (every sds n).filter fun y => decide (w ≤ wor g l y) := List.mem_filter.mpr ⟨(every_iff h1).mpr ⟨hz, h.lk, h.free⟩, decide_eq_true (by rw [h.is]; omega)⟩
  have hs := List.Pairwise.filter (fun y => decide (w ≤ wor g l y)) (every_sorted h1 n)
  cases hb : (every sds n).filter fun y => decide (w ≤ wor g l y) with
  | nil =>
    rw [hb] at hmem
    cases hmem
  | cons f t =>
    have hf : f ∈ (every sds n).filter fun y => decide (w ≤ wor g l y) := by rw [hb]; exact List.mem_cons_self
    obtain ⟨f1, f2⟩ := List.mem_filter.mp hf
    obtain ⟨_, f3, f4⟩ := (every_iff h1).mp f1
    have f5 : w ≤ wor g l f := of_decide_eq_true f2
    have f6 := h.max f f3 f4
    have f7 := h.first f f3 f4 (by omega)
    rw [hb] at hmem hs
    rcases List.mem_cons.mp hmem with e | e
    · rw [e]; rfl
    · have := (List.pairwise_cons.mp hs).1 z e
      rw [f7.anti this]
      rfl
theorem best_none {sds : List (List Nat)} (h1 : Ones sds) {g l w : Int} {z : List Nat} (h : IsBar sds g l w z) (n : Nat) : (((every sds n).filter fun y => decide (w ≤ wor g l y)).filter fun y => decide (w < wor g l y)) = [] := by
  rw [List.filter_eq_nil_iff]
  intro y hy hw
  obtain ⟨y1, _⟩ := List.mem_filter.mp hy
  obtain ⟨_, y3, y4⟩ := (every_iff h1).mp y1
  have := h.max y y3 y4
  have := of_decide_eq_true hw
  omega
end Sr
namespace Sr
open PySem PySem.Spec PyProof.Rows L2
theorem eqv_strs_nil : ∀ cs : List (List Nat), PyData.eqv (.list (cs.map strD)) (.list []) = cs.isEmpty
  | [] => by decide +kernel
  | c :: cs => by
    show PyData.eqv (.list (strD c :: cs.map strD)) (.list []) = false
    simp [PyData.eqv, PyData.eqvAll]
theorem eqS_nil {K : PySem.W.Frag} {H : Hp} {D p : Addr} {cs : List (List Nat)} (hc : Cd cs) (hD : H D = some (.lst (cs.map strV))) (hp : H p = some (.lst [])) {Q : VK} (q : Q (.bl cs.isEmpty) H) : rEqD K (.ref D) (.ref p) H Q :=
  ⟨.list (cs.map strD), .list [], .lst (SqL.of hD) (dp_strs _), .lst (SqL.of hp) .nil, shaped_strs hc, by decide +kernel, by rw [eqv_strs_nil]; exact q⟩
theorem neS_nil {K : PySem.W.Frag} {H : Hp} {D p : Addr} {cs : List (List Nat)} (hc : Cd cs) (hD : H D = some (.lst (cs.map strV))) (hp : H p = some (.lst [])) {Q : VK} (q : Q (.bl (!cs.isEmpty)) H) : rNeD K (.ref D) (.ref p) H Q :=
  ⟨.list (cs.map strD), .list [], .lst (SqL.of hD) (dp_strs _), .lst (SqL.of hp) .nil, shaped_strs hc, by decide +kernel, by rw [eqv_strs_nil]; exact q⟩
theorem take_filter_yes {α : Type} {l : List α} {f : α → Bool} {i : Nat} (hi : i < l.length) (h : f l[i] = true) : (l.take (i + 1)).filter f = (l.take i).filter f ++ [l[i]] := by
  rw [List.take_succ_eq_append_getElem hi, List.filter_append, List.filter_cons, if_pos h]
  rfl
theorem take_filter_no {α : Type} {l : List α} {f : α → Bool} {i : Nat} (hi : i < l.length) (h : ¬ f l[i] = true) : (l.take (i + 1)).filter f = (l.take i).filter f := by
  rw [List.take_succ_eq_append_getElem hi, List.filter_append, List.filter_cons, if_neg h]
  simp
/-- a comprehension over a list of texts that keeps its own texts: a turn -/
theorem keep_yes {H0 H : Hp} {D : Addr} {l : List (List Nat)} {f : List Nat → Bool} {i : Nat} (hi : i < l.length) (hl : l.length ≤ 100000) (hn : H0 D = none) (sm : Same H0 H) (hD : H D = some (.lst (((l.take i).filter f).map strV))) (hf : f l[i] = true) :
    ∃ acc, H D = some (.lst acc) ∧ acc.length < sizeLine ∧ (Same H0 (upd H D (.lst (acc ++ [strV l[i]]))) ∧ upd H D (.lst (acc ++ [strV l[i]])) D = some (.lst (((l.take (i + 1)).filter f).map strV))) := by
  refine ⟨_, hD, ?_, fun b x e => ?_, ?_⟩
  · rw [List.length_map]
    have h1 := List.length_filter_le f (l.take i)
    rw [List.length_take] at h1
    exact Nat.lt_of_le_of_lt (by omega : _ ≤ 100000) (by decide)
  · rw [upd_ne (ne_of_none e hn)]
    exact sm b x e
  · rw [upd_same, take_filter_yes hi hf, List.map_append]
    rfl
theorem keep_no {H0 H : Hp} {D : Addr} {l : List (List Nat)} {f : List Nat → Bool} {i : Nat} (hi : i < l.length) (sm : Same H0 H) (hD : H D = some (.lst (((l.take i).filter f).map strV))) (hf : ¬ f l[i] = true) :
    Same H0 H ∧ H D = some (.lst (((l.take (i + 1)).filter f).map strV)) := by
  refine ⟨sm, ?_⟩
  rw [take_filter_no hi hf]
  exact hD
/-- the rows told so far: all of i texts, and of the next one's two the first j -/
def rowsU (sds rows : List (List Nat)) (i j : Nat) : List (List Nat) := ((rows.take i).flatMap two ++ ((rows[i]?.map two).getD []).take j).filter (endB sds)
theorem rowsU_zero (sds rows : List (List Nat)) : rowsU sds rows 0 0 = [] := by simp [rowsU]
theorem rowsU_all (sds rows : List (List Nat)) : rowsU sds rows rows.length 0 = nextU sds rows := by simp [rowsU, nextU]
theorem rowsU_row {sds rows : List (List Nat)} {i : Nat} (hi : i < rows.length) : rowsU sds rows i 2 = rowsU sds rows (i + 1) 0 := by
  unfold rowsU
  rw [List.take_succ_eq_append_getElem hi, List.flatMap_append, List.getElem?_eq_getElem hi]
  simp [two]
theorem rowsU_yes {sds rows : List (List Nat)} {i j : Nat} (hi : i < rows.length) (hj : j < 2) (h : endB sds (rows[i] ++ [if j = 0 then 61 else 47]) = true) : rowsU sds rows i (j + 1) = rowsU sds rows i j ++ [rows[i] ++ [if j = 0 then 61 else 47]] := by
  unfold rowsU
  rw [List.getElem?_eq_getElem hi]
  have : j = 0 ∨ j = 1 := by omega
  rcases this with e | e
  · subst e
    simp [two, List.filter_append, List.filter_cons] at h ⊢
    simp [h]
  · subst e
    simp [two, List.filter_append, List.filter_cons] at h ⊢
    simp only [h, if_true]
    split <;> rfl
theorem rowsU_no {sds rows : List (List Nat)} {i j : Nat} (hi : i < rows.length) (hj : j < 2) (h : ¬ endB sds (rows[i] ++ [if j = 0 then 61 else 47]) = true) : rowsU sds rows i (j + 1) = rowsU sds rows i j := by
  unfold rowsU
  rw [List.getElem?_eq_getElem hi]
  have : j = 0 ∨ j = 1 := by omega
  rcases this with e | e <;> subst e <;> simp [two, List.filter_append, List.filter_cons] at h ⊢ <;> simp [h]
theorem rowsU_len (sds rows : List (List Nat)) (i j : Nat) : (rowsU sds rows i j).length ≤ 2 * rows.length + 2 := by
  unfold rowsU
  refine Nat.le_trans (List.length_filter_le _ _) ?_
  rw [List.length_append, two_len, List.length_take, List.length_take]
  have : ((rows[i]?.map two).getD []).length ≤ 2 := by
    cases rows[i]? <;> simp [two]
  omega
end Sr

namespace Sr
open PySem PySem.Spec PyProof.Rows L2
/-! ### windows -/
structure Win where
  k : Nat
  z : List Nat
  n : Nat
  p : Nat
/-- the signs under the picks of a seed at a place -/
def pickN (sd r : List Nat) (p i : Nat) : List Nat := (List.range i).filterMap fun j => if sd[j]? = some 35 then r[p + j]? else none
def pickW (sd r : List Nat) (p : Nat) : List Nat := pickN sd r p sd.length
/-- how many places -/
def plcs (sd r : List Nat) : Nat := ((r.length : Int) - (sd.length : Int) + 1).toNat
def winsP (k : Nat) (sd : List Nat) (n : Nat) (r : List Nat) (m : Nat) : List Win := (List.range m).map fun p => ⟨k, pickW sd r p, n, p⟩
def winsR (k : Nat) (sd : List Nat) (rows : List (List Nat)) (m : Nat) : List Win := (List.range m).flatMap fun n => winsP k sd n (rows[n]?.getD []) (plcs sd (rows[n]?.getD []))
def winsS (sds rows : List (List Nat)) (m : Nat) : List Win := (List.range m).flatMap fun k => winsR k (sds[k]?.getD []) rows rows.length
def wins (sds rows : List (List Nat)) : List Win := winsS sds rows sds.length
def winV (w : Win) : List V := [.int (w.k : Nat), .str (S w.z), .int (w.n : Nat), .int (w.p : Nat)]
def winD (w : Win) : List PyData := [.int (w.k : Nat), .str (S w.z), .int (w.n : Nat), .int (w.p : Nat)]
def winsUp (sds rows : List (List Nat)) : List Win := (wins sds rows).mergeSort (PySem.W.dataLe false fun w => PyData.tuple (winD w))
theorem winsP_succ (k : Nat) (sd : List Nat) (n : Nat) (r : List Nat) (m : Nat) : winsP k sd n r (m + 1) = winsP k sd n r m ++ [⟨k, pickW sd r m, n, m⟩] := by
  unfold winsP
  rw [List.range_succ, List.map_append]
  rfl
theorem winsR_succ (k : Nat) (sd : List Nat) (rows : List (List Nat)) (m : Nat) : winsR k sd rows (m + 1) = winsR k sd rows m ++ winsP k sd m (rows[m]?.getD []) (plcs sd (rows[m]?.getD [])) := by
  unfold winsR
  rw [List.range_succ, List.flatMap_append]
  simp
theorem winsS_succ (sds rows : List (List Nat)) (m : Nat) : winsS sds rows (m + 1) = winsS sds rows m ++ winsR m (sds[m]?.getD []) rows rows.length := by
  unfold winsS
  rw [List.range_succ, List.flatMap_append]
  simp
theorem pickN_yes {sd r : List Nat} {p i c : Nat} (h : sd[i]? = some 35) (hr : r[p + i]? = some c) : pickN sd r p (i + 1) = pickN sd r p i ++ [c] := by
  unfold pickN
  rw [List.range_succ, List.filterMap_append]
  simp [h, hr]
theorem pickN_no {sd r : List Nat} {p i : Nat} (h : ¬ sd[i]? = some 35) : pickN sd r p (i + 1) = pickN sd r p i := by
  unfold pickN
  rw [List.range_succ, List.filterMap_append]
  simp [h]
theorem pickN_len (sd r : List Nat) (p i : Nat) : (pickN sd r p i).length ≤ i := by
  unfold pickN
  have := List.length_filterMap_le (fun j => if sd[j]? = some 35 then r[p + j]? else none) (List.range i)
  rw [List.length_range] at this
  exact this
theorem winsP_len (k : Nat) (sd : List Nat) (n : Nat) (r : List Nat) (m : Nat) : (winsP k sd n r m).length = m := by
  unfold winsP
  rw [List.length_map, List.length_range]
theorem plcs_le (sd r : List Nat) : plcs sd r ≤ r.length + 1 := by
  unfold plcs
  omega
theorem winsR_len {k : Nat} {sd : List Nat} {rows : List (List Nat)} (h : ∀ z ∈ rows, z.length ≤ 60) : ∀ m, (winsR k sd rows m).length ≤ 61 * m
  | 0 => Nat.le_refl _
  | m + 1 => by
    rw [winsR_succ, List.length_append, winsP_len]
    have h1 := winsR_len (k := k) (sd := sd) h m
    have h2 : (rows[m]?.getD []).length ≤ 60 := by
      cases e : rows[m]? with
      | none => simp
      | some z => exact h z (List.mem_of_getElem? e)
    have := plcs_le sd (rows[m]?.getD [])
    omega
theorem winsS_len {sds rows : List (List Nat)} (h : ∀ z ∈ rows, z.length ≤ 60) (hr : rows.length ≤ 10) : ∀ m, (winsS sds rows m).length ≤ 610 * m
  | 0 => Nat.le_refl _
  | m + 1 => by
    rw [winsS_succ, List.length_append]
    have h1 := winsS_len (sds := sds) h hr m
    have h2 := winsR_len (k := m) (sd := sds[m]?.getD []) h rows.length
    omega
theorem dp_win {K : PySem.W.Frag} {H : Hp} (w : Win) : DpAll K H (winV w) (winD w) := .cons (.int _) (.cons (.str _) (.cons (.int _) (.cons (.int _) .nil)))
end Sr
namespace Sr
open PySem PySem.Spec PyProof.Rows L2
theorem allAlike_wins (L : List Win) : PySem.W.AllAlike (L.map fun p => PyData.tuple (winD p)) := by
  intro d hd d' hd'
  obtain ⟨p, _, rfl⟩ := List.mem_map.mp hd
  obtain ⟨p', _, rfl⟩ := List.mem_map.mp hd'
  show PySem.W.alikeAll _ _ = true
  simp [winD, PySem.W.alikeAll, PySem.W.alike]
theorem depth_win (w : Win) : (PyData.tuple (winD w)).depth ≤ 60 := by
  simp only [winD, PyData.depth, PyData.depthAll]
  omega
theorem pickN_code (sd r : List Nat) (p i : Nat) : ∀ c ∈ pickN sd r p i, c ∈ r := by
  intro c hc
  obtain ⟨j, _, h⟩ := List.mem_filterMap.mp hc
  by_cases hp : sd[j]? = some 35
  · rw [if_pos hp] at h
    exact List.mem_of_getElem? h
  · rw [if_neg hp] at h
    cases h
end Sr
namespace Sr
open PySem PySem.Spec PyProof.Rows L2
theorem flatMap_app_perm {α β : Type} (f g : α → List β) : ∀ l : List α, (l.flatMap fun a => f a ++ g a).Perm (l.flatMap f ++ l.flatMap g)
  | [] => .refl _
  | a :: l => by
    rw [List.flatMap_cons, List.flatMap_cons, List.flatMap_cons]
    have ih := flatMap_app_perm f g l
    have h1 : (f a ++ g a ++ (l.flatMap fun a => f a ++ g a)).Perm (f a ++ g a ++ (l.flatMap f ++ l.flatMap g)) := List.Perm.append_left _ ih
    refine h1.trans ?_
    rw [List.append_assoc, List.append_assoc]
    refine List.Perm.append_left _ ?_
    rw [← List.append_assoc, ← List.append_assoc]
    exact List.Perm.append_right _ List.perm_append_comm
theorem flatMap_nil' {α β : Type} : ∀ l : List α, (l.flatMap fun _ => ([] : List β)) = []
  | [] => rfl
  | a :: l => by rw [List.flatMap_cons, flatMap_nil' l]; rfl
theorem flatMap_swap {α β γ : Type} (f : α → β → List γ) (m : List β) : ∀ l : List α, (l.flatMap fun a => m.flatMap fun b => f a b).Perm (m.flatMap fun b => l.flatMap fun a => f a b)
  | [] => by
    rw [List.flatMap_nil]
    have : (m.flatMap fun b => ([] : List α).flatMap fun a => f a b) = [] := flatMap_nil' m
    rw [this]
  | a :: l => by
    rw [List.flatMap_cons]
    have ih := flatMap_swap f m l
    refine (List.Perm.append_left _ ih).trans ?_
    have := (flatMap_app_perm (fun b => f a b) (fun b => l.flatMap fun a => f a b) m).symm
    exact this
theorem dataLe_trans {α : Type} (k : α → PyData) (a b c : α) (h1 : PySem.W.dataLe false k a b = true) (h2 : PySem.W.dataLe false k b c = true) : PySem.W.dataLe false k a c = true := by
  rw [PySem.W.dataLe_eq] at h1 h2 ⊢
  have h1 : (!PySem.W.dataLt (k b) (k a)) = true := h1
  have h2 : (!PySem.W.dataLt (k c) (k b)) = true := h2
  show (!PySem.W.dataLt (k c) (k a)) = true
  rw [Bool.not_eq_true'] at h1 h2 ⊢
  cases h : PySem.W.dataLt (k c) (k a) with
  | false => rfl
  | true =>
    rcases lex_negTrans _ (PySem.W.keyToks (k b)) _ h with q | q
    · have q' : PySem.W.dataLt (k c) (k b) = true := q
      rw [h2] at q'; cases q'
    · have q' : PySem.W.dataLt (k b) (k a) = true := q
      rw [h1] at q'; cases q'
theorem dataLe_total {α : Type} (k : α → PyData) (a b : α) : (PySem.W.dataLe false k a b || PySem.W.dataLe false k b a) = true := by
  rw [PySem.W.dataLe_eq]
  show ((!PySem.W.dataLt (k b) (k a)) || (!PySem.W.dataLt (k a) (k b))) = true
  cases h : PySem.W.dataLt (k b) (k a) with
  | false => rfl
  | true =>
    cases h2 : PySem.W.dataLt (k a) (k b) with
    | false => rfl
    | true =>
      have q : PySem.W.dataLt (k a) (k a) = true := lex_trans _ _ _ h2 h
      have q2 : PySem.W.dataLt (k a) (k a) = false := lex_irrefl _
      rw [q2] at q; cases q
theorem dataLe_anti {α : Type} (k : α → PyData) {a b : α} (h1 : PySem.W.dataLe false k a b = true) (h2 : PySem.W.dataLe false k b a = true) : PySem.W.keyToks (k a) = PySem.W.keyToks (k b) := by
  rw [PySem.W.dataLe_eq] at h1 h2
  have h1 : (!PySem.W.dataLt (k b) (k a)) = true := h1
  have h2 : (!PySem.W.dataLt (k a) (k b)) = true := h2
  rw [Bool.not_eq_true'] at h1 h2
  exact lex_total _ _ h2 h1
theorem mergeSort_perm_eq {α : Type} (k : α → PyData) {L M : List α} (inj : ∀ a b, PySem.W.keyToks (k a) = PySem.W.keyToks (k b) → a = b) (h : L.Perm M) : L.mergeSort (PySem.W.dataLe false k) = M.mergeSort (PySem.W.dataLe false k) :=
  List.Perm.eq_of_pairwise (le := fun a b => PySem.W.dataLe false k a b = true) (fun a b _ _ h1 h2 => inj a b (dataLe_anti k h1 h2)) (List.pairwise_mergeSort (dataLe_trans k) (dataLe_total k) L) (List.pairwise_mergeSort (dataLe_trans k) (dataLe_total k) M)
    ((List.mergeSort_perm L _).trans (h.trans (List.mergeSort_perm M _).symm))
theorem win_inj (a b : Win) (h : PySem.W.keyToks (PyData.tuple (winD a)) = PySem.W.keyToks (PyData.tuple (winD b))) : a = b := by
  obtain ⟨k, z, n, p⟩ := a
  obtain ⟨k', z', n', p'⟩ := b
  simp [winD, PySem.W.keyToks, PySem.W.keyToksAll] at h
  obtain ⟨h1, h2, h3, h4⟩ := h
  have h2 : z = z' := by simpa [S] using h2
  have h1 : k = k' := by omega
  have h3 : n = n' := by omega
  have h4 : p = p' := by omega
  subst h1 h2 h3 h4
  rfl
/-! ### the program's order of them -/
abbrev W3 := Nat × List Nat × Nat
def w3V (q : W3) : List V := [.int (q.1 : Nat), .str (S q.2.1), .int (q.2.2 : Nat)]
def woK (row : List Nat) (k : Nat) (sd : List Nat) (m : Nat) : List W3 := (List.range m).map fun p => (k, pickW sd row p, p)
def wo (row : List Nat) (sds : List (List Nat)) (m : Nat) : List W3 := (List.range m).flatMap fun k => woK row k (sds[k]?.getD []) (plcs (sds[k]?.getD []) row)
def winsM (sds rows : List (List Nat)) (m : Nat) : List Win := (List.range m).flatMap fun n => (wo (rows[n]?.getD []) sds sds.length).map fun q => ⟨q.1, q.2.1, n, q.2.2⟩
theorem woK_succ (row : List Nat) (k : Nat) (sd : List Nat) (m : Nat) : woK row k sd (m + 1) = woK row k sd m ++ [(k, pickW sd row m, m)] := by
  unfold woK
  rw [List.range_succ, List.map_append]
  rfl
theorem wo_succ (row : List Nat) (sds : List (List Nat)) (m : Nat) : wo row sds (m + 1) = wo row sds m ++ woK row m (sds[m]?.getD []) (plcs (sds[m]?.getD []) row) := by
  unfold wo
  rw [List.range_succ, List.flatMap_append]
  simp
theorem winsM_succ (sds rows : List (List Nat)) (m : Nat) : winsM sds rows (m + 1) = winsM sds rows m ++ (wo (rows[m]?.getD []) sds sds.length).map fun q => ⟨q.1, q.2.1, m, q.2.2⟩ := by
  unfold winsM
  rw [List.range_succ, List.flatMap_append]
  simp
theorem winsM_perm (sds rows : List (List Nat)) : (winsM sds rows rows.length).Perm (wins sds rows) := by
  have e : winsM sds rows rows.length = (List.range rows.length).flatMap fun n => (List.range sds.length).flatMap fun k => winsP k (sds[k]?.getD []) n (rows[n]?.getD []) (plcs (sds[k]?.getD []) (rows[n]?.getD [])) := by
    unfold winsM wo
    congr 1
    funext n
    rw [List.map_flatMap]
    congr 1
    funext k
    unfold woK winsP
    rw [List.map_map]
    rfl
  rw [e]
  exact flatMap_swap _ _ _
theorem winsM_sort (sds rows : List (List Nat)) : (winsM sds rows rows.length).mergeSort (PySem.W.dataLe false fun w => PyData.tuple (winD w)) = winsUp sds rows := mergeSort_perm_eq _ win_inj (winsM_perm sds rows)
theorem woK_len (row : List Nat) (k : Nat) (sd : List Nat) (m : Nat) : (woK row k sd m).length = m := by
  unfold woK
  rw [List.length_map, List.length_range]
theorem wo_len {row : List Nat} {sds : List (List Nat)} (h : row.length ≤ 60) : ∀ m, (wo row sds m).length ≤ 61 * m
  | 0 => Nat.le_refl _
  | m + 1 => by
    rw [wo_succ, List.length_append, woK_len]
    have h1 := wo_len (sds := sds) h m
    have := plcs_le (sds[m]?.getD []) row
    omega
theorem winsM_len {sds rows : List (List Nat)} (h : ∀ z ∈ rows, z.length ≤ 60) (hs : sds.length ≤ 3) : ∀ m, (winsM sds rows m).length ≤ 183 * m
  | 0 => Nat.le_refl _
  | m + 1 => by
    rw [winsM_succ, List.length_append, List.length_map]
    have h1 := winsM_len h hs m
    have h2 : (rows[m]?.getD []).length ≤ 60 := by
      cases e : rows[m]? with
      | none => simp
      | some z => exact h z (List.mem_of_getElem? e)
    have h3 := wo_len (sds := sds) h2 sds.length
    omega
end Sr

namespace Sr
open PySem PySem.Spec PyProof.Rows L2
/-! ### a shelf in the heap -/
structure ShS where
  lets : List Nat
  g : Int
  l : Int
  sds : List (List Nat)
  rows : List (List Nat)
/-- what a shelf's own words are -/
structure ShOk (s : ShS) : Prop where
  g1 : 1 ≤ s.g
  g2 : s.g ≤ 9
  l1 : 1 ≤ s.l
  l2 : s.l ≤ 9
  sd : ∀ sd ∈ s.sds, Sd 8 sd
  one : 1 ≤ s.sds.length
  three : s.sds.length ≤ 3
structure ShAt (c : Addr) (H : Hp) (p : Addr) (foot : List Addr) (s : ShS) : Prop where
  ok : ShOk s
  ob : ∃ dx sc sq lp kp, H p = some (.ins c dx [("letters", .str (S s.lets)), ("scale", .ref sc), ("seeds", .ref sq), ("limit", .ref lp), ("laid", .ref kp)]) ∧ foot = [p, sq, kp] ∧ sq ≠ kp ∧ H sc = some (.tup [.int s.g, .int s.l]) ∧ H sq = some (.lst (s.sds.map strV)) ∧ H lp = some (.tup (barV (barM s.sds s.g s.l))) ∧ H kp = some (.lst (s.rows.map strV))
theorem ShAt.here {c p : Addr} {H : Hp} {foot : List Addr} {s : ShS} (h : ShAt c H p foot s) : ∀ b ∈ foot, ∃ o, H b = some o := by
  obtain ⟨dx, sc, sq, lp, kp, h1, rfl, n, h2, h3, h4, h5⟩ := h.ob
  intro b hb
  simp only [List.mem_cons, List.not_mem_nil, or_false] at hb
  rcases hb with e | e | e
  · subst e; exact ⟨_, h1⟩
  · subst e; exact ⟨_, h3⟩
  · subst e; exact ⟨_, h5⟩
theorem ShAt.notup {c p : Addr} {H : Hp} {foot : List Addr} {s : ShS} (h : ShAt c H p foot s) : ∀ b ∈ foot, ∀ xs, H b ≠ some (.tup xs) := by
  obtain ⟨dx, sc, sq, lp, kp, h1, rfl, n, h2, h3, h4, h5⟩ := h.ob
  intro b hb xs z
  simp only [List.mem_cons, List.not_mem_nil, or_false] at hb
  rcases hb with e | e | e
  · subst e; rw [h1] at z; cases z
  · subst e; rw [h3] at z; cases z
  · subst e; rw [h5] at z; cases z
theorem ShAt.same {c p : Addr} {H H' : Hp} {foot : List Addr} {s : ShS} (h : ShAt c H p foot s) (e : ∀ b ∈ foot, ∀ o, H b = some o → H' b = some o) (et : ∀ b xs, H b = some (.tup xs) → H' b = some (.tup xs)) : ShAt c H' p foot s := by
  obtain ⟨dx, sc, sq, lp, kp, h1, rfl, n, h2, h3, h4, h5⟩ := h.ob
  exact ⟨h.ok, dx, sc, sq, lp, kp, e _ (by simp) _ h1, rfl, n, et _ _ h2, e _ (by simp) _ h3, et _ _ h4, e _ (by simp) _ h5⟩
theorem ShAt.ins {c p : Addr} {H : Hp} {foot : List Addr} {s : ShS} (h : ShAt c H p foot s) : ∃ dx fs, H p = some (.ins c dx fs) ∧ fs.lookup ("lay" : Str) = none ∧ fs.lookup ("rows" : Str) = none ∧ fs.lookup ("windows" : Str) = none ∧ fs.lookup ("find" : Str) = none ∧ fs.lookup ("change" : Str) = none ∧ fs.lookup ("put" : Str) = none ∧ fs.lookup ("cut" : Str) = none ∧ fs.lookup ("_row_of" : Str) = none ∧ fs.lookup ("_seeded_lanes" : Str) = none := by
  obtain ⟨dx, sc, sq, lp, kp, h1, _⟩ := h.ob
  have no : ∀ m : Str, (m == ("letters" : Str)) = false → (m == ("scale" : Str)) = false → (m == ("seeds" : Str)) = false → (m == ("limit" : Str)) = false → (m == ("laid" : Str)) = false → ([(("letters" : Str), V.str (S s.lets)), ("scale", .ref sc), ("seeds", .ref sq), ("limit", .ref lp), ("laid", .ref kp)] : List (Str × V)).lookup m = none := fun m a1 a2 a3 a4 a5 => by
    simp only [List.lookup, a1, a2, a3, a4, a5]
  exact ⟨dx, _, h1, no _ (by decide +kernel) (by decide +kernel) (by decide +kernel) (by decide +kernel) (by decide +kernel), no _ (by decide +kernel) (by decide +kernel) (by decide +kernel) (by decide +kernel) (by decide +kernel), no _ (by decide +kernel) (by decide +kernel) (by decide +kernel) (by decide +kernel) (by decide +kernel), no _ (by decide +kernel) (by decide +kernel) (by decide +kernel) (by decide +kernel) (by decide +kernel), no _ (by decide +kernel) (by decide +kernel) (by decide +kernel) (by decide +kernel) (by decide +kernel), no _ (by decide +kernel) (by decide +kernel) (by decide +kernel) (by decide +kernel) (by decide +kernel), no _ (by decide +kernel) (by decide +kernel) (by decide +kernel) (by decide +kernel) (by decide +kernel), no _ (by decide +kernel) (by decide +kernel) (by decide +kernel) (by decide +kernel) (by decide +kernel), no _ (by decide +kernel) (by decide +kernel) (by decide +kernel) (by decide +kernel) (by decide +kernel)⟩
theorem ShAt.mem {c p : Addr} {H : Hp} {foot : List Addr} {s : ShS} (h : ShAt c H p foot s) : p ∈ foot := by
  obtain ⟨dx, sc, sq, lp, kp, h1, rfl, _⟩ := h.ob
  simp
/-! ### what follows of those alone -/
/-- what is not one's own stays, and so does every tuple -/
def Fr (foot : List Addr) (H H' : Hp) : Prop := (∀ b o, H b = some o → b ∉ foot → H' b = some o) ∧ ∀ b xs, H b = some (.tup xs) → H' b = some (.tup xs)
theorem Tup.fr {α : Type} {f : α → List V} {foot : List Addr} {H H' : Hp} {as : List Addr} {L : List α} (h : Tup f H as L) (fr : Fr foot H H') : Tup f H' as L := ⟨h.1, fun j a p h1 h2 => fr.2 _ _ (h.2 j a p h1 h2)⟩
theorem Tup.updL {α : Type} {f : α → List V} {H : Hp} {as : List Addr} {L : List α} {r : Addr} {xs : List V} {o : HO} (h : Tup f H as L) (hr : H r = some (.lst xs)) : Tup f (upd H r o) as L := ⟨h.1, fun j a p h1 h2 => by
  have := h.2 j a p h1 h2
  rw [upd_ne (ne_of this hr (by intro q; cases q))]
  exact this⟩
def Grow (foot foot' : List Addr) (H : Hp) : Prop := ∀ b ∈ foot', b ∈ foot ∨ H b = none
structure Two (c : Addr) (H : Hp) (p1 : Addr) (f1 : List Addr) (s1 : ShS) (p2 : Addr) (f2 : List Addr) (s2 : ShS) (Tr : List (Addr × HO)) : Prop where
  one : ShAt c H p1 f1 s1
  two : ShAt c H p2 f2 s2
  apart : ∀ b ∈ f1, b ∉ f2
  tr : ∀ t ∈ Tr, H t.1 = some t.2 ∧ t.1 ∉ f1 ∧ t.1 ∉ f2
theorem Two.swap {c p1 p2 : Addr} {H : Hp} {f1 f2 : List Addr} {s1 s2 : ShS} {Tr : List (Addr × HO)} (h : Two c H p1 f1 s1 p2 f2 s2 Tr) : Two c H p2 f2 s2 p1 f1 s1 Tr :=
  ⟨h.two, h.one, fun b h2 h1 => h.apart b h1 h2, fun t ht => ⟨(h.tr t ht).1, (h.tr t ht).2.2, (h.tr t ht).2.1⟩⟩
theorem Two.op {c p1 p2 : Addr} {H H' : Hp} {f1 f1' f2 : List Addr} {s1 s1' s2 : ShS} {Tr : List (Addr × HO)} (h : Two c H p1 f1 s1 p2 f2 s2 Tr) (sh : ShAt c H' p1 f1' s1') (fr : Fr f1 H H') (gr : Grow f1 f1' H) : Two c H' p1 f1' s1' p2 f2 s2 Tr := by
  refine ⟨sh, h.two.same (fun b hb o e => fr.1 b o e fun h1 => h.apart b h1 hb) fr.2, fun b hb h2 => ?_, fun t ht => ?_⟩
  · rcases gr b hb with e | e
    · exact h.apart b e h2
    · obtain ⟨o, eo⟩ := h.two.here b h2
      rw [e] at eo
      cases eo
  · obtain ⟨h1, h2, h3⟩ := h.tr t ht
    refine ⟨fr.1 _ _ h1 h2, fun hm => ?_, h3⟩
    rcases gr _ hm with e | e
    · exact h2 e
    · rw [e] at h1
      cases h1
theorem Two.same {c p1 p2 : Addr} {H H' : Hp} {f1 f2 : List Addr} {s1 s2 : ShS} {Tr : List (Addr × HO)} (h : Two c H p1 f1 s1 p2 f2 s2 Tr) (e : Same H H') : Two c H' p1 f1 s1 p2 f2 s2 Tr :=
  ⟨h.one.same (fun b _ o => e b o) (fun b _ x => e b _ x), h.two.same (fun b _ o => e b o) (fun b _ x => e b _ x), h.apart, fun t ht => ⟨e _ _ (h.tr t ht).1, (h.tr t ht).2⟩⟩
/-- an address that is no one's -/
theorem Two.upd {c p1 p2 r : Addr} {o : HO} {H : Hp} {f1 f2 : List Addr} {s1 s2 : ShS} {Tr : List (Addr × HO)} (h : Two c H p1 f1 s1 p2 f2 s2 Tr) (h1 : r ∉ f1) (h2 : r ∉ f2) (h3 : ∀ t ∈ Tr, r ≠ t.1) (h4 : ∀ xs, H r ≠ some (.tup xs)) : Two c (upd H r o) p1 f1 s1 p2 f2 s2 Tr := by
  have ht : ∀ b xs, H b = some (.tup xs) → L2.upd H r o b = some (.tup xs) := fun b xs e => by
    rw [upd_ne (fun q : b = r => h4 xs (by rw [← q]; exact e))]
    exact e
  refine ⟨h.one.same (fun b hb o' e => ?_) ht, h.two.same (fun b hb o' e => ?_) ht, h.apart, fun t ht => ⟨?_, (h.tr t ht).2⟩⟩
  · rw [upd_ne (fun q : b = r => h1 (by rw [← q]; exact hb))]; exact e
  · rw [upd_ne (fun q : b = r => h2 (by rw [← q]; exact hb))]; exact e
  · rw [upd_ne (Ne.symm (h3 t ht))]; exact (h.tr t ht).1
theorem Two.add {c p1 p2 r : Addr} {o : HO} {H : Hp} {f1 f2 : List Addr} {s1 s2 : ShS} {Tr : List (Addr × HO)} (h : Two c H p1 f1 s1 p2 f2 s2 Tr) (hr : H r = some o) (h1 : r ∉ f1) (h2 : r ∉ f2) : Two c H p1 f1 s1 p2 f2 s2 ((r, o) :: Tr) :=
  ⟨h.one, h.two, h.apart, fun t ht => by
    rcases List.mem_cons.mp ht with e | e
    · rw [e]; exact ⟨hr, h1, h2⟩
    · exact h.tr t e⟩
theorem Two.no {c p1 p2 r : Addr} {H : Hp} {f1 f2 : List Addr} {s1 s2 : ShS} {Tr : List (Addr × HO)} (h : Two c H p1 f1 s1 p2 f2 s2 Tr) (hr : H r = none) : r ∉ f1 ∧ r ∉ f2 ∧ ∀ t ∈ Tr, r ≠ t.1 :=
  ⟨fun hm => (by
    obtain ⟨o, e⟩ := h.one.here r hm
    rw [hr] at e
    cases e), fun hm => (by
    obtain ⟨o, e⟩ := h.two.here r hm
    rw [hr] at e
    cases e), fun t ht e => (by
    have := (h.tr t ht).1
    rw [← e, hr] at this
    cases this)⟩
def Lets (z : List Nat) : Prop := ∃ t n, z = letL t n ∧ t < 26 ∧ 2 ≤ n ∧ n ≤ 6
/-- the windows as data -/
def winsD (L : List Win) : PyData := .list (L.map fun w => PyData.tuple (winD w))
theorem dp_wins {K : PySem.W.Frag} {H : Hp} {r : Addr} {as : List Addr} {L : List Win} (h : SqL K H r (as.map V.ref)) (hT : Tup winV H as L) : Dp K H (.ref r) (winsD L) := .lst h (Tup.dp dp_win hT)
theorem Gd_wins (L : List Win) (h : L.length ≤ 100000) : Gd (winsD L) := by
  refine .lst _ (by rw [List.length_map]; exact h) fun d hd => ?_
  obtain ⟨w, _, rfl⟩ := List.mem_map.mp hd
  refine .tup _ (by show 4 ≤ 100000; omega) fun e he => ?_
  simp only [winD, List.mem_cons, List.not_mem_nil, or_false] at he
  rcases he with rfl | rfl | rfl | rfl
  · exact .int _
  · exact .str _
  · exact .int _
  · exact .int _
theorem depth_wins (L : List Win) : (winsD L).depth ≤ 3 := by
  have h : PyData.depthAll (L.map fun w => PyData.tuple (winD w)) ≤ 2 := by
    induction L with
    | nil => simp [PyData.depthAll]
    | cons w L ih =>
      rw [List.map_cons, PyData.depthAll]
      refine Nat.max_le.mpr ⟨?_, ih⟩
      simp only [winD, PyData.depth, PyData.depthAll]
      omega
  simp only [winsD, PyData.depth]
  omega
theorem Gd_strs (L : List (List Nat)) (h : L.length ≤ 100000) : Gd (.list (L.map strD)) := by
  refine .lst _ (by rw [List.length_map]; exact h) fun d hd => ?_
  obtain ⟨w, _, rfl⟩ := List.mem_map.mp hd
  exact .str _
theorem depth_strL (L : List (List Nat)) : (PyData.list (L.map strD)).depth ≤ 2 := by
  have h := depth_strs L
  simp only [PyData.depth]
  omega
theorem lay_wins : ∀ {L : List Win}, (∀ w ∈ L, ∀ c ∈ w.z, c < 1114112) → PyData.canLayAll0 (L.map fun w => PyData.tuple (winD w)) = true
  | [], _ => by simp [PyData.canLayAll0]
  | w :: L, h => by
    have h1 := lay_wins (L := L) fun x hx => h x (List.mem_cons_of_mem _ hx)
    have h2 := strOk_S (h w List.mem_cons_self)
    rw [List.map_cons]
    simp only [winD, PyData.canLayAll0, PyData.canLay0, Bool.and_eq_true, Bool.true_and, Bool.and_true]
    exact ⟨h2, h1⟩
theorem eq_wins_same {K : PySem.W.Frag} {H : Hp} {r r' : Addr} {as as' : List Addr} {L : List Win} (hc : ∀ w ∈ L, ∀ c ∈ w.z, c < 1114112) (h : SqL K H r (as.map V.ref)) (hT : Tup winV H as L) (h' : SqL K H r' (as'.map V.ref)) (hT' : Tup winV H as' L) {Q : VK} (q : Q (.bl true) H) : rEqD K (.ref r) (.ref r') H Q := by
  have sh : SeqAt.shaped (winsD L) = true := by
    unfold SeqAt.shaped
    rw [Bool.and_eq_true]
    refine ⟨lay_wins hc, decide_eq_true ?_⟩
    have := depth_wins L
    omega
  exact ⟨winsD L, winsD L, dp_wins h hT, dp_wins h' hT', sh, sh, by rw [SeqAt.eqv_refl (winsD L) (lay_wins hc)]; exact q⟩
theorem winsUp_mem {sds rows : List (List Nat)} {w : Win} (h : w ∈ winsUp sds rows) : ∀ c ∈ w.z, ∃ r ∈ rows, c ∈ r := by
  have h1 : w ∈ wins sds rows := (List.mergeSort_perm _ _).mem_iff.mp h
  unfold wins winsS winsR winsP at h1
  obtain ⟨k, hk, h2⟩ := List.mem_flatMap.mp h1
  obtain ⟨n, hn, h3⟩ := List.mem_flatMap.mp h2
  obtain ⟨p, hp, rfl⟩ := List.mem_map.mp h3
  have hn' := List.mem_range.mp hn
  rw [List.getElem?_eq_getElem hn'] at hp ⊢
  intro c hc
  exact ⟨rows[n], List.getElem_mem hn', pickN_code _ _ _ _ c hc⟩
theorem winsUp_len {sds rows : List (List Nat)} (h : ∀ z ∈ rows, z.length ≤ 60) (hr : rows.length ≤ 10) (hs : sds.length ≤ 4) : (winsUp sds rows).length ≤ 2440 := by
  unfold winsUp
  rw [List.length_mergeSort]
  have := winsS_len (sds := sds) h hr sds.length
  unfold wins
  omega
theorem cutV_take (xs : List V) (k : Nat) : cutV xs none (some (k : Int)) = xs.take k := by
  unfold cutV
  have e0 : HT.sIx xs.length 0 none = 0 := rfl
  have e1 : HT.sIx xs.length xs.length (some (k : Int)) = min k xs.length := HT.sIx_nat _ _ _
  rw [e0, e1, List.drop_zero, Nat.sub_zero]
  by_cases h : k ≤ xs.length
  · rw [Nat.min_eq_left h]
  · rw [Nat.min_eq_right (by omega), List.take_of_length_le (Nat.le_refl _), List.take_of_length_le (by omega)]
theorem upd2_none {H : Hp} {x dx b : Addr} {o1 o2 : HO} (h : (upd (upd H dx o1) x o2) b = none) : H b = none := by
  cases e : H b with
  | none => rfl
  | some o =>
    by_cases h1 : b = x
    · rw [h1, upd_same] at h
      cases h
    · rw [upd_ne h1] at h
      by_cases h2 : b = dx
      · rw [h2, upd_same] at h
        cases h
      · rw [upd_ne h2, e] at h
        cases h
theorem Two.less {c p1 p2 : Addr} {H : Hp} {f1 f2 : List Addr} {s1 s2 : ShS} {Tr Tr' : List (Addr × HO)} (h : Two c H p1 f1 s1 p2 f2 s2 Tr) (e : ∀ t ∈ Tr', t ∈ Tr) : Two c H p1 f1 s1 p2 f2 s2 Tr' := ⟨h.one, h.two, h.apart, fun t ht => h.tr t (e t ht)⟩
theorem rep_map_strV (k : Nat) (z : List Nat) : (List.replicate k [strV z]).flatten = (List.replicate k z).map strV := by
  induction k with
  | zero => rfl
  | succ k ih =>
    rw [List.replicate_succ, List.flatten_cons, ih, List.replicate_succ, List.map_cons]
    rfl
end Sr
namespace Sr
open PySem PySem.Spec PyProof.Rows L2
/-- .. but the instance at x -/
structure SmX (x P : Addr) (q : Str) (H H' : Hp) : Prop where
  k : ∀ b o, b ≠ x → H b = some o → (∀ ps, o ≠ .tbl ps) → H' b = some o
  k' : ∀ b o, b ≠ x → b ≠ P → H b = some o → H' b = some o
  t : LamX.TabS H P q → LamX.TabS H' P q
theorem SmX.to {x P : Addr} {q : Str} {H0 H H' : Hp} (h : SmX x P q H H') (n : H0 x = none) (s : Same H0 H) : SmT P q H0 H' :=
  ⟨fun b o e ne => h.k b o (ne_of_none e n) (s b o e) ne, fun b o np e => h.k' b o (ne_of_none e n) np (s b o e), fun t => h.t (t.ext s)⟩
theorem ShAt.smT {c p P : Addr} {q : Str} {H H' : Hp} {foot : List Addr} {s : ShS} (h : ShAt c H p foot s) (e : SmT P q H H') : ShAt c H' p foot s := by
  obtain ⟨dx, sc, sq, lp, kp, h1, rfl, n, h2, h3, h4, h5⟩ := h.ob
  exact ⟨h.ok, dx, sc, sq, lp, kp, e.k _ _ h1 (fun _ z => nomatch z), rfl, n, e.tup h2, e.lst h3, e.tup h4, e.lst h5⟩
end Sr
namespace L2
section
open PySem PySem.Spec PyProof.Rows
variable {K : PySem.W.Frag} {σ : St} {H : Hp} {Q : VK} {ta tv : TE} {f : Str} {R : It → Hp → Prop}
theorem x_fld (q : ta σ H fun x H1 => ∃ a C dx fs v, x = .ref a ∧ H1 a = some (.ins C dx fs) ∧ Cls K C ∧ NoAttr K C f ∧ fs.lookup f = some v ∧ Q v H1) : tFld K ta f σ H Q := q
theorem x_sfld {D : Ends} (q : tv σ H fun y H1 => ta σ H1 fun x H2 => ∃ a C dx fs, x = .ref a ∧ H2 a = some (.ins C dx fs) ∧ Cls K C ∧ NoAttr K C f ∧ fs.length < 1000 ∧ D.nx σ (upd H2 a (.ins C dx (putF f y fs)))) : sFld K ta tv f D σ H := q
theorem x_iEnumL {t : TA} (q : t σ H fun vs H1 => ∃ a xs, vs = [.ref a] ∧ SqL K H1 a xs ∧ R (Ite K a) H1) : iEnum K t σ H R := q
end
end L2
namespace Sr
open PySem PySem.Spec PyProof.Rows L2
abbrev fl5 (a b c d e : V) : List (Str × V) := [("letters", a), ("scale", b), ("seeds", c), ("limit", d), ("laid", e)]
theorem fl5_letters (a b c d e : V) : (fl5 a b c d e).lookup (Str.ofString "letters") = some a := rfl
theorem fl5_scale (a b c d e : V) : (fl5 a b c d e).lookup (Str.ofString "scale") = some b := rfl
theorem fl5_seeds (a b c d e : V) : (fl5 a b c d e).lookup (Str.ofString "seeds") = some c := rfl
theorem fl5_limit (a b c d e : V) : (fl5 a b c d e).lookup (Str.ofString "limit") = some d := rfl
theorem fl5_laid (a b c d e : V) : (fl5 a b c d e).lookup (Str.ofString "laid") = some e := rfl
theorem fl5_put1 (a : V) : putF (Str.ofString "letters") a [] = ([("letters", a)] : List (Str × V)) := rfl
theorem fl5_put2 (a b : V) : putF (Str.ofString "scale") b ([("letters", a)] : List (Str × V)) = ([("letters", a), ("scale", b)] : List (Str × V)) := rfl
theorem fl5_put3 (a b c : V) : putF (Str.ofString "seeds") c ([("letters", a), ("scale", b)] : List (Str × V)) = ([("letters", a), ("scale", b), ("seeds", c)] : List (Str × V)) := rfl
theorem fl5_get3 (a b c : V) : List.lookup (Str.ofString "seeds") ([("letters", a), ("scale", b), ("seeds", c)] : List (Str × V)) = some c := rfl
theorem fl5_put4 (a b c d : V) : putF (Str.ofString "limit") d ([("letters", a), ("scale", b), ("seeds", c)] : List (Str × V)) = ([("letters", a), ("scale", b), ("seeds", c), ("limit", d)] : List (Str × V)) := rfl
theorem fl5_put5 (a b c d e : V) : putF (Str.ofString "laid") e ([("letters", a), ("scale", b), ("seeds", c), ("limit", d)] : List (Str × V)) = fl5 a b c d e := rfl
theorem letL_ok {z : List Nat} (h : Lets z) : 2 ≤ z.length ∧ z.length ≤ 6 ∧ (∀ c ∈ z, 97 ≤ c ∧ c ≤ 122) ∧ z.Nodup := by
  obtain ⟨t, n, rfl, ht, h2, h6⟩ := h
  have key : ∀ t < 26, ∀ n < 7, (letL t n).length = n ∧ (∀ c ∈ letL t n, 97 ≤ c ∧ c ≤ 122) ∧ (letL t n).Nodup := by decide +kernel
  obtain ⟨a, b, c⟩ := key t ht n (by omega)
  exact ⟨by omega, by omega, b, c⟩
end Sr
namespace Sr
open PySem PySem.Spec PyProof.Rows L2
section
variable {x P : Addr} {q : Str} {H H1 H2 : Hp}
theorem SmX.of (s : Same H H1) : SmX x P q H H1 := ⟨fun b o _ e _ => s b o e, fun b o _ _ e => s b o e, fun t => t.ext s⟩
theorem SmX.smT (a : SmX x P q H H1) (s : SmT P q H1 H2) : SmX x P q H H2 := ⟨fun b o n e h => s.k b o (a.k b o n e h) h, fun b o n m e => s.k' b o m (a.k' b o n m e), fun t => s.t (a.t t)⟩
theorem SmX.put {c d : Addr} {fs : List (Str × V)} {o : HO} (a : SmX x P q H H1) (e : H1 x = some (.ins c d fs)) : SmX x P q H (L2.upd H1 x o) :=
  ⟨fun b o' n h t => by rw [upd_ne n]; exact a.k b o' n h t, fun b o' n m h => by rw [upd_ne n]; exact a.k' b o' n m h, fun t => tabS_upd (a.t t) (fun _ z => by rw [e] at z; cases z) fun _ z => by rw [e] at z; cases z⟩
end
end Sr
namespace Sr
open PySem PySem.Spec PyProof.Rows L2
theorem ShAt.tab {c p P : Addr} {q : Str} {H H' : Hp} {foot : List Addr} {s : ShS} (h : ShAt c H p foot s) (fr : Fr foot H H') (t : LamX.TabS H P q) : LamX.TabS H' P q := by
  obtain ⟨dx, sc, sq, lp, kp, e1, rfl, n, e2, e3, e4, e5⟩ := h.ob
  obtain ⟨ps, h1, h2, h3⟩ := t
  have no : ∀ b o, H b = some o → (∀ c d fs, o ≠ .ins c d fs) → (∀ xs, o ≠ .lst xs) → b ∉ [p, sq, kp] := fun b o e n1 n2 hb => by
    simp only [List.mem_cons, List.not_mem_nil, or_false] at hb
    rcases hb with z | z | z
    · subst z; exact n1 _ _ _ (Option.some.inj (e.symm.trans e1))
    · subst z; exact n2 _ (Option.some.inj (e.symm.trans e3))
    · subst z; exact n2 _ (Option.some.inj (e.symm.trans e5))
  refine ⟨ps, fr.1 _ _ h1 (no _ _ h1 (fun _ _ _ z => nomatch z) fun _ z => nomatch z), h2, fun pos cv hc => ?_⟩
  obtain ⟨c', z1, z2⟩ := h3 pos cv hc
  exact ⟨c', z1, fr.1 _ _ z2 (no _ _ z2 (fun _ _ _ z => by unfold LamX.CodeO at z; cases z) fun _ z => by unfold LamX.CodeO at z; cases z)⟩
/-- a deed on a shelf that is new -/
theorem ShAt.smFr {c p P : Addr} {q : Str} {H0 H H' : Hp} {foot : List Addr} {s : ShS} (h : ShAt c H p foot s) (e : SmT P q H0 H) (fr : Fr foot H H') (fn : ∀ b ∈ foot, H0 b = none) : SmT P q H0 H' := by
  have nf : ∀ b o, H0 b = some o → b ∉ foot := fun b o e hb => by
    rw [fn b hb] at e; cases e
  exact ⟨fun b o eo hn => fr.1 _ _ (e.k b o eo hn) (nf b o eo), fun b o np eo => fr.1 _ _ (e.k' b o np eo) (nf b o eo), fun t => h.tab fr (e.t t)⟩
end Sr

namespace Sr
open PySem PySem.Spec PyProof.Rows L2
/-! ### one shelf, the source of draws, and what is tracked beside -/
structure One1 (c : Addr) (H : Hp) (a b p : Addr) (f : List Addr) (s : ShS) (Tr : List (Addr × HO)) : Prop where
  sh : ShAt c H p f s
  src : Src H a b
  na : a ∉ f
  nb : b ∉ f
  tr : ∀ t ∈ Tr, H t.1 = some t.2 ∧ t.1 ∉ f ∧ t.1 ≠ a ∧ t.1 ≠ b
theorem Src.la {a b : Addr} {H : Hp} (h : Src H a b) : ∃ xs, H a = some (.lst xs) := by
  obtain ⟨_, s, i, cs, h1, _⟩ := h
  exact ⟨_, h1⟩
theorem Src.lb {a b : Addr} {H : Hp} (h : Src H a b) : ∃ xs, H b = some (.lst xs) := by
  obtain ⟨_, s, i, cs, _, h2, _⟩ := h
  exact ⟨_, h2⟩
theorem Kp.tups {a b q : Addr} {H H' : Hp} {xs : List V} (k : Kp a b H H') (h : Src H a b) (e : H q = some (.tup xs)) : H' q = some (.tup xs) := by
  obtain ⟨la, ea⟩ := h.la
  obtain ⟨lb, eb⟩ := h.lb
  refine k q _ (fun z => ?_) (fun z => ?_) e
  · rw [z, ea] at e
    cases e
  · rw [z, eb] at e
    cases e
theorem Tup.kp {α : Type} {f : α → List V} {a b : Addr} {H H' : Hp} {as : List Addr} {L : List α} (h : Tup f H as L) (k : Kp a b H H') (hs : Src H a b) : Tup f H' as L := ⟨h.1, fun j q p h1 h2 => k.tups hs (h.2 j q p h1 h2)⟩
variable {c a b p : Addr} {H H' : Hp} {f f' : List Addr} {s s' : ShS} {Tr Tr' : List (Addr × HO)}
theorem One1.same (h : One1 c H a b p f s Tr) (e : Same H H') : One1 c H' a b p f s Tr :=
  ⟨h.sh.same (fun b _ o => e b o) (fun b _ x => e b _ x), Src_same h.src e, h.na, h.nb, fun t ht => ⟨e _ _ (h.tr t ht).1, (h.tr t ht).2⟩⟩
theorem One1.kp (h : One1 c H a b p f s Tr) (k : Kp a b H H') (hs : Src H' a b) : One1 c H' a b p f s Tr :=
  ⟨h.sh.same (fun q hq o e => k q o (fun z => h.na (z ▸ hq)) (fun z => h.nb (z ▸ hq)) e) (fun q xs e => k.tups h.src e), hs, h.na, h.nb, fun t ht => ⟨k _ _ (h.tr t ht).2.2.1 (h.tr t ht).2.2.2 (h.tr t ht).1, (h.tr t ht).2⟩⟩
theorem One1.op (h : One1 c H a b p f s Tr) (sh : ShAt c H' p f' s') (fr : Fr f H H') (gr : Grow f f' H) : One1 c H' a b p f' s' Tr := by
  have out : ∀ q o, H q = some o → q ∉ f → q ∉ f' := fun q o e n hm => by
    rcases gr q hm with z | z
    · exact n z
    · rw [z] at e
      cases e
  obtain ⟨nab, s0, i, cs, h1, h2, h3⟩ := h.src
  exact ⟨sh, ⟨nab, s0, i, cs, fr.1 _ _ h1 h.na, fr.1 _ _ h2 h.nb, h3⟩, out _ _ h1 h.na, out _ _ h2 h.nb, fun t ht => ⟨fr.1 _ _ (h.tr t ht).1 (h.tr t ht).2.1, out _ _ (h.tr t ht).1 (h.tr t ht).2.1, (h.tr t ht).2.2⟩⟩
theorem One1.add {r : Addr} {o : HO} (h : One1 c H a b p f s Tr) (hr : H r = some o) (h1 : r ∉ f) (h2 : r ≠ a) (h3 : r ≠ b) : One1 c H a b p f s ((r, o) :: Tr) :=
  ⟨h.sh, h.src, h.na, h.nb, fun t ht => by
    rcases List.mem_cons.mp ht with e | e
    · rw [e]; exact ⟨hr, h1, h2, h3⟩
    · exact h.tr t e⟩
theorem One1.no {r : Addr} (h : One1 c H a b p f s Tr) (hr : H r = none) : r ∉ f ∧ r ≠ a ∧ r ≠ b ∧ ∀ t ∈ Tr, r ≠ t.1 := by
  refine ⟨fun hm => ?_, h.src.ne_a hr, h.src.ne_b hr, fun t ht z => ?_⟩
  · obtain ⟨o, e⟩ := h.sh.here r hm
    rw [hr] at e
    cases e
  · have := (h.tr t ht).1
    rw [← z, hr] at this
    cases this
/-- something new, tracked from now on -/
theorem One1.new {r : Addr} {o : HO} (h : One1 c H a b p f s Tr) (hr : H r = none) : One1 c (L2.upd H r o) a b p f s ((r, o) :: Tr) :=
  (h.same (same_upd hr)).add upd_same (h.no hr).1 (h.no hr).2.1 (h.no hr).2.2.1
theorem One1.less (h : One1 c H a b p f s Tr) (e : ∀ t ∈ Tr', t ∈ Tr) : One1 c H a b p f s Tr' := ⟨h.sh, h.src, h.na, h.nb, fun t ht => h.tr t (e t ht)⟩
theorem One1.get (h : One1 c H a b p f s Tr) {r : Addr} {o : HO} (e : (r, o) ∈ Tr) : H r = some o := (h.tr _ e).1
/-- a tracked thing is changed -/
theorem One1.chg {r : Addr} {o o' : HO} (h : One1 c H a b p f s ((r, o) :: Tr)) (ht : ∀ t ∈ Tr, t.1 ≠ r) (nt : ∀ xs, o ≠ .tup xs) : One1 c (L2.upd H r o') a b p f s ((r, o') :: Tr) := by
  obtain ⟨e0, n0, n1, n2⟩ := h.tr _ List.mem_cons_self
  obtain ⟨nab, s0, i, cs, h1, h2, h3⟩ := h.src
  refine ⟨h.sh.same (fun q hq o e => ?_) (fun q xs e => ?_), ⟨nab, s0, i, cs, ?_, ?_, h3⟩, h.na, h.nb, fun t ht' => ?_⟩
  · rw [upd_ne (fun z : q = r => n0 (z ▸ hq))]
    exact e
  · rw [upd_ne (fun z : q = r => by rw [z, e0] at e; exact nt xs (Option.some.inj e))]
    exact e
  · rw [upd_ne (Ne.symm n1)]; exact h1
  · rw [upd_ne (Ne.symm n2)]; exact h2
  · rcases List.mem_cons.mp ht' with z | z
    · rw [z]; exact ⟨upd_same, n0, n1, n2⟩
    · obtain ⟨a1, a2⟩ := h.tr t (List.mem_cons_of_mem _ z)
      exact ⟨by rw [upd_ne (ht t z)]; exact a1, a2⟩
end Sr

namespace Sr
open PySem PySem.Spec PyProof.Rows L2
/-! ### what a search is due to tell -/
theorem rchL_in {g l told : Int} {o t : List Nat} {d : Int} {p : Tri} (h : p ∈ rchL g l told o t d) : ∃ b e : Nat, p = (d, ((bgn d + b : Nat) : Int), ((bgn d + e : Nat) : Int)) ∧ b < e ∧ e ≤ (likL o t d).length ∧ told ≤ lev g l (likL o t d) e - lev g l (likL o t d) b := by
  unfold rchL at h
  obtain ⟨q, hq, rfl⟩ := List.mem_map.mp h
  obtain ⟨h1, h2⟩ := List.mem_filter.mp hq
  unfold ripL at h1
  split at h1
  · rename_i hx
    have hr := hx.choose_spec.ripe _ h1
    exact ⟨q.1, q.2, rfl, hr.1.1, hr.2.1, of_decide_eq_true h2⟩
  · cases h1
theorem rchA_in {g l told : Int} {o t : List Nat} {p : Tri} (h : p ∈ rchA g l told o t) : ∃ (d : Int) (b e : Nat), p = (d, ((bgn d + b : Nat) : Int), ((bgn d + e : Nat) : Int)) ∧ b < e ∧ e ≤ (likL o t d).length ∧ told ≤ lev g l (likL o t d) e - lev g l (likL o t d) b ∧ -(o.length : Int) ≤ d ∧ d ≤ t.length := by
  unfold rchA at h
  obtain ⟨k, hk, hp⟩ := rchN_mem.mp h
  obtain ⟨b, e, h1, h2, h3, h4⟩ := rchL_in hp
  refine ⟨_, b, e, h1, h2, h3, h4, by omega, ?_⟩
  unfold nsh at hk
  omega
theorem rchA_len (g l told : Int) (o t : List Nat) : (rchA g l told o t).length ≤ (o.length + t.length) * o.length := by
  unfold rchA
  refine Nat.le_trans (rchN_len g l told o t _ _) (Nat.mul_le_mul_right _ ?_)
  unfold nsh
  omega
/-- the worth of such a stretch -/
def fndW (g l : Int) (o t : List Nat) (p : Tri) : Int := lev g l (likL o t p.1) (p.2.2 - bgn p.1).toNat - lev g l (likL o t p.1) (p.2.1 - bgn p.1).toNat
theorem fndW_eq (g l : Int) (o t : List Nat) (d : Int) (b e : Nat) : fndW g l o t (d, ((bgn d + b : Nat) : Int), ((bgn d + e : Nat) : Int)) = lev g l (likL o t d) e - lev g l (likL o t d) b := by
  unfold fndW
  have e1 : (((bgn d + e : Nat) : Int) - (bgn d : Int)).toNat = e := by omega
  have e2 : (((bgn d + b : Nat) : Int) - (bgn d : Int)).toNat = b := by omega
  show lev g l (likL o t d) (((bgn d + e : Nat) : Int) - (bgn d : Int)).toNat - lev g l (likL o t d) (((bgn d + b : Nat) : Int) - (bgn d : Int)).toNat = _
  rw [e1, e2]
def fndI (q : Nat × Tri × Int) : List Int := [(q.1 : Nat), q.2.1.1, q.2.1.2.1, q.2.1.2.2, q.2.2]
def fndV (q : Nat × Tri × Int) : List V := [.int (q.1 : Nat), .int q.2.1.1, .int q.2.1.2.1, .int q.2.1.2.2, .int q.2.2]
noncomputable def dueR (g l told : Int) (o : List Nat) (n : Nat) (r : List Nat) (M : List Tri) : List (Nat × Tri × Int) := M.map fun p => (n, p, fndW g l o r p)
noncomputable def dueM (g l told : Int) (o : List Nat) (rows : List (List Nat)) (m : Nat) : List (Nat × Tri × Int) := (List.range m).flatMap fun n => dueR g l told o n (rows[n]?.getD []) (rchA g l told o (rows[n]?.getD []))
noncomputable def dueUp (g l told : Int) (o : List Nat) (rows : List (List Nat)) : List (Nat × Tri × Int) := (dueM g l told o rows rows.length).mergeSort fun p q => !decide (fndI q < fndI p)
theorem dueM_succ (g l told : Int) (o : List Nat) (rows : List (List Nat)) (m : Nat) : dueM g l told o rows (m + 1) = dueM g l told o rows m ++ dueR g l told o m (rows[m]?.getD []) (rchA g l told o (rows[m]?.getD [])) := by
  unfold dueM
  rw [List.range_succ, List.flatMap_append]
  simp
theorem dueM_len {g l told : Int} {o : List Nat} {rows : List (List Nat)} (ho : o.length ≤ 60) (hr : ∀ z ∈ rows, z.length ≤ 60) : ∀ m, (dueM g l told o rows m).length ≤ 7200 * m
  | 0 => Nat.le_refl _
  | m + 1 => by
    rw [dueM_succ, List.length_append]
    have h1 := dueM_len (g := g) (l := l) (told := told) ho hr m
    have h2 : (rows[m]?.getD []).length ≤ 60 := by
      cases e : rows[m]? with
      | none => simp
      | some z => exact hr z (List.mem_of_getElem? e)
    have h3 := rchA_len g l told o (rows[m]?.getD [])
    have h4 : (o.length + (rows[m]?.getD []).length) * o.length ≤ 120 * 60 := Nat.mul_le_mul (by omega) ho
    unfold dueR
    rw [List.length_map]
    omega
theorem dp_fnd {K : PySem.W.Frag} {H : Hp} (q : Nat × Tri × Int) : DpAll K H (fndV q) ((fndI q).map .int) := .cons (.int _) (.cons (.int _) (.cons (.int _) (.cons (.int _) (.cons (.int _) .nil))))
end Sr
namespace Sr
open PySem PySem.Spec PyProof.Rows L2
/-! ### one shelf -/
structure One (c : Addr) (H : Hp) (p : Addr) (f : List Addr) (s : ShS) (Tr : List (Addr × HO)) : Prop where
  sh : ShAt c H p f s
  tr : ∀ t ∈ Tr, H t.1 = some t.2 ∧ t.1 ∉ f
theorem One.op {c p : Addr} {H H' : Hp} {f f' : List Addr} {s s' : ShS} {Tr : List (Addr × HO)} (h : One c H p f s Tr) (sh : ShAt c H' p f' s') (fr : Fr f H H') (gr : Grow f f' H) : One c H' p f' s' Tr := by
  refine ⟨sh, fun t ht => ?_⟩
  obtain ⟨h1, h2⟩ := h.tr t ht
  refine ⟨fr.1 _ _ h1 h2, fun hm => ?_⟩
  rcases gr _ hm with e | e
  · exact h2 e
  · rw [e] at h1
    cases h1
theorem One.same {c p : Addr} {H H' : Hp} {f : List Addr} {s : ShS} {Tr : List (Addr × HO)} (h : One c H p f s Tr) (e : Same H H') : One c H' p f s Tr :=
  ⟨h.sh.same (fun b _ o => e b o) (fun b _ x => e b _ x), fun t ht => ⟨e _ _ (h.tr t ht).1, (h.tr t ht).2⟩⟩
theorem One.upd {c p r : Addr} {o : HO} {H : Hp} {f : List Addr} {s : ShS} {Tr : List (Addr × HO)} (h : One c H p f s Tr) (h1 : r ∉ f) (h3 : ∀ t ∈ Tr, r ≠ t.1) (h4 : ∀ xs, H r ≠ some (.tup xs)) : One c (upd H r o) p f s Tr := by
  have ht : ∀ b xs, H b = some (.tup xs) → L2.upd H r o b = some (.tup xs) := fun b xs e => by
    rw [upd_ne (fun q : b = r => h4 xs (by rw [← q]; exact e))]
    exact e
  refine ⟨h.sh.same (fun b hb o' e => ?_) ht, fun t ht => ⟨?_, (h.tr t ht).2⟩⟩
  · rw [upd_ne (fun q : b = r => h1 (by rw [← q]; exact hb))]; exact e
  · rw [upd_ne (Ne.symm (h3 t ht))]; exact (h.tr t ht).1
theorem One.add {c p r : Addr} {o : HO} {H : Hp} {f : List Addr} {s : ShS} {Tr : List (Addr × HO)} (h : One c H p f s Tr) (hr : H r = some o) (h1 : r ∉ f) : One c H p f s ((r, o) :: Tr) :=
  ⟨h.sh, fun t ht => by
    rcases List.mem_cons.mp ht with e | e
    · rw [e]; exact ⟨hr, h1⟩
    · exact h.tr t e⟩
theorem One.no {c p r : Addr} {H : Hp} {f : List Addr} {s : ShS} {Tr : List (Addr × HO)} (h : One c H p f s Tr) (hr : H r = none) : r ∉ f ∧ ∀ t ∈ Tr, r ≠ t.1 :=
  ⟨fun hm => (by
    obtain ⟨o, e⟩ := h.sh.here r hm
    rw [hr] at e
    cases e), fun t ht e => (by
    have := (h.tr t ht).1
    rw [← e, hr] at this
    cases this)⟩
theorem One.less {c p : Addr} {H : Hp} {f : List Addr} {s : ShS} {Tr Tr' : List (Addr × HO)} (h : One c H p f s Tr) (e : ∀ t ∈ Tr', t ∈ Tr) : One c H p f s Tr' := ⟨h.sh, fun t ht => h.tr t (e t ht)⟩
/-! ### finds as data -/
def fndsD (L : List (Nat × Tri × Int)) : PyData := .list (L.map fun q => PyData.tuple ((fndI q).map .int))
theorem dp_fnds {K : PySem.W.Frag} {H : Hp} {r : Addr} {as : List Addr} {L : List (Nat × Tri × Int)} (h : SqL K H r (as.map V.ref)) (hT : Tup fndV H as L) : Dp K H (.ref r) (fndsD L) := .lst h (Tup.dp dp_fnd hT)
theorem Gd_fnds (L : List (Nat × Tri × Int)) (h : L.length ≤ 100000) : Gd (fndsD L) := by
  refine .lst _ (by rw [List.length_map]; exact h) fun d hd => ?_
  obtain ⟨q, _, rfl⟩ := List.mem_map.mp hd
  refine .tup _ (by show 5 ≤ 100000; omega) fun e he => ?_
  obtain ⟨i, _, rfl⟩ := List.mem_map.mp he
  exact .int i
theorem depth_fnds (L : List (Nat × Tri × Int)) : (fndsD L).depth ≤ 3 := by
  have h : PyData.depthAll (L.map fun q => PyData.tuple ((fndI q).map .int)) ≤ 2 := by
    induction L with
    | nil => simp [PyData.depthAll]
    | cons q L ih =>
      rw [List.map_cons, PyData.depthAll]
      exact Nat.max_le.mpr ⟨depth_tup_ints _, ih⟩
  simp only [fndsD, PyData.depth]
  omega
theorem lay_fnds : ∀ L : List (Nat × Tri × Int), PyData.canLayAll0 (L.map fun q => PyData.tuple ((fndI q).map .int)) = true
  | [] => by simp [PyData.canLayAll0]
  | q :: L => by
    have h1 := lay_fnds L
    have h2 := lay_ints (fndI q)
    rw [List.map_cons]
    simp only [PyData.canLayAll0, PyData.canLay0, Bool.and_eq_true]
    exact ⟨h2, h1⟩
theorem ne_fnds_same {K : PySem.W.Frag} {H : Hp} {r r' : Addr} {as as' : List Addr} {L : List (Nat × Tri × Int)} (h : SqL K H r (as.map V.ref)) (hT : Tup fndV H as L) (h' : SqL K H r' (as'.map V.ref)) (hT' : Tup fndV H as' L) {Q : VK} (q : Q (.bl false) H) : rNeD K (.ref r) (.ref r') H Q := by
  have sh : SeqAt.shaped (fndsD L) = true := by
    unfold SeqAt.shaped
    rw [Bool.and_eq_true]
    refine ⟨lay_fnds L, decide_eq_true ?_⟩
    have := depth_fnds L
    omega
  exact ⟨fndsD L, fndsD L, dp_fnds h hT, dp_fnds h' hT', sh, sh, by rw [SeqAt.eqv_refl (fndsD L) (lay_fnds L)]; exact q⟩
theorem eq_strs_same {K : PySem.W.Frag} {H : Hp} {a b : Addr} {l : List (List Nat)} (hl : Cd l) (ha : SqL K H a (l.map strV)) (hb : SqL K H b (l.map strV)) {Q : VK} (q : Q (.bl true) H) : rEqD K (.ref a) (.ref b) H Q :=
  ⟨.list (l.map strD), .list (l.map strD), .lst ha (dp_strs l), .lst hb (dp_strs l), shaped_strs hl, shaped_strs hl, by rw [eqv_strs_same hl]; exact q⟩
theorem dueUp_len {g l told : Int} {o : List Nat} {rows : List (List Nat)} (ho : o.length ≤ 60) (hr : ∀ z ∈ rows, z.length ≤ 60) (hn : rows.length ≤ 10) : (dueUp g l told o rows).length ≤ 72000 := by
  unfold dueUp
  rw [List.length_mergeSort]
  have := dueM_len (g := g) (l := l) (told := told) ho hr rows.length
  omega
/-- picks in a row among the seeds: there is a bar -/
theorem no_grow {sds : List (List Nat)} {m : Nat} (h1 : Ones sds) (hm : 1 ≤ m) (hm9 : m ≤ 10) (hin : ones m ∈ sds) : ¬ Grows sds 1 9 := fun hg => by
  obtain ⟨z, hz, hf, hw⟩ := hg m
  have hf1 : Free [ones m] z := by
    rw [free_iff h1] at hf
    rw [free_iff (one_ones hm)]
    intro sd hsd
    rw [List.mem_singleton.mp hsd]
    exact hf _ hin
  have := (HB.row hm).bound 1 9 (by omega) (by omega) (by omega) z hz hf1
  omega
end Sr

namespace Zs
open PySem PySem.Spec PyProof.Rows L2
/-! ### sets of pairs of ints, many: the tables of up to 2048 slots -/
def cyc (M b : Nat) : Nat := (5 ^ b - 1) / 4 % M
/-- which slots the round passes, as bits, by halves -/
def hit (M : Nat) : Nat → Nat → Nat
  | 0, lo => 1 <<< cyc M lo
  | d + 1, lo => hit M d lo ||| hit M d (lo + 2 ^ d)
theorem hit_some {M j : Nat} : ∀ (d lo : Nat), (hit M d lo).testBit j = true → ∃ b, lo ≤ b ∧ b < lo + 2 ^ d ∧ cyc M b = j
  | 0, lo, h => by
    refine ⟨lo, Nat.le_refl _, by simp, ?_⟩
    unfold hit at h
    rw [Nat.one_shiftLeft, Nat.testBit_two_pow] at h
    simpa using h
  | d + 1, lo, h => by
    unfold hit at h
    rw [Nat.testBit_or, Bool.or_eq_true] at h
    rcases h with h | h
    · obtain ⟨b, h1, h2, h3⟩ := hit_some d lo h
      exact ⟨b, h1, by rw [Nat.pow_succ]; omega, h3⟩
    · obtain ⟨b, h1, h2, h3⟩ := hit_some d (lo + 2 ^ d) h
      exact ⟨b, by omega, by rw [Nat.pow_succ]; omega, h3⟩
theorem lcg_cyc (m : Nat) : ∀ b, lcgN m b = cyc (m + 1) b
  | 0 => by simp [lcgN, cyc]
  | b + 1 => by
    have y1 : 5 ^ b % 4 = 1 := by
      rw [Nat.pow_mod]
      simp
    have e : (5 ^ (b + 1) - 1) / 4 = (5 ^ b - 1) / 4 * 5 + 1 := by
      rw [Nat.pow_succ]
      generalize 5 ^ b = y at y1
      omega
    unfold lcgN
    rw [lcg_cyc m b]
    unfold cyc
    rw [e, Nat.add_mod, Nat.mul_mod, Nat.mod_mod, ← Nat.mul_mod, ← Nat.add_mod]
def Mk (m : Nat) : Prop := ∃ d, 3 ≤ d ∧ d < 12 ∧ d % 2 = 1 ∧ m + 1 = 2 ^ d
theorem hit_all : ∀ d, d < 12 → hit (2 ^ d) d 0 = 2 ^ (2 ^ d) - 1 := by decide +kernel
theorem cyc_all : ∀ d, d < 12 → cyc (2 ^ d) (2 ^ d) = 0 := by decide +kernel
theorem Mk.meet {m j : Nat} (h : Mk m) (hj : j ≤ m) : ∃ b, b ≤ m ∧ lcgN m b = j := by
  obtain ⟨d, _, hd, _, e⟩ := h
  have h1 := hit_all d hd
  obtain ⟨b, _, hb, hc⟩ := hit_some (M := 2 ^ d) (j := j) d 0 (by
    rw [h1, Nat.testBit_two_pow_sub_one]
    exact decide_eq_true (by omega))
  refine ⟨b, by omega, ?_⟩
  rw [lcg_cyc, e]
  exact hc
theorem Mk.again {m : Nat} (h : Mk m) : ∀ k, lcgN m (m + 1 + k) = lcgN m k
  | 0 => by
    obtain ⟨d, _, hd, _, e⟩ := h
    show lcgN m (m + 1) = 0
    rw [lcg_cyc, e]
    exact cyc_all d hd
  | k + 1 => by
    show (lcgN m (m + 1 + k) * 5 + 1) % (m + 1) = (lcgN m k * 5 + 1) % (m + 1)
    rw [h.again k]
theorem Mk.fromAny {m i j : Nat} (h : Mk m) (hi : i ≤ m) (hj : j ≤ m) : ∃ k, k ≤ m ∧ lcgI m i k = j := by
  obtain ⟨x, hx, ex⟩ := h.meet hi
  obtain ⟨y, hy, ey⟩ := h.meet hj
  subst ex
  by_cases c : x ≤ y
  · refine ⟨y - x, by omega, ?_⟩
    rw [lcgN_add, show x + (y - x) = y by omega]
    exact ey
  · refine ⟨y + (m + 1) - x, by omega, ?_⟩
    rw [lcgN_add, show x + (y + (m + 1) - x) = m + 1 + y by omega, h.again]
    exact ey
theorem Mk.run {m j : Nat} (h : Mk m) (z : Int) (hj : j ≤ m) : ∃ n, n ≤ m + 12 ∧ runI m (SetTable.bits z) n = j := by
  obtain ⟨k, hk, e⟩ := h.fromAny (runI_le m (SetTable.bits z) 12) hj
  exact ⟨12 + k, by omega, (runI_tail (bits_lt z) k).trans e⟩
theorem Mk.met {m j : Nat} (h : Mk m) (z : Int) (hj : j ≤ m) : ∃ k, k < 10 * SetTable.turns m ∧ way m z k = j := by
  obtain ⟨n, hn, e⟩ := h.run z hj
  obtain ⟨k, hk, e2⟩ := run_nth m (SetTable.bits z) n
  have ht : SetTable.turns m = m + 15 := rfl
  exact ⟨k, by omega, (congrArg SetTable.Probe.j e2).trans e⟩
theorem Mk.odd {m : Nat} (h : Mk m) : m % 2 = 1 := by
  obtain ⟨d, h3, _, _, e⟩ := h
  obtain ⟨k, rfl⟩ : ∃ k, d = k + 1 := ⟨d - 1, by omega⟩
  rw [Nat.pow_succ] at e
  omega
theorem Mk.le {m : Nat} (h : Mk m) : m ≤ 2047 := by
  obtain ⟨d, _, hd, _, e⟩ := h
  have : 2 ^ d ≤ 2 ^ 11 := Nat.pow_le_pow_right (by decide) (by omega)
  omega
theorem Mk.cases {m : Nat} (h : Mk m) : m = 7 ∨ m = 31 ∨ m = 127 ∨ m = 511 ∨ m = 2047 := by
  obtain ⟨d, h3, hd, ho, e⟩ := h
  have : d = 3 ∨ d = 5 ∨ d = 7 ∨ d = 9 ∨ d = 11 := by omega
  rcases this with rfl | rfl | rfl | rfl | rfl
  · exact .inl (by simpa using e)
  · exact .inr (.inl (by simpa using e))
  · exact .inr (.inr (.inl (by simpa using e)))
  · exact .inr (.inr (.inr (.inl (by simpa using e))))
  · exact .inr (.inr (.inr (.inr (by simpa using e))))
theorem mk7 : Mk 7 := ⟨3, by decide, by decide, by decide, rfl⟩
theorem mk31 : Mk 31 := ⟨5, by decide, by decide, by decide, rfl⟩
theorem mk127 : Mk 127 := ⟨7, by decide, by decide, by decide, rfl⟩
theorem mk511 : Mk 511 := ⟨9, by decide, by decide, by decide, rfl⟩
theorem mk2047 : Mk 2047 := ⟨11, by decide, by decide, by decide, rfl⟩
theorem wayLe {m : Nat} {z : Int} {k : Nat} : way m z k ≤ m := by
  have hb : SetTable.bits z % (m + 1) < m + 1 := Nat.mod_lt _ (Nat.succ_pos _)
  have hr := runEnd_bd (m := m) (i := SetTable.bits z % (m + 1)) (by omega)
  have hn := nth_in (m := m) k (runAt m (SetTable.bits z % (m + 1)) (SetTable.bits z)) (by simp only [runAt]; omega)
  have : way m z k = (nth m (runAt m (SetTable.bits z % (m + 1)) (SetTable.bits z)) k).j := rfl
  omega
/-! ### a table in which each member is met on its way -/
structure Tb (t : SetTable) (hs : List Int) : Prop where
  up : Ris t.place.toList
  nd : t.dummies = #[]
  sz : t.place.size = hs.length
  msk : Mk t.mask
  le : ∀ x ∈ t.place.toList, x ≤ t.mask
  met : ∀ (i : Nat) (z : Int) (j : Nat), hs[i]? = some z → t.place.toList[i]? = some j → ∃ k, way t.mask z k = j ∧ ∀ k', k' < k → way t.mask z k' ∈ t.place.toList
section
variable {t : SetTable} {hs : List Int}
theorem Tb.len (T : Tb t hs) : t.place.toList.length = hs.length := T.sz
theorem Tb.gap (T : Tb t hs) (hl : hs.length ≤ t.mask) (z : Int) : ∃ K, K < 10 * SetTable.turns t.mask ∧ way t.mask z K ∉ t.place.toList ∧ ∀ k, k < K → way t.mask z k ∈ t.place.toList := by
  obtain ⟨j, hj, hn⟩ := st_missing t.place.toList (t.mask + 1) (by have := T.len; omega)
  obtain ⟨k, hk, e⟩ := T.msk.met z (show j ≤ t.mask by omega)
  obtain ⟨K, hKk, hK, hmin⟩ := st_least (p := fun k => way t.mask z k ∉ t.place.toList) k (fun hm => hn (e ▸ hm))
  exact ⟨K, by omega, hK, fun k' hk' => Classical.byContradiction (hmin k' hk')⟩
theorem Tb.ahead (T : Tb t hs) {z : Int} {K i j : Nat} (hK : way t.mask z K ∉ t.place.toList) (hi : hs[i]? = some z) (hj : t.place.toList[i]? = some j) : ∃ k, k < K ∧ way t.mask z k = j := by
  obtain ⟨k, e, hb⟩ := T.met i z j hi hj
  have hm := List.mem_of_getElem? hj
  refine ⟨k, ?_, e⟩
  by_cases c : k < K
  · exact c
  · exfalso
    by_cases c2 : k = K
    · subst c2
      exact hK (e ▸ hm)
    · exact hK (hb K (by omega))
/-- what is put into the first gap is met, and so are the others -/
theorem Tb.lay (T : Tb t hs) {z : Int} {K : Nat} (hK : way t.mask z K ∉ t.place.toList) (hb : ∀ k, k < K → way t.mask z k ∈ t.place.toList) :
    let p := SetTable.below t.place (way t.mask z K)
    p ≤ hs.length ∧ Tb (t.put (way t.mask z K)).1 (hs.take p ++ z :: hs.drop p) ∧ (t.put (way t.mask z K)).1.place.size = hs.length + 1 := by
  intro p
  obtain ⟨c1, _, _⟩ := below_cut T.up (way t.mask z K)
  have hp1 : p ≤ t.place.toList.length := c1
  have hp2 : p ≤ hs.length := by have := T.len; omega
  have hout : t.place[p]? ≠ some (way t.mask z K) := fun e => hK (List.mem_of_getElem? (by rw [Array.getElem?_toList]; exact e))
  have epl : (t.put (way t.mask z K)).1.place.toList = t.place.toList.take p ++ way t.mask z K :: t.place.toList.drop p := put_place t _
  have esz : (t.put (way t.mask z K)).1.place.size = hs.length + 1 := by
    have h1 := congrArg List.length epl
    rw [len_ins _ hp1, T.len] at h1
    exact h1
  have grow : ∀ {x : Nat}, x ∈ t.place.toList → x ∈ (t.put (way t.mask z K)).1.place.toList := fun {x} hx => by
    rw [epl, mem_ins]
    exact .inr hx
  refine ⟨hp2, ⟨ris_insert T.up hout, put_dm T.nd _, ?_, T.msk, fun x hx => ?_, fun i y j hi hj => ?_⟩, esz⟩
  · rw [esz, len_ins _ hp2]
  · rw [epl, mem_ins] at hx
    rcases hx with hx | hx
    · rw [hx]
      exact wayLe
    · exact T.le x hx
  · rw [epl, tins_get _ hp1] at hj
    rw [tins_get _ hp2] at hi
    show ∃ k, way t.mask y k = j ∧ ∀ k', k' < k → way t.mask y k' ∈ (t.put (way t.mask z K)).1.place.toList
    by_cases h1 : i < p
    · rw [if_pos h1] at hi hj
      obtain ⟨k, e, l⟩ := T.met i y j hi hj
      exact ⟨k, e, fun k' hk' => grow (l k' hk')⟩
    by_cases h2 : i = p
    · rw [if_neg h1, if_pos h2] at hi hj
      cases hi
      cases hj
      exact ⟨K, rfl, fun k' hk' => grow (hb k' hk')⟩
    · rw [if_neg h1, if_neg h2] at hi hj
      obtain ⟨k, e, l⟩ := T.met (i - 1) y j hi hj
      exact ⟨k, e, fun k' hk' => grow (l k' hk')⟩
end
/-! ### all laid anew -/
theorem freeAt {m : Nat} (hm : Mk m) (ow : Array (Option Nat)) (z : Int) {j : Nat} (hj : j ≤ m) (hf : oAt ow j = none) :
    ∃ K, SetTable.layClean.free m ow (SetTable.turns m) (SetTable.bits z % (m + 1)) (SetTable.bits z) = some (way m z K) ∧ oAt ow (way m z K) = none ∧ ∀ k, k < K → oAt ow (way m z k) ≠ none := by
  obtain ⟨n, hn, e⟩ := hm.run z hj
  have hw : way m z (off m (SetTable.bits z % (m + 1)) (SetTable.bits z) n) = j := by
    have h1 := nth_off m n (SetTable.bits z % (m + 1)) (SetTable.bits z)
    rw [itL_run] at h1
    exact (congrArg SetTable.Probe.j h1).trans e
  obtain ⟨K, hK, hfree, hmin⟩ := st_least (p := fun k => oAt ow (way m z k) = none) _ (by
    show oAt ow (way m z _) = none
    rw [hw]
    exact hf)
  have ht : SetTable.turns m = m + 15 := rfl
  refine ⟨K, free_spec m ow _ n _ _ K (by omega) hK (fun k hk => ?_) ?_, hfree, hmin⟩
  · have := hmin k hk
    cases q : oAt ow (way m z k) with
    | none => exact absurd q this
    | some v => rfl
  · exact congrArg Option.isNone hfree
theorem sitStep {m : Nat} (hm : Mk m) {done : List Int} {ow : Array (Option Nat)} (W : Own m done ow) (hl : done.length ≤ m) (z : Int) :
    ∃ j, SetTable.layClean.free m ow (SetTable.turns m) (SetTable.bits z % (m + 1)) (SetTable.bits z) = some j ∧ Own m (done ++ [z]) (ow.setIfInBounds j (some done.length)) := by
  obtain ⟨ps, hps, hin⟩ := W.ps
  obtain ⟨j0, hj0, hn0⟩ := st_missing ps (m + 1) (by omega)
  have fr : oAt ow j0 = none := Classical.byContradiction fun q => hn0 (hin j0 (by omega) q)
  obtain ⟨K, e1, e2, e3⟩ := freeAt hm ow z (show j0 ≤ m by omega) fr
  refine ⟨way m z K, e1, ?_⟩
  have hle : way m z K ≤ m := wayLe
  have hin2 : way m z K < ow.size := by rw [W.sz]; omega
  have own := oAt_set_self (some done.length) hin2
  have oth : ∀ {i : Nat}, i ≠ way m z K → oAt (ow.setIfInBounds (way m z K) (some done.length)) i = oAt ow i := fun {i} c => oAt_set_ne _ c
  have stay : ∀ {i : Nat}, oAt ow i ≠ none → oAt (ow.setIfInBounds (way m z K) (some done.length)) i ≠ none := fun {i} hi => by
    by_cases c : i = way m z K
    · subst c
      exact absurd e2 hi
    · rw [oth c]
      exact hi
  constructor
  · rw [Array.size_setIfInBounds, W.sz]
  · intro j k hj e
    by_cases c : j = way m z K
    · subst c
      rw [own] at e
      cases e
      exact ⟨z, K, by simp, rfl, fun k' hk' => stay (e3 k' hk')⟩
    · rw [oth c] at e
      obtain ⟨y, L, a1, a2, a3⟩ := W.at_ j k hj e
      exact ⟨y, L, (List.getElem?_append_left (List.getElem?_eq_some_iff.mp a1).1).trans a1, a2, fun k' hk' => stay (a3 k' hk')⟩
  · intro k hk
    rw [List.length_append] at hk
    by_cases c : k < done.length
    · obtain ⟨j, hj, e⟩ := W.all k c
      exact ⟨j, hj, (oth fun q => by rw [q, e2] at e; cases e).trans e⟩
    · have : k = done.length := by
        have : k < done.length + 1 := hk
        omega
      subst this
      exact ⟨_, hle, own⟩
  · refine ⟨way m z K :: ps, by rw [List.length_cons, hps, List.length_append]; rfl, fun j hj q => ?_⟩
    by_cases c : j = way m z K
    · rw [c]
      exact List.mem_cons_self
    · rw [oth c] at q
      exact List.mem_cons_of_mem _ (hin j hj q)
theorem sitAll {m : Nat} (hm : Mk m) : ∀ (rest done : List Int) (ow : Array (Option Nat)), Own m done ow → done.length + rest.length ≤ m →
    ∃ ow', rest.foldl (stepF m) (some (ow, done.length)) = some (ow', (done ++ rest).length) ∧ Own m (done ++ rest) ow'
  | [], done, ow, W, _ => ⟨ow, by simp, by simpa using W⟩
  | z :: rest, done, ow, W, hl => by
    have hl' : done.length + (rest.length + 1) ≤ m := hl
    obtain ⟨j, e, W1⟩ := sitStep hm W (by omega) z
    have hn : (done ++ [z]).length = done.length + 1 := by simp
    obtain ⟨ow', e2, W2⟩ := sitAll hm rest (done ++ [z]) _ W1 (by omega)
    have ea : done ++ [z] ++ rest = done ++ z :: rest := by simp
    rw [ea] at e2 W2
    refine ⟨ow', ?_, W2⟩
    rw [List.foldl_cons, stepF_some e, ← hn]
    exact e2
theorem sits {m : Nat} (hm : Mk m) {hs : Array Int} (hn : hs.size ≤ m) : ∃ ow, SetTable.layClean m hs = some ow ∧ Own m hs.toList ow := by
  obtain ⟨ow, e, W⟩ := sitAll hm hs.toList [] _ (Own.init m) (by have : hs.toList.length = hs.size := rfl; simp; omega)
  have e' : hs.toList.foldl (stepF m) (some (Array.replicate (m + 1) none, 0)) = some (ow, ([] ++ hs.toList).length) := e
  exact ⟨ow, by rw [layClean_eq, e']; rfl, by simpa using W⟩
theorem anew (t : SetTable) {hs : Array Int} {wanted M : Nat} (hw : SetTable.sizeAbove wanted - 1 = M) (hM : Mk M) (hn : hs.size ≤ M) :
    ∃ t' order, t.relaid hs wanted = some (t', order) ∧ order.toList.Perm (List.range hs.size) ∧ Tb t' (order.toList.map fun i => hs.getD i 0) ∧ t'.mask = M ∧ t'.led = t.led ∧ t'.plain = t.plain := by
  obtain ⟨ow, e, W⟩ := sits hM hn
  have lt : ∀ {j k : Nat}, (j, k) ∈ liveOf M ow ↔ j ≤ M ∧ oAt ow j = some k := fun {j k} => mem_live W.sz
  obtain ⟨u1, u2⟩ := ris_live (fun j => ow.getD j none) (List.range (M + 1)) (by unfold Ris; exact List.pairwise_lt_range)
  have v1 : Ris ((liveOf M ow).map (·.1)) := u1
  have v2 : ∀ x ∈ (liveOf M ow).map (·.1), x < M + 1 := fun x hx => List.mem_range.mp (u2 x hx)
  have all : ∀ k, k < hs.size → k ∈ (liveOf M ow).map (·.2) := fun k hk => by
    obtain ⟨j, b1, b2⟩ := W.all k hk
    exact List.mem_map.mpr ⟨(j, k), lt.mpr ⟨b1, b2⟩, rfl⟩
  have num : (liveOf M ow).length = hs.size := by
    obtain ⟨ps, q1, q2⟩ := W.ps
    have nod : ((liveOf M ow).map (·.1)).Nodup := List.Pairwise.imp (fun h => Nat.ne_of_lt h) v1
    have a := nat_nodup_len ((liveOf M ow).map (·.1)) ps nod fun x hx => by
      obtain ⟨⟨y, k⟩, hq, rfl⟩ := List.mem_map.mp hx
      have hq' := lt.mp hq
      exact q2 y hq'.1 (by rw [hq'.2]; simp)
    have b := nat_nodup_len (List.range hs.size) ((liveOf M ow).map (·.2)) List.nodup_range fun k hk => all k (List.mem_range.mp hk)
    simp only [List.length_map, List.length_range] at a b
    have : hs.toList.length = hs.size := rfl
    omega
  refine ⟨tabOf t M ow, ((liveOf M ow).map (·.2)).toArray, by rw [relaid_eq, hw, e]; rfl, perm_range _ _ (by simpa using num) all, ⟨v1, rfl, by simp [tabOf], hM, fun x hx => Nat.le_of_lt_succ (v2 x hx), fun i z j hi hj => ?_⟩, rfl, rfl, rfl⟩
  have hi' : (((liveOf M ow).map (·.2)).map fun i => hs.getD i 0)[i]? = some z := hi
  have hj' : ((liveOf M ow).map (·.1))[i]? = some j := hj
  simp only [List.getElem?_map] at hi' hj'
  cases hq : (liveOf M ow)[i]? with
  | none =>
    rw [hq] at hj'
    cases hj'
  | some q =>
    obtain ⟨y, k⟩ := q
    rw [hq] at hi' hj'
    cases hj'
    have hi2 : hs.getD k 0 = z := Option.some.inj hi'
    obtain ⟨b1, b2⟩ := lt.mp (List.mem_of_getElem? hq)
    obtain ⟨z0, K, a1, a2, a3⟩ := W.at_ y k b1 b2
    have ez : hs.getD k 0 = z0 := by
      have a1' : hs[k]? = some z0 := by rw [← Array.getElem?_toList]; exact a1
      simp [Array.getD_eq_getD_getElem?, a1']
    have : z0 = z := ez.symm.trans hi2
    subst this
    refine ⟨K, a2, fun k' hk' => ?_⟩
    have hs' := a3 k' hk'
    cases q : oAt ow (way M z0 k') with
    | none => exact absurd q hs'
    | some k2 => exact List.mem_map.mpr ⟨(_, k2), lt.mpr ⟨wayLe, q⟩, rfl⟩
end Zs

namespace Zs
open PySem PySem.Spec PyProof.Rows L2
/-! ### the set in the heap -/
/-- members: where a tuple lies, and its ints -/
abbrev Mem := List (Addr × List Int)
structure Zt (P : Program) (w : World) (h : Heap) (a : Addr) (L : Mem) (es : Array (Int × Value)) (ep : Nat) (t : SetTable) : Prop where
  ob : ∃ o, h.get? a = some o ∧ o.ExactSet ∧ o.data = .set es ep t
  rs : es.toList = rowsOf P w L
  tb : Tb t (L.map fun q => thash P w q.2)
  nd : (L.map (·.2)).Nodup
  tp : ∀ q ∈ L, IsT P w h q.2 q.1
  pl : t.plain = true
  ld : w.params.followText "set-order" = true ∨ t.led = true
  rm : L.length * 5 < t.mask * 3
section
variable {P : Program} {w : World} {A : Around} {E : Value → Shared → Prop} {s : Shared} {a x : Addr} {L : Mem} {es : Array (Int × Value)} {ep : Nat} {t : SetTable} {k : List Int}
theorem rows_num {L : Mem} {es : Array (Int × Value)} (h : es.toList = rowsOf P w L) : es.size = L.length := by
  have e : es.toList.length = (rowsOf P w L).length := by rw [h]
  simpa [rowsOf] using e
theorem Zt.num (Z : Zt P w s.heap a L es ep t) : es.size = L.length := rows_num Z.rs
theorem Zt.tnum (Z : Zt P w s.heap a L es ep t) : t.place.size = L.length := by simpa using Z.tb.sz
theorem fits_if {t : SetTable} {n : Nat} (h1 : t.place.size = n) (h2 : t.dummies = #[]) (h3 : n ≤ t.mask) : t.fits n = true := by
  unfold SetTable.fits SetTable.fill
  simp [h1, h2, h3]
theorem Zt.fit (Z : Zt P w s.heap a L es ep t) : t.fits es.size = true := by
  have h := Z.rm
  rw [Z.num]
  exact fits_if Z.tnum Z.tb.nd (by omega)
theorem Zt.few (Z : Zt P w s.heap a L es ep t) : L.length < 1229 := by
  have h1 := Z.rm
  have h2 := Z.tb.msk.le
  omega
theorem Zt.row (Z : Zt P w s.heap a L es ep t) {i : Nat} {q : Addr × List Int} (h : L[i]? = some q) : es[i]? = some (thash P w q.2, .ref q.1) := by
  have e : es.toList[i]? = (rowsOf P w L)[i]? := by rw [Z.rs]
  rw [Array.getElem?_toList] at e
  rw [e]
  simp [rowsOf, h]
/-- the search for k among the members: from the c-th step of its way on -/
theorem seek (Z : Zt P w s.heap a L es ep t) (hx : IsT P w s.heap k x) (hu : A.units < cLine) {K : Nat} (hK : way t.mask (thash P w k) K ∉ t.place.toList) (hKm : K < 10 * SetTable.turns t.mask)
    (hKb : ∀ c, c < K → way t.mask (thash P w k) c ∈ t.place.toList) {Q : SetFound → Shared → Prop} (yes : k ∈ L.map (·.2) → Q (.there none) s) (no : k ∉ L.map (·.2) → Q (.free (way t.mask (thash P w k) K) false) s) :
    ∀ (f c : Nat) (from_ : Option SetTable.Probe), from_.getD (t.probeStart (thash P w k)) = nth t.mask (t.probeStart (thash P w k)) c → c ≤ K → K < f + c →
      (∀ (i : Nat) q, L[i]? = some q → q.2 = k → ∃ c', c ≤ c' ∧ c' < K ∧ t.place.toList[i]? = some (way t.mask (thash P w k) c')) →
      wpAny (model P w) A (setSearchFrom a (.ref x) (thash P w k) true f from_) Q E s := by
  intro f
  induction f with
  | zero => intro c from_ _ h1 h2; omega
  | succ f ih =>
    intro c from_ hfrom hc hf hleft
    obtain ⟨o, hget, hex, hdat⟩ := Z.ob
    obtain ⟨st, hst⟩ : ∃ st, st = t.probeStart (thash P w k) := ⟨_, rfl⟩
    have ew : ∀ q, way t.mask (thash P w k) q = (nth t.mask st q).j := fun q => by rw [hst]; rfl
    have hfrom2 : from_.getD (t.probeStart (thash P w k)) = nth t.mask st c := by rw [hst]; exact hfrom
    have eshift : ∀ q, nth t.mask (nth t.mask st c) q = nth t.mask st (c + q) := fun q => (nth_add _ c st q).symm
    have ej : ∀ q, (nth t.mask (nth t.mask st c) q).j = way t.mask (thash P w k) (c + q) := fun q => by rw [eshift, ew]
    have nodm : ∀ n (pr : SetTable.Probe), pr.dummy = none → (nth t.mask pr n).dummy = none := fun n => by
      induction n with
      | zero => exact fun _ h => h
      | succ n ihn =>
        intro pr h
        refine ihn (adv t.mask pr) ?_
        unfold adv
        split <;> exact h
    have hash : ∀ {i : Nat} {q : Addr × List Int}, L[i]? = some q → (es[i]?.map (·.1)).getD 0 = thash P w q.2 := fun {i q} h => by rw [Z.row h]; rfl
    have got := go_spec t Z.tb.up Z.tb.nd (fun i => (es[i]?.map (·.1)).getD 0) (thash P w k) (10 * SetTable.turns t.mask) (K - c) (nth t.mask st c) (nodm c st (by rw [hst]; rfl)) (by omega)
      (fun q hq => by rw [ej]; exact hKb _ (by omega)) (by rw [ej, show c + (K - c) = K by omega]; exact hK)
    rw [setSearchFrom_succ]
    refine wpAny_bind (wpAny_setState_of hget hdat Z.fit ?_)
    dsimp only
    refine wp_if_neg (by unfold SetTable.gaveWay; rw [Z.tb.msk.odd]; decide) ?_
    rcases got with ⟨q, i, hqK, hplace, hh, hnone, hprobe⟩ | ⟨hnone, hprobe⟩
    · have hprobe' : t.probe (fun i => (es[i]?.map (·.1)).getD 0) (thash P w k) (nth t.mask st c) = some (.candidate (way t.mask (thash P w k) (c + q)) i (nth t.mask st (c + (q + 1)))) := by
        rw [← ej, ← eshift]
        exact hprobe
      rw [ej] at hplace
      rw [hfrom2, hprobe']
      dsimp only
      obtain ⟨y, hy⟩ : ∃ y, L[i]? = some y := by
        have h1 : i < t.place.toList.length := (List.getElem?_eq_some_iff.mp hplace).1
        have h2 : t.place.toList.length = L.length := Z.tnum
        exact ⟨L[i], List.getElem?_eq_getElem (by omega)⟩
      have hyL : y ∈ L := List.mem_of_getElem? hy
      have then_ : wpAny (model P w) A (searchRest a (.ref x) (thash P w k) true f es t (way t.mask (thash P w k) (c + q)) i (nth t.mask st (c + (q + 1)))) Q E s := by
        unfold searchRest
        rw [Z.row hy]
        dsimp only
        refine wpAny_bind (wpAny_holding (wpAny_eqBool_tuple hu (Z.tp y hyL) hx ?_))
        refine wpAny_bind (wpAny_setState_of hget hdat Z.fit ?_)
        dsimp only
        by_cases same : y.2 = k
        · refine wp_if_pos (by simp [same]) (wpAny_pure (yes ?_))
          exact List.mem_map.mpr ⟨y, hyL, same⟩
        · refine wp_if_neg (by simp [same]) ?_
          rw [sameMem]
          have live : t.slot (way t.mask (thash P w k) (c + q)) = .live i := slot_live Z.tb.up hplace
          dsimp only
          simp only [if_true, live, Z.row hy]
          refine wpAny_bind (wpAny_isSame_ref_self (wpAny_bind (wpAny_pure ?_)))
          simp only [if_true]
          refine wp_if_neg (by simp [same]) ?_
          refine ih (c + (q + 1)) (some _) (by rw [hst]; rfl) (by omega) (by omega) fun i2 y2 h2 hk2 => ?_
          obtain ⟨c', l1, l2, l3⟩ := hleft i2 y2 h2 hk2
          refine ⟨c', ?_, l2, l3⟩
          by_cases lt : c' < c + q
          · refine absurd ((hash h2).trans (congrArg (thash P w) hk2)) (hnone (c' - c) i2 (by omega) ?_)
            rw [ej, show c + (c' - c) = c' by omega]
            exact l3
          by_cases eq : c' = c + q
          · subst eq
            have live2 := slot_live Z.tb.up l3
            rw [live] at live2
            cases live2
            rw [hy] at h2
            cases h2
            exact absurd hk2 same
          · omega
      by_cases led : t.led = true
      · refine wp_if_neg (by simp [led]) ?_
        exact then_
      · refine wp_if_pos (by simp [led]) ?_
        refine wpAny_bind (seen_tup hx (fun v hv => ?_) (wp_if_neg (by decide) then_))
        obtain ⟨e, he, rfl⟩ := List.mem_map.mp hv
        have he' : e ∈ es.toList := by
          have : e ∈ es ∧ e.1 = thash P w k := by simpa using he
          simpa using this.1
        rw [Z.rs] at he'
        obtain ⟨y2, hy2, rfl⟩ := List.mem_map.mp he'
        exact ⟨y2.2, y2.1, rfl, Z.tp y2 hy2⟩
    · have hprobe' : t.probe (fun i => (es[i]?.map (·.1)).getD 0) (thash P w k) (nth t.mask st c) = some (.empty (way t.mask (thash P w k) K) none) := by
        have e := ej (K - c)
        rw [show c + (K - c) = K by omega] at e
        rw [← e]
        exact hprobe
      rw [hfrom2, hprobe']
      dsimp only
      refine wpAny_pure (no fun hm => ?_)
      obtain ⟨y, hy, hk⟩ := List.mem_map.mp hm
      obtain ⟨i, hi⟩ := List.getElem?_of_mem hy
      obtain ⟨c', l1, l2, l3⟩ := hleft i y hi hk
      refine hnone (c' - c) i (by omega) ?_ ((hash hi).trans (congrArg (thash P w) hk))
      rw [ej, show c + (c' - c) = c' by omega]
      exact l3
theorem seekAdd (Z : Zt P w s.heap a L es ep t) (hx : IsT P w s.heap k x) (hu : A.units < cLine) {Q : SetFound → Shared → Prop} (yes : k ∈ L.map (·.2) → Q (.there none) s)
    (no : ∀ K, k ∉ L.map (·.2) → way t.mask (thash P w k) K ∉ t.place.toList → (∀ c, c < K → way t.mask (thash P w k) c ∈ t.place.toList) → Q (.free (way t.mask (thash P w k) K) false) s) : wpAny (model P w) A (setSearch a (.ref x) (thash P w k) true) Q E s := by
  have hr := Z.rm
  obtain ⟨K, h1, h2, h3⟩ := Z.tb.gap (by rw [List.length_map]; omega) (thash P w k)
  have hm := Z.tb.msk.le
  have ht : SetTable.turns t.mask = t.mask + 15 := rfl
  refine seek Z hx hu h2 h1 h3 yes (fun h => no K h h2 h3) 100000 0 none rfl (Nat.zero_le _) (by omega) fun i q hq hk => ?_
  obtain ⟨j, hj⟩ : ∃ j, t.place.toList[i]? = some j := by
    have l1 := (List.getElem?_eq_some_iff.mp hq).1
    have l2 : t.place.toList.length = L.length := Z.tnum
    exact ⟨_, List.getElem?_eq_getElem (by omega)⟩
  obtain ⟨c, hc, e⟩ := Z.tb.ahead h2 (i := i) (by rw [List.getElem?_map, hq, ← hk]; rfl) hj
  exact ⟨c, Nat.zero_le _, hc, by rw [hj, e]⟩
end
end Zs

namespace Zs
open PySem PySem.Spec PyProof.Rows L2
section
variable {P : Program} {w : World} {A : Around} {E : Value → Shared → Prop} {s : Shared} {a x : Addr} {L : Mem} {es : Array (Int × Value)} {ep : Nat} {t : SetTable} {k : List Int}
theorem order_num {es : Array (Int × Value)} {order : Array Nat} {L2 : Mem} (h : (order.filterMap (es[·]?)).toList = rowsOf P w L2) : (order.filterMap (es[·]?)).size = L2.length := rows_num h
/-- a larger table -/
theorem larger {o : Obj} (hget : s.heap.get? a = some o) (hex : o.ExactSet) (hdat : o.data = .set es ep t) (hrs : es.toList = rowsOf P w L) (hpn : t.place.size = es.size) (hdm : t.dummies = #[]) (hle : es.size ≤ t.mask)
    (nod : (L.map (·.2)).Nodup) (htp : ∀ q ∈ L, IsT P w s.heap q.2 q.1) (hpl : t.plain = true) (hld : w.params.followText "set-order" = true ∨ t.led = true) {wanted M : Nat} (hw : SetTable.sizeAbove wanted = M + 1) (hM : Mk M) (hroom : L.length * 5 < M * 3)
    {Q : Unit → Shared → Prop} (fin : ∀ h' L' es' ep' t', Heap.SameBut a s.heap h' → Zt P w h' a L' es' ep' t' → L'.Perm L → Q () { s with heap := h' }) : wpAny (model P w) A (setRelay a wanted) Q E s := by
  have en := rows_num hrs
  have hMle := hM.le
  obtain ⟨t2, order, e, pm, T, e1, e2, e3⟩ := anew t (hs := es.map (·.1)) (wanted := wanted) (M := M) (by omega) hM (by rw [Array.size_map, en]; omega)
  rw [Array.size_map, en] at pm
  obtain ⟨L3, r1, r2, r3⟩ := order_rows L es order hrs pm
  have n3 : L3.length = L.length := r2.length_eq
  have on := order_num r1
  rw [← r3] at T
  rw [setRelay_eq]
  refine wpAny_bind (wpAny_setState_of hget hdat (fits_if hpn hdm hle) ?_)
  dsimp only
  have big : (2048 : Nat) ≤ sizeLine := by decide
  refine wp_if_neg (by omega) ?_
  rw [e]
  dsimp only
  refine wpAny_bind (wp_if_neg (by rw [on, n3, en]; simp) (wpAny_pure ?_))
  dsimp only
  refine wpAny_storeSet_of hget hdat ?_ (by rw [on, n3]; omega)
  have sb : Heap.SameBut a s.heap (s.heap.update a (Obj.putSet (order.filterMap (es[·]?)) t2)) := Heap.SameBut.update s.heap a _
  exact fin _ L3 _ (ep + 1) t2 sb ⟨⟨_, store_at hget hdat, ⟨hex.1, hex.2.1, hex.2.2⟩, rfl⟩, r1, T, (r2.map (·.2)).nodup_iff.mpr nod, fun q hq => isT_same (htp q (r2.mem_iff.mp hq)) hget hdat sb, e3.trans hpl, hld.imp id fun z => e2.trans z, by rw [n3, e1]; exact hroom⟩ r2
theorem sizes : SetTable.sizeAbove (SetTable.grown 5) = 32 ∧ SetTable.sizeAbove (SetTable.grown 19) = 128 ∧ SetTable.sizeAbove (SetTable.grown 77) = 512 ∧ SetTable.sizeAbove (SetTable.grown 307) = 2048 := by decide +kernel
/-- x, a tuple of the ints k, is added -/
theorem added (Z : Zt P w s.heap a L es ep t) (hx : IsT P w s.heap k x) (hu : A.units < cLine) (hmany : L.length < 1200) {Q : Bool → Shared → Prop}
    (fin : ∀ b h' L' es' ep' t', Heap.SameBut a s.heap h' → Zt P w h' a L' es' ep' t' → (k ∈ L.map (·.2) → L' = L) → (k ∉ L.map (·.2) → L'.Perm ((x, k) :: L)) → Q b { s with heap := h' }) :
    wpAny (model P w) A (setAddHashed a (.ref x) (thash P w k)) Q E s := by
  obtain ⟨o, hget, hex, hdat⟩ := Z.ob
  have en := Z.num
  have hrm := Z.rm
  unfold setAddHashed
  refine wpAny_holding ?_
  rw [show (100000 : Nat) = 99999 + 1 from rfl, setAddHashedIn_succ]
  refine wpAny_bind (wpAny_setState_of hget hdat Z.fit ?_)
  dsimp only
  refine wp_if_neg (by simp [byScan, Value.scannable]) ?_
  refine wpAny_bind (seekAdd Z hx hu (fun hm => ?_) fun K hm hK hKb => ?_)
  · dsimp only
    exact wpAny_pure (fin false s.heap L es ep t (Heap.SameBut.refl a s.heap) Z (fun _ => rfl) fun n => absurd hm n)
  dsimp only
  refine wpAny_bind (wpAny_setState_of hget hdat Z.fit ?_)
  dsimp only
  obtain ⟨b1, b2, b3⟩ := Z.tb.lay hK hKb
  rw [List.length_map] at b1 b3
  have em : (t.put (way t.mask (thash P w k) K)).1.mask = t.mask := rfl
  have el : (t.put (way t.mask (thash P w k) K)).1.led = t.led := rfl
  have epl : (t.put (way t.mask (thash P w k) K)).1.plain = true := Z.pl
  have e2 : (t.put (way t.mask (thash P w k) K)).2 = SetTable.below t.place (way t.mask (thash P w k) K) := rfl
  generalize t.put (way t.mask (thash P w k) K) = pt at b2 b3 em el epl e2 ⊢
  obtain ⟨t1, at_⟩ := pt
  dsimp only at b2 b3 em el epl e2 ⊢
  rw [← e2] at b1 b2
  refine wp_if_pos epl (wpAny_bind (hashBy_tup hx ?_))
  simp only [if_true]
  have hrs : (SetTable.insertAt es at_ (thash P w k, Value.ref x)).toList = rowsOf P w (L.take at_ ++ (x, k) :: L.drop at_) := by
    rw [SetTable.toList_insertAt, rows_put, Z.rs]
  have pm := put_perm L at_ (x, k)
  have ehash : (L.take at_ ++ (x, k) :: L.drop at_).map (fun q => thash P w q.2) = (L.map fun q => thash P w q.2).take at_ ++ thash P w k :: (L.map fun q => thash P w q.2).drop at_ := by
    simp
  rw [← ehash] at b2
  generalize SetTable.insertAt es at_ (thash P w k, Value.ref x) = es1 at hrs ⊢
  generalize L.take at_ ++ (x, k) :: L.drop at_ = L1 at pm b2 hrs
  have n1 : L1.length = L.length + 1 := pm.length_eq
  have en1 := rows_num hrs
  have nod : (L1.map (·.2)).Nodup := (pm.map (·.2)).nodup_iff.mpr (List.nodup_cons.mpr ⟨hm, Z.nd⟩)
  have big : (2048 : Nat) ≤ sizeLine := by decide
  refine wpAny_bind (wpAny_storeSet_of hget hdat ?_ (by omega))
  have sb : Heap.SameBut a s.heap (s.heap.update a (Obj.putSet es1 t1)) := Heap.SameBut.update s.heap a _
  have hget1 := store_at (es' := es1) (t' := t1) hget hdat
  generalize s.heap.update a (Obj.putSet es1 t1) = h1 at sb hget1 ⊢
  have htp : ∀ q ∈ L1, IsT P w h1 q.2 q.1 := fun q hq => by
    rcases List.mem_cons.mp (pm.mem_iff.mp hq) with e | e
    · rw [e]
      exact isT_same hx hget hdat sb
    · exact isT_same (Z.tp q e) hget hdat sb
  have hld : w.params.followText "set-order" = true ∨ t1.led = true := by rw [el]; exact Z.ld
  have hdm := b2.nd
  have full : t1.tooFull = decide ((L.length + 1) * 5 ≥ t.mask * 3) := by
    unfold SetTable.tooFull SetTable.fill
    rw [hdm, b3, em]
    rfl
  by_cases c : (L.length + 1) * 5 ≥ t.mask * 3
  · rw [decide_eq_true c] at full
    refine wp_if_pos (by simp [full]) ?_
    have four : (t.mask = 7 ∧ L.length = 4) ∨ (t.mask = 31 ∧ L.length = 18) ∨ (t.mask = 127 ∧ L.length = 76) ∨ (t.mask = 511 ∧ L.length = 306) := by
      rcases Z.tb.msk.cases with e | e | e | e | e <;> rw [e] at c hrm <;> omega
    have next : ∃ M, SetTable.sizeAbove (SetTable.grown (es.size + 1)) = M + 1 ∧ Mk M ∧ L1.length * 5 < M * 3 := by
      rw [en, n1]
      rcases four with ⟨_, e⟩ | ⟨_, e⟩ | ⟨_, e⟩ | ⟨_, e⟩ <;> rw [e]
      · exact ⟨31, sizes.1, mk31, by decide⟩
      · exact ⟨127, sizes.2.1, mk127, by decide⟩
      · exact ⟨511, sizes.2.2.1, mk511, by decide⟩
      · exact ⟨2047, sizes.2.2.2, mk2047, by decide⟩
    obtain ⟨M, w1, w2, w3⟩ := next
    refine wpAny_bind (larger (s := { s with heap := h1 }) hget1 ⟨hex.1, hex.2.1, hex.2.2⟩ rfl hrs (by omega) hdm (by rw [em]; omega) nod htp epl hld w1 w2 w3 fun h2 L3 es3 ep3 t3 sb3 Z3 pm3 => ?_)
    exact wpAny_pure (fin true h2 L3 es3 ep3 t3 (sb.trans sb3) Z3 (fun z => absurd z hm) fun _ => pm3.trans pm)
  · rw [decide_eq_false c] at full
    refine wp_if_neg (by simp [full]) ?_
    exact wpAny_pure (fin true h1 L1 es1 (ep + 1) t1 sb ⟨⟨_, hget1, ⟨hex.1, hex.2.1, hex.2.2⟩, rfl⟩, hrs, b2, nod, htp, epl, hld, by rw [n1, em]; omega⟩ (fun z => absurd z hm) fun _ => pm)
/-- the method add, given a tuple -/
theorem call_add (Z : Zt P w s.heap a L es ep t) (hx : IsT P w s.heap k x) (hu : A.in1.units < cLine) (hmany : L.length < 1200) {Q : Value → Shared → Prop}
    (fin : ∀ h' L' es' ep' t' n, Heap.SameBut a s.heap h' → Zt P w h' a L' es' ep' t' → (k ∈ L.map (·.2) → L' = L) → (k ∉ L.map (·.2) → L'.Perm ((x, k) :: L)) → Q .none { s with heap := h', toks := n }) :
    wpAny (model P w) A (call (.builtin "set.add") [.ref a, .ref x]) Q E s := by
  obtain ⟨o, hget, hex, hdat⟩ := Z.ob
  refine wpAny_call_entry F.slot_set_add ⟨o, hget, hex.1⟩ F.entry_set_add ?_ (F.args_set_add_2 _ _)
  unfold Builtin.«set.add» Builtin.Frozenset.oneOther
  simp only [List.isEmpty_nil, bind_assoc]
  unfold Builtin.Frozenset.addrOf setAdd
  refine wpAny_bind (wpAny_pure ?_)
  try dsimp only
  refine wpAny_bind (wpAny_pure ?_)
  try dsimp only
  refine wpAny_bind (wpAny_holding ?_)
  refine wpAny_bind (wpAny_pyHash_tuple hu hx ?_)
  refine added (s := { s with toks := s.toks + (k.length + 1) }) Z hx hu hmany fun b h' L' es' ep' t' sb Z' c1 c2 => ?_
  show wpAny _ _ (ret Value.none) _ _ _
  exact wpAny_pure ⟨_, rfl, fin h' L' es' ep' t' _ sb Z' c1 c2⟩
end
end Zs

namespace Zs
open PySem PySem.Spec PyProof.Rows L2
/-! ### sorted of a set whose members are known as data -/
theorem perm_map {α β : Type} {f : α → β} {l m : List β} (h : l.Perm m) : ∀ {L : List α}, m = L.map f → ∃ L' : List α, l = L'.map f ∧ L'.Perm L := by
  induction h with
  | nil =>
    intro L e
    cases L with
    | nil => exact ⟨[], rfl, .refl _⟩
    | cons y L => cases e
  | cons z _ ih =>
    intro L e
    cases L with
    | nil => cases e
    | cons y L =>
      rw [List.map_cons] at e
      injection e with e1 e2
      obtain ⟨L', rfl, p⟩ := ih e2
      exact ⟨y :: L', by rw [e1]; rfl, p.cons y⟩
  | swap y z l =>
    intro L e
    match L, e with
    | u :: v :: L, e =>
      rw [List.map_cons, List.map_cons] at e
      injection e with e1 e2
      injection e2 with e2 e3
      exact ⟨v :: u :: L, by rw [e1, e2, e3]; rfl, .swap _ _ _⟩
  | trans _ _ ih1 ih2 =>
    intro L e
    obtain ⟨L1, e1, p1⟩ := ih2 e
    obtain ⟨L2, e2, p2⟩ := ih1 e1
    exact ⟨L2, e2, p2.trans p1⟩
section
variable {P : Program} {w : World} {A : Around} {E : Value → Shared → Prop} {s : Shared}
/-- a set that can be walked: its members vs -/
def Wkb (w : World) (h : Heap) (a : Addr) (vs : List Value) : Prop := ∃ o es ep t, h.get? a = some o ∧ o.cls = .type "set" ∧ o.data = .set es ep t ∧ t.fits es.size = true ∧ es.size < scanBound ∧ Ris t.place.toList ∧
  (w.params.followText "set-order" = true ∨ t.led = true) ∧ es.toList.map (·.2) = vs
theorem Zt.wkb {a : Addr} {L : Mem} {es : Array (Int × Value)} {ep : Nat} {t : SetTable} (Z : Zt P w s.heap a L es ep t) : Wkb w s.heap a (L.map fun q => .ref q.1) := by
  obtain ⟨o, h1, h2, h3⟩ := Z.ob
  have hf := Z.few
  refine ⟨o, es, ep, t, h1, h2.1, h3, Z.fit, by rw [Z.num]; unfold scanBound; omega, Z.tb.up, Z.ld, ?_⟩
  rw [Z.rs]
  simp [rowsOf]
theorem sortedW {β : Type} {a : Addr} {L : List β} {f : β → Value} {enc : β → PyData} {Q : Value → Shared → Prop} (W : Wkb w s.heap a (L.map f)) (hh : A.handled = none) (hal : ∀ x y, PySem.W.alike (enc x) (enc y) = true)
    (hk : ∀ M : List β, M.Perm L → PySem.W.Sortable (M.map enc)) (hr : ∀ x ∈ L, ∀ h' : Heap, (∀ b o, s.heap.get? b = some o → h'.get? b = some o) → PySem.Reads h' (f x) (enc x) []) (hu : ∀ x ∈ L, A.units + 4 + (enc x).depth < cLine)
    (fin : ∀ s' p (out : Array Value) (c : Nat) (M : List β), (∀ b o, s.heap.get? b = some o → s'.heap.get? b = some o) → s'.gens = s.gens → s'.os = s.os → s.heap.objs.size ≤ p → s'.heap.get? p = some (seqObj "list" out c) →
      M.Perm L → out.toList = (M.mergeSort (PySem.W.dataLe false enc)).map f → Q (.ref p) s') : wpAny (model P w) A (call (.builtin "sorted") [.ref a]) Q E s := by
  obtain ⟨o, es, ep, t, hget, hcls, hdat, hfit, hsz, hris, hled, hvs⟩ := W
  refine Calls.call_function_entry kind_sorted plain_sorted entry_sorted (args_sorted1 _) ?_
  unfold Builtin.«sorted»
  refine wpAny_bind (m := checkCount "sorted" 1 1 _) (wpAny_pure ?_)
  refine wpAny_bind (collect_set (A := A.in1) hh ⟨o, hget, hcls, hdat⟩ hfit hsz hris hled fun s1 out0 keep hgrow hgen hos pm => ?_)
  rw [hvs] at pm
  obtain ⟨M, rfl, pM⟩ := perm_map pm rfl
  have hnum : M.length ≤ sizeLine := by
    have e := congrArg List.length hvs
    rw [List.length_map, List.length_map, Array.length_toList] at e
    rw [pM.length_eq, ← e]
    exact fits_of_scanBound hsz
  refine wpAny_bind (wpAny_newList ?_ (by rw [List.length_map]; exact hnum))
  have hnew : (s1.heap.push (seqObj "list" (M.map f).toArray 0)).get? s1.heap.objs.size = some (seqObj "list" (M.map f).toArray 0) := Heap.get?_push_size _ rfl
  have each : ∀ M' : List β, (∀ x ∈ M', x ∈ L) → PySem.W.EachIs (fun v x => v = f x) (M'.map f) M' ∧ PySem.W.EachIs (fun v x => ∃ as, PySem.Reads (s1.heap.push (seqObj "list" (M.map f).toArray 0)) v (enc x) as ∧ s1.heap.objs.size ∉ as) (M'.map f) M' := by
    intro M'
    induction M' with
    | nil => intro _; exact ⟨.nil, .nil⟩
    | cons x M' ih =>
      intro hx
      obtain ⟨i1, i2⟩ := ih fun y hy => hx y (List.mem_cons_of_mem _ hy)
      exact ⟨.cons rfl i1, .cons ⟨[], hr x (hx x List.mem_cons_self) _ (fun b u e => Heap.get?_push_of_some _ (keep b u e)), by simp⟩ i2⟩
  obtain ⟨ea, eb⟩ := each M fun x hx => pM.mem_iff.mp hx
  refine wpAny_bind (wpAny_holding (PySem.W.list_sort_data (s := { s1 with heap := s1.heap.push (seqObj "list" (M.map f).toArray 0) }) (enc := enc) (R := fun v x => v = f x) hnew ea eb (PySem.W.AllAlike.of hal) (hk M pM) hnum (fun x hx => ?_) fun out ho hout => ?_))
  · have := hu x (pM.mem_iff.mp hx)
    simp only [units_in1]
    omega
  have eout : out = (M.mergeSort (PySem.W.dataLe false enc)).map f := by
    generalize M.mergeSort (PySem.W.dataLe false enc) = N at hout
    clear ho
    induction hout with
    | nil => rfl
    | cons h1 _ ih => rw [List.map_cons, h1, ih]
  obtain ⟨c, hc⟩ := PyProof.Rows.sortedHeap_at (vs := M.map f) (out := out.toArray) hnew
  refine wpAny_pure ⟨_, rfl, fin _ s1.heap.objs.size out.toArray c M (fun b u e => ?_) hgen hos hgrow hc pM (by simpa using eout)⟩
  have e1 := keep b u e
  have hlt : b < s1.heap.objs.size := Heap.lt_size e1
  show (PyProof.Rows.sortedHeap (s1.heap.push (seqObj "list" (M.map f).toArray 0)) s1.heap.objs.size (M.map f) out.toArray).get? b = some u
  rw [PyProof.Rows.sortedHeap_old (Nat.ne_of_lt hlt) (by rw [size_push']; exact Nat.lt_succ_of_lt hlt)]
  exact Heap.get?_push_of_some _ e1
end
/-! ### the rules -/
def ZO (P : Program) (w : World) (a : Addr) (L : Mem) : HO := .ext fun h => ∃ es ep t, (∃ o, h.get? a = some o ∧ o.ExactSet ∧ o.data = .set es ep t) ∧ es.toList = rowsOf P w L ∧ Tb t (L.map fun q => thash P w q.2) ∧ (L.map (·.2)).Nodup ∧ t.plain = true ∧
  (w.params.followText "set-order" = true ∨ t.led = true) ∧ L.length * 5 < t.mask * 3
section
variable {X : Cx} {pins : List (Addr × Obj)} {σ : L2.St} {H : Hp} {s : Shared} {a : Addr} {L : Mem} {P : Program} {w : World}
theorem zo_new {h : Heap} {es : Array (Int × Value)} {ep : Nat} {t : SetTable} (Z : Zt P w h a L es ep t) : ObjOk P w H h a (ZO P w a L) := by
  obtain ⟨o, h1, h2⟩ := Z.ob
  refine ⟨⟨es, ep, t, ⟨o, h1, h2⟩, Z.rs, Z.tb, Z.nd, Z.pl, Z.ld, Z.rm⟩, ⟨o, h1⟩, fun g1 g2 q keep => ?_⟩
  obtain ⟨es', ep', t', ⟨o', k1, k2⟩, r⟩ := q
  exact ⟨es', ep', t', ⟨o', keep o' k1, k2⟩, r⟩
theorem zo_get (I : Inv X pins σ H s) (ha : H a = some (ZO X.prog X.w a L)) (ht : ∀ q ∈ L, SqT X.K H q.1 (q.2.map V.int)) : ∃ es ep t, Zt X.prog X.w s.heap a L es ep t := by
  have R := (I.hok a _ ha).1
  obtain ⟨es, ep, t, h1, h2, h3, h4, h5, h6, h7⟩ := (show ∃ es ep t, (∃ o, s.heap.get? a = some o ∧ o.ExactSet ∧ o.data = .set es ep t) ∧ es.toList = rowsOf X.prog X.w L ∧ Tb t (L.map fun q => thash X.prog X.w q.2) ∧ (L.map (·.2)).Nodup ∧ t.plain = true ∧ (X.w.params.followText "set-order" = true ∨ t.led = true) ∧ L.length * 5 < t.mask * 3 from R)
  exact ⟨es, ep, t, h1, h2, h3, h4, fun q hq => I.isT (ht q hq), h5, h6, h7⟩
/-- set() -/
def rZ0 (P : Program) (w : World) : List V → Hp → VK → Prop := fun vs H Q => vs = [] ∧ ∀ p, H p = none → Q (.ref p) (upd H p (ZO P w p []))
theorem cr_Z0 : CallR X (.type "set") (rZ0 X.prog X.w) := by
  intro pins s σ H vs us Q I r h
  obtain ⟨e, q⟩ := h
  subst e
  cases r
  refine setR_new fun _ => ?_
  have hn : H s.heap.objs.size = none := I.hok.fresh (Nat.le_refl _)
  have hld : X.w.params.followText "set-order" = true ∨ (SetTable.fresh 0 0 (!X.w.params.followText "set-order")).led = true := by
    show _ ∨ (!X.w.params.followText "set-order") = true
    cases X.w.params.followText "set-order" <;> simp
  have Z : Zt X.prog X.w (s.heap.push { cls := .type "set", dict := none, data := .set #[] 0 (.fresh 0 0 (!X.w.params.followText "set-order")) }) s.heap.objs.size [] #[] 0 (.fresh 0 0 (!X.w.params.followText "set-order")) :=
    ⟨⟨_, Heap.get?_push_size _ rfl, ⟨rfl, rfl, rfl⟩, rfl⟩, rfl, ⟨List.Pairwise.nil, rfl, rfl, mk7, fun x hx => (by cases hx), fun i z j hi => (by simp at hi)⟩, List.nodup_nil, fun q hq => (by cases hq), rfl, hld, by show 0 * 5 < 7 * 3; decide⟩
  exact ⟨.ref s.heap.objs.size, _, I.laid (t' := s.toks) (fun b u e => Heap.get?_push_of_some _ e) (Nat.le_refl _) (zo_new Z), rfl, q _ hn⟩
/-- found.add(t), t a tuple of ints -/
def rZAdd (K : PySem.W.Frag) (P : Program) (w : World) : V → List V → Hp → VK → Prop := fun x vs H Q => ∃ (a p : Addr) (k : List Int) (L : Mem), x = .ref a ∧ vs = [.ref p] ∧ H a = some (ZO P w a L) ∧ SqT K H p (k.map V.int) ∧ (∀ q ∈ L, SqT K H q.1 (q.2.map V.int)) ∧ L.length < 1200 ∧
  ∀ L', (k ∈ L.map (·.2) → L' = L) → (k ∉ L.map (·.2) → L'.Perm ((p, k) :: L)) → Q .non (upd H a (ZO P w a L'))
theorem mt_zadd (hu : X.A.units + 64 < cLine) : MtR X "set.add" (rZAdd X.K X.prog X.w) := by
  intro pins s σ H x vs v us Q I rx rvs h
  obtain ⟨a, p, k, L, rfl, rfl, ha, hp, ht, hmany, q⟩ := h
  cases rx
  obtain ⟨u, rfl, ru⟩ := rvs.one
  cases ru
  obtain ⟨es, ep, t, Z⟩ := zo_get I ha ht
  refine call_add Z (I.isT hp) (by simp only [units_in1]; omega) hmany fun h' L' es' ep' t' n sb Z' c1 c2 => ?_
  obtain ⟨o', ho', _⟩ := Z'.ob
  exact ⟨.non, upd H a (ZO X.prog X.w a L'), I.write (e := a) (t' := n) (by rw [ha]; trivial) (.inl rfl) (fun b u hb hu' => (sb.2 b hb).trans hu') ⟨o', ho'⟩ (zo_new Z'), rfl, q L' c1 c2⟩
def tZAdd (K : PySem.W.Frag) (P : Program) (w : World) (to : TE) (t : TA) : TE := fun σ H Q => to σ H fun x H1 => (∃ a L, x = V.ref a ∧ H1 a = some (ZO P w a L) ∧ ∀ q ∈ L, SqT K H1 q.1 (q.2.map V.int)) ∧ t σ H1 fun vs H2 => rZAdd K P w x vs H2 Q
theorem pe_zadd {o e : Expr} {es : List Expr} {to : TE} {t : TA} {apos cpos : Pos} (hu : X.A.units + 64 < cLine) (ho : PE X o to) (ha : PA X (e :: es) t) (h1 : attributeBase o "add" X.env (eval o X.env) = eval o X.env := by rfl)
    (h2 : ((backTo cpos (starEach (e :: es) X.env)).all (fun x => !x.1) && (backToKw cpos (keywordEach [] X.env)).all (fun x => x.1.isSome) && decide ((e :: es).length + ([] : List Keyword).length + (if ([] : List Keyword).isEmpty then 0 else 1) < 30)) = true := by rfl)
    (h3 : (apos.endLine == cpos.line) = true := by rfl) (h4 : starEach (e :: es) X.env = (false, eval e X.env) :: starEach es X.env := by rfl) (h5 : (backTo cpos (starEach es X.env)).any (·.1) = false := by rfl) :
    PE X (.Call (.Attribute o "add" apos) (e :: es) [] cpos) (tZAdd X.K X.prog X.w to t) := by
  refine ⟨fun pins s σ H Q I h => wpAny_Call_method_late h1 h2 h3 rfl (thn (ho.run pins s σ H _ I h) fun v st ⟨x, H1, I1, rx, tyx, rest⟩ => ?_)⟩
  obtain ⟨a, L, rfl, hz, ht⟩ := tyx
  cases rx
  obtain ⟨es0, ep, tt, Z⟩ := zo_get I1 hz ht
  obtain ⟨ob, hob, hex, _⟩ := Z.ob
  refine ⟨"set", "set.add", F.plainAttrs_set, F.slot_set_add, F.type_set_add, ⟨ob, hob, hex.1⟩, (fun b hb => ?_), ?_⟩
  · cases hb
    exact ⟨ob, hob, hex.2.1⟩
  have args := ha.run cpos pins st σ H1 _ I1 rest
  rw [h4] at args ⊢
  refine Calls.callWith_builtin (by show (false || (backTo cpos (starEach es X.env)).any (·.1)) = false; rw [h5]; rfl) (Calls.evalArgs_plain (thn args fun us s2 ⟨vs, H2, I2, r2, q2⟩ => ?_))
  exact mt_zadd hu pins s2 σ H2 (.ref a) vs (.ref a) us Q I2 rfl r2 q2
/-- sorted(found), the members tuples of ints, none of them empty -/
def intsD (k : List Int) : PyData := .tuple (k.map .int)
theorem ints_alike (k l : List Int) : PySem.W.alike (intsD k) (intsD l) = true := by
  show PySem.W.alikeAll _ _ = true
  exact PySem.W.alike_ints k l
theorem ints_depth (k : List Int) : (intsD k).depth = 1 := by
  simp [intsD, PyData.depth, PySem.W.depth_ints]
theorem reads_ints {h : Heap} : ∀ {k : List Int} {vs : List Value}, ItemsAre (intKind P w) k vs → PySem.ReadsAll h vs (k.map .int) []
  | [], _, .nil => .nil
  | n :: k, _, .cons r t => by
    obtain ⟨tk, e⟩ := Value.isInt_shape r
    subst e
    exact .cons (as := []) (bs := []) (.int n tk) (reads_ints t)
theorem isT_reads {h h' : Heap} {k : List Int} {b : Addr} (x : IsT P w h k b) (keep : ∀ c o, h.get? c = some o → h'.get? c = some o) : PySem.Reads h' (.ref b) (intsD k) [] := by
  obtain ⟨o, items, n, h1, h2, h3, h4⟩ := x
  exact .tuple (keep _ _ h1) h2 h3 (reads_ints h4)
def rZSort (K : PySem.W.Frag) (P : Program) (w : World) : List V → Hp → VK → Prop := fun vs H Q => ∃ (a : Addr) (L : Mem), vs = [.ref a] ∧ H a = some (ZO P w a L) ∧ (∀ q ∈ L, SqT K H q.1 (q.2.map V.int)) ∧ (∀ q ∈ L, q.2 ≠ []) ∧
  ∀ (M : Mem) (p : Addr), M.Perm L → (M.map (·.2)).Nodup → H p = none → Q (.ref p) (upd H p (.lst ((M.mergeSort (PySem.W.dataLe false fun q => intsD q.2)).map fun q => V.ref q.1)))
theorem refsM : ∀ M : Mem, Vals (M.map fun q => V.ref q.1) (M.map fun q => Value.ref q.1)
  | [] => .nil
  | _ :: M => .cons rfl (refsM M)
theorem cr_ZSort (hc : X.calm = true) (hu : X.A.units + 64 < cLine) : CallR X (.builtin "sorted") (rZSort X.K X.prog X.w) := by
  intro pins s σ H vs us Q I r h
  obtain ⟨a, L, rfl, ha, ht, hne, q⟩ := h
  obtain ⟨es, ep, t, Z⟩ := zo_get I ha ht
  obtain ⟨u, rfl, ru⟩ := vals1 r
  obtain rfl : u = Value.ref a := ru
  refine sortedW (enc := fun q => intsD q.2) Z.wkb (I.ok.hd hc) (fun x y => ints_alike _ _) (fun M pm => .inl fun d hd => ?_) (fun x hx h' keep => isT_reads (Z.tp x hx) keep) (fun x _ => by rw [ints_depth]; omega) fun s' p out c M keep hgen hos hp hget pm hout => ?_
  · obtain ⟨x, hx, rfl⟩ := List.mem_map.mp hd
    cases e : x.2 with
    | nil => exact absurd e (hne x (pm.mem_iff.mp hx))
    | cons n k => exact ⟨.int n, k.map .int, rfl⟩
  have hn : H p = none := I.hok.fresh hp
  have len : ((M.mergeSort (PySem.W.dataLe false fun q => intsD q.2)).map fun q => V.ref q.1).length ≤ sizeLine := by
    rw [List.length_map, List.length_mergeSort, pm.length_eq]
    have := Z.few
    exact Nat.le_trans (by omega : _ ≤ 2000) (by decide)
  have vals : Vals ((M.mergeSort (PySem.W.dataLe false fun q => intsD q.2)).map fun q => V.ref q.1) out.toList := by
    rw [hout]
    exact refsM _
  have J : Inv X pins σ (upd H p (.lst ((M.mergeSort (PySem.W.dataLe false fun q => intsD q.2)).map fun q => V.ref q.1))) { s with heap := s'.heap, gens := s'.gens, drawn := s'.drawn, toks := s'.toks } :=
    I.call (ch := []) (Un.laid keep hp hn) (I.hok.laid keep hp ⟨len, out.toList, c, vals, hget⟩) (by rw [hgen]; exact I.bare) fun _ z => nomatch z
  have same : s' = { s with heap := s'.heap, gens := s'.gens, drawn := s'.drawn, toks := s'.toks } := by
    cases s'
    cases hos
    rfl
  rw [same]
  exact ⟨.ref p, _, J, rfl, q M p pm ((pm.map (·.2)).nodup_iff.mpr Z.nd) hn⟩
end
end Zs

namespace L2
open PySem PySem.Spec PyProof.Rows
section
variable {X : Cx} {pins : List (Addr × Obj)} {σ : St} {H : Hp} {s : Shared} {a b : Addr} {r : Value} {d : V} {k : List Key} {A : Around} {E : Value → Shared → Prop}
/-- setdefault, the key a tuple -/
theorem d_setdT {kvs : List (List Key × V)} {Q : Value → Shared → Prop} (hu : A.units + 1 < cLine) (I : Inv X pins σ H s) (e : H a = some (.dT kvs)) (eb : H b = some (.tup (k.map kV))) (rd : RelV d r) (hl : kvs.length < sizeLine)
    (h1 : ∀ v, valV kvs k = some v → ∀ (w' : Value) (s' : Shared), Inv X pins σ H s' → RelV v w' → Q w' s') (h2 : valV kvs k = none → ∀ (w' : Value) (s' : Shared), Inv X pins σ (upd H a (.dT (putK kvs k d))) s' → RelV d w' → Q w' s') :
    wpAny (model X.prog X.w) A (call (.builtin "dict.setdefault") [.ref a, .ref b, r]) Q E s := by
  obtain ⟨z, hd, xs, rel, dd⟩ := dt_of I.hok e
  have hz : xs.length ≤ sizeLine := by rw [← Paired.length rel]; exact z
  refine call_setdefault_heap (hsz := hz) (tupleKind_room_in1 hu) (key_of I.hok eb) hd dd (fun p hp => ?_) fun hn h' dd' hs => ?_
  · have q := rel.val k
    rw [hp] at q
    cases q0 : valV kvs k with
    | none =>
      rw [q0] at q
      exact (show False from q).elim
    | some v0 =>
      rw [q0] at q
      exact h1 v0 q0 _ _ (I.tok _) q
  · have q := rel.val k
    rw [hn] at q
    cases q0 : valV kvs k with
    | some v0 =>
      rw [q0] at q
      exact (show False from q).elim
    | none =>
      have hl2 : (putK kvs k d).length ≤ sizeLine := by
        have := length_putK kvs k d
        omega
      obtain ⟨o, es, ep, hq, g2, g3, g4, _, g5⟩ := dd'
      refine h2 q0 _ _ (d_write (t' := s.toks + (tupleKind (mixKind X.prog X.w)).draws k) I (by rw [e]; exact True.intro) hs ⟨o, hq⟩ ⟨hl2, hd, _, (rel.put k eb rd).keeps fun c ys ec => ?_, o, es, ep, hq, g2, g3, g4, g5⟩) rd
      rw [upd_ne (ne_of ec e (fun z => nomatch z))]
      exact ec
end
/-- d.setdefault(t, z), t a tuple -/
def tSetT (td ty tx : TE) : TE := fun σ H Q => td σ H fun x H1 => ∃ a, x = .ref a ∧ IsD H1 a ∧ ty σ H1 fun y H2 => tx σ H2 fun z H3 => ∃ (kvs : List (List Key × V)) (k : List Key) (b : Addr), H3 a = some (.dT kvs) ∧ y = .ref b ∧ H3 b = some (.tup (k.map kV)) ∧ kvs.length < sizeLine ∧
  (∀ v, valV kvs k = some v → Q v H3) ∧ (valV kvs k = none → Q z (upd H3 a (.dT (putK kvs k z))))
section
variable {X : Cx} {o e f : Expr} {td ty tx : TE} {apos cpos : Pos} {σ : St} {H : Hp} {Q : VK}
theorem pe_setT (hu : X.A.units + 64 < cLine) (ho : PE X o td) (he : PE X e ty) (hf : PE X f tx) (m : M2 X o "setdefault" apos e f cpos) : PE X (.Call (.Attribute o "setdefault" apos) [e, f] [] cpos) (tSetT td ty tx) := by
  refine ⟨fun pins s σ H Q I h => ?_⟩
  refine wpAny_Call_method m.base m.few m.line PySem.F.plainAttrs_dict PySem.F.slot_dict_setdefault PySem.F.type_dict_setdefault (thn (ho.run pins s σ H _ I h) fun u s1 ⟨x, H1, I1, rx, a, ex, d, q1⟩ => ?_)
  subst ex
  obtain rfl : u = Value.ref a := rx
  obtain ⟨t1, t2, _⟩ := isD_at I1 d
  refine ⟨t1, t2, ?_⟩
  rw [m.trees]
  refine Calls.callWith_builtin rfl (Calls.evalArgs_plain (Calls.spliced_cons (thn (he.run pins s1 σ H1 _ I1 q1) fun iv s2 ⟨y, H2, I2, ry, q2⟩ =>
    Calls.spliced_cons (thn (hf.run pins s2 σ H2 _ I2 q2) fun fv s3 ⟨z, H3, I3, rz, kvs, k, b, ea, ey, eb, hl, q3, q4⟩ => Calls.spliced_nil ?_))))
  subst ey
  obtain rfl : iv = Value.ref b := ry
  exact d_setdT (by first | omega | (simp only [units_in1]; omega)) I3 ea eb rz hl (fun v hv w' s4 I4 rw' => ⟨v, _, I4, rw', q3 v hv⟩) fun hn w' s4 I4 rw' => ⟨z, _, I4, rw', q4 hn⟩
theorem x_setT (q : td σ H fun x H1 => ∃ a, x = .ref a ∧ IsD H1 a ∧ ty σ H1 fun y H2 => tx σ H2 fun z H3 => ∃ (kvs : List (List Key × V)) (k : List Key) (b : Addr), H3 a = some (.dT kvs) ∧ y = .ref b ∧ H3 b = some (.tup (k.map kV)) ∧ kvs.length < sizeLine ∧
  (∀ v, valV kvs k = some v → Q v H3) ∧ (valV kvs k = none → Q z (upd H3 a (.dT (putK kvs k z))))) : tSetT td ty tx σ H Q := q
theorem x_dget2 (q : td σ H fun x H1 => ∃ a, x = .ref a ∧ IsD H1 a ∧ ty σ H1 fun y H2 => tx σ H2 fun z H3 => ∃ o, DGet H3 a y o ∧ Q (o.getD z) H3) : tDGet2 td ty tx σ H Q := q
theorem x_dnewT (q : ∀ p, H p = none → Q (.ref p) (upd H p (.dT []))) : tDNewT σ H Q := q
end
end L2
namespace Sr
open PySem PySem.Spec PyProof.Rows L2
/-! ### lists under keys that are tuples -/
abbrev NP := Nat × Nat
def npV (q : NP) : List V := [.int (q.1 : Nat), .int (q.2 : Nat)]
def wkey (k : Nat) (z : List Nat) : List Key := [.inl (k : Int), .inr (S z)]
theorem S_inj' {a b : List Nat} (h : S a = S b) : a = b := by
  have : (S a).cps.toList = (S b).cps.toList := by rw [h]
  simpa [S] using this
theorem wkey_inj {k k' : Nat} {z z' : List Nat} (h : wkey k z = wkey k' z') : k = k' ∧ z = z' := by
  unfold wkey at h
  simp only [List.cons.injEq, Sum.inl.injEq, Sum.inr.injEq, and_true] at h
  exact ⟨by omega, S_inj' h.2⟩
structure PLs (H0 H : Hp) (D : Addr) (kvs : List (List Key × V)) (f : Nat → List Nat → List NP) : Prop where
  n : H0 D = none
  d : H D = some (.dT kvs)
  no : ∀ k z, valV kvs (wkey k z) = none → f k z = []
  yes : ∀ k z v, valV kvs (wkey k z) = some v → ∃ b as, v = .ref b ∧ H0 b = none ∧ H b = some (.lst (as.map V.ref)) ∧ Tup npV H as (f k z)
  inj : ∀ k z k' z' b, valV kvs (wkey k z) = some (.ref b) → valV kvs (wkey k' z') = some (.ref b) → k = k' ∧ z = z'
section
variable {H0 H H' : Hp} {D : Addr} {kvs : List (List Key × V)} {f : Nat → List Nat → List NP}
theorem PLs.same (p : PLs H0 H D kvs f) (e : Same H H') : PLs H0 H' D kvs f :=
  ⟨p.n, e _ _ p.d, p.no, fun k z v h => (by
    obtain ⟨b, as, h1, h2, h3, h4⟩ := p.yes k z v h
    exact ⟨b, as, h1, h2, e _ _ h3, h4.same e⟩), p.inj⟩
theorem PLs.start (hn : H0 D = none) (hd : H D = some (.dT [])) : PLs H0 H D [] (fun _ _ => []) :=
  ⟨hn, hd, fun _ _ _ => rfl, fun k z v h => (nomatch h), fun k z k' z' b h => (nomatch h)⟩
/-- a list more -/
theorem PLs.put {k : Nat} {z : List Nat} {E : Addr} (p : PLs H0 H D kvs f) (hn : valV kvs (wkey k z) = none) (hE0 : H0 E = none) (hE : H E = some (.lst [])) (hf : ∀ k z v, valV kvs (wkey k z) = some v → v ≠ .ref E) : PLs H0 (upd H D (.dT (putK kvs (wkey k z) (.ref E)))) D (putK kvs (wkey k z) (.ref E)) f := by
  have hED : E ≠ D := fun e => by
    have := p.d
    rw [← e, hE] at this
    cases this
  refine ⟨p.n, upd_same, fun k1 z1 h => ?_, fun k1 z1 v h => ?_, fun k1 z1 k2 z2 b h h' => ?_⟩
  · rw [valV_put] at h
    split at h
    · cases h
    · exact p.no _ _ h
  · rw [valV_put] at h
    split at h
    · rename_i e
      obtain ⟨rfl, rfl⟩ := wkey_inj e
      obtain rfl := Option.some.inj h
      refine ⟨E, [], rfl, hE0, (upd_ne hED).trans hE, ?_⟩
      rw [p.no _ _ hn]
      exact Tup.nil
    · obtain ⟨b, as, h1, h2, h3, h4⟩ := p.yes _ _ _ h
      have hbD : b ≠ D := fun e => by
        have := p.d
        rw [← e, h3] at this
        cases this
      refine ⟨b, as, h1, h2, (upd_ne hbD).trans h3, ⟨h4.1, fun j t q g1 g2 => ?_⟩⟩
      have g3 := h4.2 j t q g1 g2
      rw [upd_ne (fun e => by
        have := p.d
        rw [← e, g3] at this
        cases this)]
      exact g3
  · rw [valV_put] at h h'
    split at h
    · rename_i e
      split at h'
      · rename_i e'
        obtain ⟨rfl, rfl⟩ := wkey_inj e
        obtain ⟨rfl, rfl⟩ := wkey_inj e'
        exact ⟨rfl, rfl⟩
      · exact absurd (Option.some.inj h).symm (hf _ _ _ h')
    · split at h'
      · exact absurd (Option.some.inj h').symm (hf _ _ _ h)
      · exact p.inj _ _ _ _ _ h h'
/-- a pair more in one list -/
theorem PLs.app {k : Nat} {z : List Nat} {b t : Addr} {as : List Addr} {q : NP} {f' : Nat → List Nat → List NP} (p : PLs H0 H D kvs f) (hv : valV kvs (wkey k z) = some (.ref b)) (hb : H b = some (.lst (as.map V.ref))) (hT : Tup npV H as (f k z)) (ht : H t = some (.tup (npV q)))
    (e1 : f' k z = f k z ++ [q]) (e2 : ∀ k1 z1, ¬ (k1 = k ∧ z1 = z) → f' k1 z1 = f k1 z1) : PLs H0 (upd H b (.lst ((as ++ [t]).map V.ref))) D kvs f' := by
  have hDb : D ≠ b := fun e => by
    have := p.d
    rw [e, hb] at this
    cases this
  refine ⟨p.n, (upd_ne hDb).trans p.d, fun k1 z1 h => ?_, fun k1 z1 v h => ?_, p.inj⟩
  · rw [e2 k1 z1 (fun e => by rw [e.1, e.2, hv] at h; cases h)]
    exact p.no _ _ h
  · by_cases e : k1 = k ∧ z1 = z
    · obtain ⟨rfl, rfl⟩ := e
      rw [hv] at h
      obtain rfl := Option.some.inj h
      obtain ⟨b', as', h1, h2, h3, h4⟩ := p.yes _ _ _ hv
      obtain rfl : b = b' := by cases h1; rfl
      refine ⟨b, as ++ [t], rfl, h2, upd_same, ?_⟩
      rw [e1]
      refine Tup.snoc (Tup.updL hT hb) ?_
      rw [upd_ne (ne_of ht hb (by intro x; cases x))]
      exact ht
    · obtain ⟨b', as', h1, h2, h3, h4⟩ := p.yes _ _ _ h
      have hbb : b' ≠ b := fun x => by
        rw [h1, x] at h
        exact e (p.inj _ _ _ _ _ h hv)
      refine ⟨b', as', h1, h2, (upd_ne hbb).trans h3, ?_⟩
      rw [e2 _ _ e]
      exact Tup.updL h4 hb
end
/-! ### what lies under a seed's signs -/
def selW (W : List Win) (k : Nat) (z : List Nat) : List NP := (W.filter fun w => decide (w.k = k) && decide (w.z = z)).map fun w => (w.n, w.p)
theorem selW_nil (k : Nat) (z : List Nat) : selW [] k z = [] := rfl
theorem selW_yes (W : List Win) (w : Win) : selW (W ++ [w]) w.k w.z = selW W w.k w.z ++ [(w.n, w.p)] := by
  unfold selW
  rw [List.filter_append, List.map_append]
  simp
theorem selW_no (W : List Win) (w : Win) {k : Nat} {z : List Nat} (h : ¬ (k = w.k ∧ z = w.z)) : selW (W ++ [w]) k z = selW W k z := by
  unfold selW
  rw [List.filter_append, List.map_append]
  have : ([w].filter fun w => decide (w.k = k) && decide (w.z = z)) = [] := by
    rw [List.filter_cons_of_neg, List.filter_nil]
    intro e
    rw [Bool.and_eq_true, decide_eq_true_eq, decide_eq_true_eq] at e
    exact h ⟨e.1.symm, e.2.symm⟩
  rw [this]
  simp
theorem selW_mem {W : List Win} {k : Nat} {z : List Nat} {q : NP} : q ∈ selW W k z ↔ ∃ w ∈ W, w.k = k ∧ w.z = z ∧ q = (w.n, w.p) := by
  unfold selW
  rw [List.mem_map]
  constructor
  · rintro ⟨w, hw, rfl⟩
    obtain ⟨h1, h2⟩ := List.mem_filter.mp hw
    rw [Bool.and_eq_true, decide_eq_true_eq, decide_eq_true_eq] at h2
    exact ⟨w, h1, h2.1, h2.2, rfl⟩
  · rintro ⟨w, h1, h2, h3, rfl⟩
    exact ⟨w, List.mem_filter.mpr ⟨h1, by rw [decide_eq_true h2, decide_eq_true h3]; rfl⟩, rfl⟩
theorem winsUp_iff {sds rows : List (List Nat)} {w : Win} : w ∈ winsUp sds rows ↔ ∃ sd r, sds[w.k]? = some sd ∧ rows[w.n]? = some r ∧ w.p + sd.length ≤ r.length ∧ w.z = pickW sd r w.p := by
  have e : w ∈ winsUp sds rows ↔ w ∈ wins sds rows := (List.mergeSort_perm _ _).mem_iff
  rw [e]
  unfold wins winsS winsR winsP
  rw [List.mem_flatMap]
  constructor
  · rintro ⟨k, hk, h2⟩
    obtain ⟨n, hn, h3⟩ := List.mem_flatMap.mp h2
    obtain ⟨p, hp, rfl⟩ := List.mem_map.mp h3
    have hk' := List.mem_range.mp hk
    have hn' := List.mem_range.mp hn
    have hp' := List.mem_range.mp hp
    refine ⟨sds[k], rows[n], List.getElem?_eq_getElem hk', List.getElem?_eq_getElem hn', ?_, ?_⟩
    · rw [List.getElem?_eq_getElem hk', List.getElem?_eq_getElem hn'] at hp'
      unfold plcs at hp'
      simp only [Option.getD_some] at hp'
      show p + _ ≤ _
      omega
    · show pickW (sds[k]?.getD []) (rows[n]?.getD []) p = _
      rw [List.getElem?_eq_getElem hk', List.getElem?_eq_getElem hn']
      rfl
  · rintro ⟨sd, r, h1, h2, h3, h4⟩
    refine ⟨w.k, List.mem_range.mpr (List.getElem?_eq_some_iff.mp h1).1, List.mem_flatMap.mpr ⟨w.n, List.mem_range.mpr (List.getElem?_eq_some_iff.mp h2).1, List.mem_map.mpr ⟨w.p, List.mem_range.mpr ?_, ?_⟩⟩⟩
    · rw [h1, h2]
      unfold plcs
      simp only [Option.getD_some]
      omega
    · rw [h1, h2]
      obtain ⟨k, z, n, p⟩ := w
      show Win.mk k _ n p = _
      simp only [Option.getD_some]
      congr 1
      exact h4.symm
/-- a lane on which a seed fits -/
def SdL (sds rows : List (List Nat)) (o : List Nat) (n : Nat) (d : Int) : Prop := ∃ (k p b : Nat) (sd r : List Nat), sds[k]? = some sd ∧ rows[n]? = some r ∧ p + sd.length ≤ r.length ∧ b + sd.length ≤ o.length ∧ pickW sd r p = pickW sd o b ∧ d = (p : Int) - (b : Int)
theorem SdL.rng {sds rows : List (List Nat)} {o : List Nat} {n : Nat} {d : Int} (h : SdL sds rows o n d) (hr : ∀ z ∈ rows, z.length ≤ 60) (ho : o.length ≤ 60) : n < rows.length ∧ -60 ≤ d ∧ d ≤ 60 := by
  obtain ⟨k, p, b, sd, r, h1, h2, h3, h4, h5, rfl⟩ := h
  have := hr r (List.mem_of_getElem? h2)
  exact ⟨(List.getElem?_eq_some_iff.mp h2).1, by omega, by omega⟩
end Sr
namespace Sr
open PySem PySem.Spec PyProof.Rows L2 Zs
/-! ### the set of lanes -/
def lnK (q : Nat × Int) : List Int := [(q.1 : Nat), q.2]
def lnV (q : Nat × Int) : List V := [.int (q.1 : Nat), .int q.2]
theorem lnK_inj {q r : Nat × Int} (h : lnK q = lnK r) : q = r := by
  obtain ⟨a, b⟩ := q
  obtain ⟨c, d⟩ := r
  unfold lnK at h
  simp only [List.cons.injEq, and_true] at h
  rw [h.2, show a = c by omega]
structure Zl (H : Hp) (L : Mem) (Y : List (Nat × Int)) : Prop where
  nd : (L.map (·.2)).Nodup
  mem : ∀ x, x ∈ L.map (·.2) ↔ ∃ y ∈ Y, x = lnK y
  tp : ∀ q ∈ L, H q.1 = some (.tup (q.2.map V.int))
theorem Zl.nil {H : Hp} : Zl H [] [] := ⟨List.nodup_nil, fun x => by simp, fun q h => by cases h⟩
theorem Zl.add {H H' : Hp} {L L' : Mem} {Y : List (Nat × Int)} {p : Addr} {y : Nat × Int} (h : Zl H L Y) (keep : ∀ b xs, H b = some (.tup xs) → H' b = some (.tup xs)) (hp : H' p = some (.tup ((lnK y).map V.int))) (c1 : lnK y ∈ L.map (·.2) → L' = L) (c2 : lnK y ∉ L.map (·.2) → L'.Perm ((p, lnK y) :: L)) : Zl H' L' (Y ++ [y]) := by
  have mm : ∀ x, (∃ z ∈ Y ++ [y], x = lnK z) ↔ (∃ z ∈ Y, x = lnK z) ∨ x = lnK y := fun x => by
    constructor
    · rintro ⟨z, hz, e⟩
      rcases List.mem_append.mp hz with g | g
      · exact .inl ⟨z, g, e⟩
      · rw [List.mem_singleton.mp g] at e
        exact .inr e
    · rintro (⟨z, hz, e⟩ | e)
      · exact ⟨z, List.mem_append.mpr (.inl hz), e⟩
      · exact ⟨y, by simp, e⟩
  by_cases hk : lnK y ∈ L.map (·.2)
  · rw [c1 hk]
    refine ⟨h.nd, fun x => ?_, fun q hq => keep _ _ (h.tp q hq)⟩
    rw [mm, h.mem]
    constructor
    · exact .inl
    · rintro (g | g)
      · exact g
      · rw [g]; exact (h.mem _).mp hk
  · have pm := c2 hk
    have pk : (L'.map (·.2)).Perm (lnK y :: L.map (·.2)) := pm.map (·.2)
    refine ⟨pk.nodup_iff.mpr (List.nodup_cons.mpr ⟨hk, h.nd⟩), fun x => ?_, fun q hq => ?_⟩
    · rw [mm, pk.mem_iff, List.mem_cons, h.mem]
      exact or_comm
    · rcases List.mem_cons.mp (pm.mem_iff.mp hq) with e | e
      · rw [e]; exact hp
      · exact keep _ _ (h.tp q e)
theorem Zl.keep {H H' : Hp} {L : Mem} {Y : List (Nat × Int)} (h : Zl H L Y) (keep : ∀ b xs, H b = some (.tup xs) → H' b = some (.tup xs)) : Zl H' L Y := ⟨h.nd, h.mem, fun q hq => keep _ _ (h.tp q hq)⟩
theorem Zl.num {H : Hp} {L : Mem} {Y : List (Nat × Int)} (h : Zl H L Y) (r : ∀ y ∈ Y, y.1 < 8 ∧ -60 ≤ y.2 ∧ y.2 ≤ 60) : L.length ≤ 968 := by
  let cd : List Int → Nat := fun x => (x[0]?.getD 0).toNat * 121 + ((x[1]?.getD 0) + 60).toNat
  have nod : ((L.map (·.2)).map cd).Nodup := by
    refine List.pairwise_map.mpr (List.Pairwise.imp_of_mem (fun {x x'} hx hx' ne e => ne ?_) h.nd)
    obtain ⟨⟨a, b⟩, hy, rfl⟩ := (h.mem x).mp hx
    obtain ⟨⟨a', b'⟩, hy', rfl⟩ := (h.mem x').mp hx'
    have r1 := r _ hy
    have r2 := r _ hy'
    have e' : (a : Int).toNat * 121 + (b + 60).toNat = (a' : Int).toNat * 121 + (b' + 60).toNat := e
    dsimp only at r1 r2
    rw [show a = a' by omega, show b = b' by omega]
  have le := nat_nodup_len ((L.map (·.2)).map cd) (List.range 968) nod fun v hv => by
    obtain ⟨x, hx, rfl⟩ := List.mem_map.mp hv
    obtain ⟨⟨a, b⟩, hy, rfl⟩ := (h.mem x).mp hx
    have r1 := r _ hy
    dsimp only at r1
    have e' : cd (lnK (a, b)) = (a : Int).toNat * 121 + (b + 60).toNat := rfl
    rw [e', List.mem_range]
    omega
  rw [List.length_map, List.length_map, List.length_range] at le
  exact le
def LnLt (x y : Nat × Int) : Prop := x.1 < y.1 ∨ (x.1 = y.1 ∧ x.2 < y.2)
theorem map_of_all {α β : Type} {f : α → β} : ∀ {l : List β}, (∀ x ∈ l, ∃ y, x = f y) → ∃ l' : List α, l = l'.map f
  | [], _ => ⟨[], rfl⟩
  | x :: l, h => by
    obtain ⟨y, rfl⟩ := h x List.mem_cons_self
    obtain ⟨l', e⟩ := map_of_all (l := l) fun z hz => h z (List.mem_cons_of_mem _ hz)
    exact ⟨y :: l', by rw [e]; rfl⟩
/-- what sorted gives of them -/
theorem Zl.up {H : Hp} {L M : Mem} {Y : List (Nat × Int)} (h : Zl H L Y) (pm : M.Perm L) : ∃ LN : List (Nat × Int), Tup lnV H ((M.mergeSort (PySem.W.dataLe false fun q => intsD q.2)).map (·.1)) LN ∧ LN.Pairwise LnLt ∧ ∀ y, y ∈ LN ↔ y ∈ Y := by
  have el : (PySem.W.dataLe false fun q : Addr × List Int => intsD q.2) = fun p q => !decide (q.2 < p.2) := dataLe_ints (fun q : Addr × List Int => q.2)
  have pw := List.pairwise_mergeSort (dataLe_trans fun q : Addr × List Int => intsD q.2) (dataLe_total fun q : Addr × List Int => intsD q.2) M
  have pN : (M.mergeSort (PySem.W.dataLe false fun q : Addr × List Int => intsD q.2)).Perm L := (List.mergeSort_perm _ _).trans pm
  generalize M.mergeSort (PySem.W.dataLe false fun q : Addr × List Int => intsD q.2) = N at pw pN
  rw [el] at pw
  have pk : (N.map (·.2)).Perm (L.map (·.2)) := pN.map (·.2)
  have nd : (N.map (·.2)).Nodup := pk.nodup_iff.mpr h.nd
  have mem : ∀ x, x ∈ N.map (·.2) ↔ ∃ y ∈ Y, x = lnK y := fun x => by rw [pk.mem_iff, h.mem]
  obtain ⟨LN, eL⟩ := map_of_all (f := lnK) (l := N.map (·.2)) fun x hx => by
    obtain ⟨y, _, e⟩ := (mem x).mp hx
    exact ⟨y, e⟩
  have pw2 : (N.map (·.2)).Pairwise (fun x y => ¬ y < x) := by
    rw [List.pairwise_map]
    refine pw.imp fun {p q} e => ?_
    intro e'
    have e : (!decide (q.2 < p.2)) = true := e
    rw [decide_eq_true e'] at e
    cases e
  refine ⟨LN, ⟨?_, fun j a y h1 h2 => ?_⟩, ?_, fun y => ?_⟩
  · have := congrArg List.length eL
    rw [List.length_map, List.length_map] at this
    rw [List.length_map]
    exact this
  · rw [List.getElem?_map] at h1
    cases e : N[j]? with
    | none => rw [e] at h1; cases h1
    | some q =>
      rw [e] at h1
      obtain rfl : q.1 = a := Option.some.inj h1
      have e2 : (N.map (·.2))[j]? = some q.2 := by rw [List.getElem?_map, e]; rfl
      rw [eL, List.getElem?_map, h2] at e2
      have e3 : lnK y = q.2 := Option.some.inj e2
      have := h.tp q (pN.mem_iff.mp (List.mem_of_getElem? e))
      rw [← e3] at this
      exact this
  · rw [eL] at nd pw2
    have nd2 : LN.Pairwise (fun x y => lnK x ≠ lnK y) := List.pairwise_map.mp nd
    refine (List.Pairwise.and nd2 (List.pairwise_map.mp pw2)).imp fun {x y} e => ?_
    obtain ⟨e1, e2⟩ := e
    obtain ⟨a, b⟩ := x
    obtain ⟨c, d⟩ := y
    unfold lnK at e1 e2
    rw [List.cons_lt_cons_iff, List.cons_lt_cons_iff] at e2
    show a < c ∨ (a = c ∧ b < d)
    by_cases h1 : a < c
    · exact .inl h1
    · right
      have h2 : a = c := by
        by_cases h3 : c < a
        · exact absurd (.inl (by show ((c : Nat) : Int) < ((a : Nat) : Int); omega)) e2
        · omega
      subst h2
      refine ⟨rfl, ?_⟩
      by_cases h3 : d < b
      · exact absurd (.inr ⟨rfl, .inl h3⟩) e2
      · have h4 : b ≠ d := fun e => e1 (by rw [e])
        omega
  · constructor
    · intro hy
      have : lnK y ∈ N.map (·.2) := by rw [eL]; exact List.mem_map.mpr ⟨y, hy, rfl⟩
      obtain ⟨y', hy', e⟩ := (mem _).mp this
      rw [lnK_inj e]
      exact hy'
    · intro hy
      have : lnK y ∈ N.map (·.2) := (mem _).mpr ⟨y, hy, rfl⟩
      rw [eL] at this
      obtain ⟨y', hy', e⟩ := List.mem_map.mp this
      rw [← lnK_inj e]
      exact hy'
end Sr
namespace Sr
open PySem PySem.Spec PyProof.Rows L2 Zs
/-- .. and the pair laid -/
theorem PLs.more {H0 H : Hp} {D b t : Addr} {as : List Addr} {kvs : List (List Key × V)} {W : List Win} {w : Win} (p : PLs H0 H D kvs (selW W)) (sm : Same H0 H) (hv : valV kvs (wkey w.k w.z) = some (.ref b)) (hb : H b = some (.lst (as.map V.ref))) (hT : Tup npV H as (selW W w.k w.z)) (ht : H t = none) :
    Same H0 (upd (upd H t (.tup (npV (w.n, w.p)))) b (.lst ((as ++ [t]).map V.ref))) ∧ PLs H0 (upd (upd H t (.tup (npV (w.n, w.p)))) b (.lst ((as ++ [t]).map V.ref))) D kvs (selW (W ++ [w])) := by
  have s1 : Same H (upd H t (.tup (npV (w.n, w.p)))) := same_upd ht
  obtain ⟨b', as', e, h0, _, _⟩ := p.yes _ _ _ hv
  obtain rfl : b = b' := by cases e; rfl
  refine ⟨(sm.trans s1).putN h0, (p.same s1).app hv (s1 _ _ hb) (hT.same s1) upd_same (selW_yes W w) fun k1 z1 h => selW_no W w h⟩
theorem nmem_pl {H0 H : Hp} {D E : Addr} {kvs : List (List Key × V)} {f : Nat → List Nat → List NP} (p : PLs H0 H D kvs f) (hE : H E = none) : ∀ k z v, valV kvs (wkey k z) = some v → v ≠ .ref E := fun k z v h e => by
  obtain ⟨b, as, h1, _, h3, _⟩ := p.yes k z v h
  rw [h1] at e
  cases e
  rw [hE] at h3
  cases h3
end Sr
namespace L2
open PySem PySem.Spec PyProof.Rows Zs
theorem x_zadd {K : PySem.W.Frag} {P : Program} {w : World} {to : TE} {t : TA} {σ : L2.St} {H : Hp} {Q : VK} (q : to σ H fun x H1 => (∃ a L, x = V.ref a ∧ H1 a = some (ZO P w a L) ∧ ∀ q ∈ L, SqT K H1 q.1 (q.2.map V.int)) ∧ t σ H1 fun vs H2 => rZAdd K P w x vs H2 Q) : tZAdd K P w to t σ H Q := q
end L2
namespace Sr
open PySem PySem.Spec PyProof.Rows L2 Zs
theorem same_none {H H' : Hp} {b : Addr} (sm : Same H H') (h : H' b = none) : H b = none := by
  cases e : H b with
  | none => rfl
  | some o => rw [sm b o e] at h; cases h
theorem erase {H0 H1 H2 : Hp} {D : Addr} {o : HO} (hD : H0 D = none) (e1 : H1 = upd H0 D o) (sm : Same H1 H2) : ∃ Hb : Hp, Hb D = none ∧ Same H0 Hb ∧ Same Hb H2 ∧ ∀ b o, b ≠ D → H2 b = some o → Hb b = some o := by
  refine ⟨fun b => if b = D then none else H2 b, if_pos rfl, fun b o' e => ?_, fun b o' e => ?_, fun b o' nb e => ?_⟩
  · have nb : b ≠ D := fun z => by rw [z, hD] at e; cases e
    show (if b = D then none else H2 b) = _
    rw [if_neg nb]
    refine sm _ _ ?_
    rw [e1, upd_ne nb]
    exact e
  · have e : (if b = D then none else H2 b) = some o' := e
    split at e
    · cases e
    · exact e
  · show (if b = D then none else H2 b) = _
    rw [if_neg nb]
    exact e
def lnA (W : List Win) (ws : List W3) : List (Nat × Int) := ws.flatMap fun q => (selW W q.1 q.2.1).map fun r => (r.1, (r.2 : Int) - (q.2.2 : Nat))
theorem wo_iff {sds : List (List Nat)} {o : List Nat} {q : W3} : q ∈ wo o sds sds.length ↔ ∃ sd, sds[q.1]? = some sd ∧ q.2.2 + sd.length ≤ o.length ∧ q.2.1 = pickW sd o q.2.2 := by
  unfold wo woK
  rw [List.mem_flatMap]
  constructor
  · rintro ⟨k, hk, h2⟩
    obtain ⟨p, hp, rfl⟩ := List.mem_map.mp h2
    have hk' := List.mem_range.mp hk
    have hp' := List.mem_range.mp hp
    refine ⟨sds[k], List.getElem?_eq_getElem hk', ?_, ?_⟩
    · rw [List.getElem?_eq_getElem hk'] at hp'
      unfold plcs at hp'
      simp only [Option.getD_some] at hp'
      show p + _ ≤ _
      omega
    · show pickW (sds[k]?.getD []) o p = _
      rw [List.getElem?_eq_getElem hk']
      rfl
  · rintro ⟨sd, h1, h3, h4⟩
    refine ⟨q.1, List.mem_range.mpr (List.getElem?_eq_some_iff.mp h1).1, List.mem_map.mpr ⟨q.2.2, List.mem_range.mpr ?_, ?_⟩⟩
    · rw [h1]
      unfold plcs
      simp only [Option.getD_some]
      omega
    · rw [h1]
      obtain ⟨k, z, p⟩ := q
      show ((k, _, p) : W3) = _
      simp only [Option.getD_some]
      rw [← h4]
theorem lnA_iff {sds rows : List (List Nat)} {o : List Nat} (n : Nat) (d : Int) : (n, d) ∈ lnA (winsUp sds rows) (wo o sds sds.length) ↔ SdL sds rows o n d := by
  unfold lnA SdL
  rw [List.mem_flatMap]
  constructor
  · rintro ⟨q, hq, h⟩
    obtain ⟨r, hr, e⟩ := List.mem_map.mp h
    obtain ⟨w, hw, h1, h2, rfl⟩ := selW_mem.mp hr
    obtain ⟨sd, row, g1, g2, g3, g4⟩ := winsUp_iff.mp hw
    obtain ⟨sd', f1, f2, f3⟩ := wo_iff.mp hq
    rw [← h1, g1] at f1
    obtain rfl := Option.some.inj f1
    have e1 : w.n = n := congrArg Prod.fst e
    have e2 : (w.p : Int) - (q.2.2 : Nat) = d := congrArg Prod.snd e
    exact ⟨w.k, w.p, q.2.2, sd, row, g1, by rw [← e1]; exact g2, g3, f2, by rw [← g4, h2, f3], e2.symm⟩
  · rintro ⟨k, p, b, sd, r, h1, h2, h3, h4, h5, rfl⟩
    exact ⟨(k, pickW sd o b, b), wo_iff.mpr ⟨sd, h1, h4, rfl⟩, List.mem_map.mpr ⟨(n, p), selW_mem.mpr ⟨⟨k, pickW sd o b, n, p⟩, winsUp_iff.mpr ⟨sd, r, h1, h2, h3, h5.symm⟩, rfl, rfl, rfl⟩, rfl⟩⟩
end Sr

namespace Sr
open PySem PySem.Spec PyProof.Rows L2 Zs
/-! ### where a stretch is worth more than the bar a seed fits -/
theorem fm_congr {α β : Type} {f g : α → Option β} : ∀ {l : List α}, (∀ x ∈ l, f x = g x) → l.filterMap f = l.filterMap g
  | [], _ => rfl
  | x :: l, h => by
    rw [List.filterMap_cons, List.filterMap_cons, h x List.mem_cons_self, fm_congr fun y hy => h y (List.mem_cons_of_mem _ hy)]
theorem pick_same {sd r o : List Nat} {p b : Nat} (h : ∀ i, i < sd.length → sd[i]? = some 35 → r[p + i]? = o[b + i]?) : pickW sd r p = pickW sd o b := by
  unfold pickW pickN
  refine fm_congr fun i hi => ?_
  have hi' := List.mem_range.mp hi
  by_cases e : sd[i]? = some 35
  · rw [if_pos e, if_pos e, h i hi' e]
  · rw [if_neg e, if_neg e]
theorem seeded_lane {sds rows : List (List Nat)} {g l told w : Int} {z o r : List Nat} {d : Int} {n : Nat} (h1 : Ones sds) (bar : IsBar sds g l w z) (hw : w < told) (hn : rows[n]? = some r) {q : Tri} (hq : q ∈ rchL g l told o r d) : SdL sds rows o n d := by
  obtain ⟨b, e, rfl, hbe, hel, ht⟩ := rchL_in hq
  have hc := wor_cut g l (likL o r d) (Nat.le_of_lt hbe)
  generalize hx : ((likL o r d).drop b).take (e - b) = x at hc
  have xl : x.length = e - b := by
    rw [← hx, List.length_take, List.length_drop]
    omega
  have xg : ∀ i, i < e - b → x[i]? = (likL o r d)[b + i]? := fun i hi => by
    rw [← hx, List.getElem?_take, if_pos hi, List.getElem?_drop]
  have hlk : Lk x := fun c hm => likL_Lk o r d c (by
    rw [← hx] at hm
    exact List.mem_of_mem_drop (List.mem_of_mem_take hm))
  have hnf : ¬ Free sds x := fun hf => by
    have := bar.max x hlk hf
    omega
  rw [free_iff h1] at hnf
  simp only [Classical.not_forall, not_exists] at hnf
  obtain ⟨sd, hsd, p, hp, hno⟩ := hnf
  obtain ⟨k, hk⟩ := List.mem_iff_getElem?.mp hsd
  have s1 := h1 sd hsd
  have hlen := likL_len o r d
  have e1 : sd.length ≤ e - b := by omega
  have hB : bgn d + (b + p) + sd.length ≤ o.length ∧ 0 ≤ ((bgn d + (b + p) : Nat) : Int) + d ∧ ((bgn d + (b + p) : Nat) : Int) + d + sd.length ≤ r.length := by
    unfold lkn bgn at hlen
    unfold bgn
    omega
  refine ⟨k, (((bgn d + (b + p) : Nat) : Int) + d).toNat, bgn d + (b + p), sd, r, hk, hn, by omega, by omega, pick_same fun i hi e35 => ?_, by omega⟩
  have hn47 := hno i
  have hil : b + (p + i) < (likL o r d).length := by omega
  have hc2 : x[p + i]? = some (lk1 o r d (bgn d + (b + (p + i)))) := by
    rw [xg (p + i) (by omega), likL_eq, List.getElem?_map, List.getElem?_range (by rw [← likL_len]; exact hil)]
    rfl
  have h47 : lk1 o r d (bgn d + (b + (p + i))) ≠ 47 := fun e => hn47 ⟨hi, e35, by rw [hc2, e]⟩
  unfold lk1 at h47
  split at h47
  · rename_i eq
    have a1 : (((bgn d + (b + p) : Nat) : Int) + d).toNat + i = (((bgn d + (b + (p + i)) : Nat) : Int) + d).toNat := by omega
    have a2 : bgn d + (b + p) + i = bgn d + (b + (p + i)) := by omega
    rw [a1, a2, eq]
  · exact absurd rfl h47
/-! ### what a search tells -/
abbrev Fnd := Nat × Tri × Int
def FLt (x y : Fnd) : Prop := x.1 < y.1 ∨ (x.1 = y.1 ∧ TLt x.2.1 y.2.1)
theorem FLt.asym : ∀ x y : Fnd, FLt x y → ¬ FLt y x := fun x y h h' => by
  unfold FLt TLt at h h'
  omega
theorem FLt.up {x y : Fnd} (h : FLt x y) : (!decide (fndI y < fndI x)) = true := by
  rw [Bool.not_eq_true', decide_eq_false_iff_not]
  intro e
  unfold fndI at e
  rw [List.cons_lt_cons_iff, List.cons_lt_cons_iff, List.cons_lt_cons_iff] at e
  unfold FLt TLt at h
  omega
theorem dueR_up {g l told : Int} {o r : List Nat} {n : Nat} {M : List Tri} (h : M.Pairwise TLt) : (dueR g l told o n r M).Pairwise FLt := by
  unfold dueR
  rw [List.pairwise_map]
  exact h.imp fun {x y} e => .inr ⟨rfl, e⟩
theorem dueR_fst {g l told : Int} {o r : List Nat} {n : Nat} {M : List Tri} {x : Fnd} (h : x ∈ dueR g l told o n r M) : x.1 = n := by
  unfold dueR at h
  obtain ⟨p, _, rfl⟩ := List.mem_map.mp h
  rfl
theorem dueM_up (g l told : Int) (o : List Nat) (rows : List (List Nat)) (m : Nat) : (dueM g l told o rows m).Pairwise FLt := by
  unfold dueM
  rw [List.pairwise_flatMap]
  refine ⟨fun n _ => dueR_up (by unfold rchA; exact (rchN_lt g l told o _ _ _).1), List.pairwise_lt_range.imp fun {a b} hab x hx y hy => .inl ?_⟩
  rw [dueR_fst hx, dueR_fst hy]
  exact hab
theorem dueUp_eq (g l told : Int) (o : List Nat) (rows : List (List Nat)) : dueUp g l told o rows = dueM g l told o rows rows.length := by
  unfold dueUp
  exact List.mergeSort_of_pairwise ((dueM_up g l told o rows rows.length).imp fun {x y} h => h.up)
noncomputable def flL (g l told : Int) (o : List Nat) (rows : List (List Nat)) (LN : List (Nat × Int)) : List Fnd := LN.flatMap fun q => (lrL g l told o (rows[q.1]?.getD []) q.2).map fun t => (q.1, (q.2, t.1, t.2.1), t.2.2)
theorem lr_due (g l told : Int) (o r : List Nat) (n : Nat) (d : Int) : ((lrL g l told o r d).map fun t => ((n, (d, t.1, t.2.1), t.2.2) : Fnd)) = dueR g l told o n r (rchL g l told o r d) := by
  unfold lrL lrP dueR rchL
  rw [List.map_map, List.map_map]
  refine List.map_congr_left fun p _ => ?_
  show (n, (d, _, _), _) = (n, (d, _, _), fndW g l o r (d, ((bgn d + p.1 : Nat) : Int), ((bgn d + p.2 : Nat) : Int)))
  rw [fndW_eq]
theorem flL_due {sds rows : List (List Nat)} {g l told w : Int} {z o : List Nat} {LN : List (Nat × Int)} (h1 : Ones sds) (bar : IsBar sds g l w z) (hw : w < told) (hup : LN.Pairwise LnLt) (hin : ∀ n d, (n, d) ∈ LN ↔ SdL sds rows o n d) : flL g l told o rows LN = dueUp g l told o rows := by
  rw [dueUp_eq]
  have e : flL g l told o rows LN = LN.flatMap fun q => dueR g l told o q.1 (rows[q.1]?.getD []) (rchL g l told o (rows[q.1]?.getD []) q.2) := by
    unfold flL
    congr 1
    funext q
    exact lr_due _ _ _ _ _ _ _
  rw [e]
  refine same_up FLt.asym ?_ (dueM_up g l told o rows rows.length) fun x => ?_
  · rw [List.pairwise_flatMap]
    refine ⟨fun q _ => dueR_up (rchL_lt g l told o _ _), hup.imp fun {a b} hab x hx y hy => ?_⟩
    unfold dueR at hx hy
    obtain ⟨p, hp, rfl⟩ := List.mem_map.mp hx
    obtain ⟨p', hp', rfl⟩ := List.mem_map.mp hy
    have d1 := rchL_mem hp
    have d2 := rchL_mem hp'
    rcases hab with h | ⟨h, h'⟩
    · exact .inl h
    · exact .inr ⟨h, .inl (by show p.1 < p'.1; rw [d1, d2]; exact h')⟩
  · unfold dueM dueR
    rw [List.mem_flatMap, List.mem_flatMap]
    constructor
    · rintro ⟨q, hq, hx⟩
      obtain ⟨p, hp, rfl⟩ := List.mem_map.mp hx
      obtain ⟨k, pp, b, sd, r, _, g2, _, _, _, _⟩ := (hin q.1 q.2).mp hq
      refine ⟨q.1, List.mem_range.mpr (List.getElem?_eq_some_iff.mp g2).1, List.mem_map.mpr ⟨p, ?_, rfl⟩⟩
      generalize rows[q.1]?.getD [] = row at hp ⊢
      unfold rchA
      obtain ⟨b', e', _, h2, h3, _⟩ := rchL_in hp
      have hl := likL_len o row q.2
      refine rchN_mem.mpr ⟨(q.2 - (1 - (o.length : Int))).toNat, ?_, ?_⟩
      · unfold lkn bgn at hl
        unfold nsh
        omega
      · have e5 : 1 - (o.length : Int) + (((q.2 - (1 - (o.length : Int))).toNat : Nat) : Int) = q.2 := by
          unfold lkn bgn at hl
          omega
        rw [e5]
        exact hp
    · rintro ⟨n, hn, hx⟩
      obtain ⟨p, hp, rfl⟩ := List.mem_map.mp hx
      have hn' := List.mem_range.mp hn
      have en : rows[n]? = some rows[n] := List.getElem?_eq_getElem hn'
      unfold rchA at hp
      obtain ⟨k, _, hp2⟩ := rchN_mem.mp hp
      refine ⟨(n, 1 - (o.length : Int) + (k : Int)), (hin _ _).mpr ?_, List.mem_map.mpr ⟨p, hp2, rfl⟩⟩
      rw [en] at hp2
      exact seeded_lane h1 bar hw en hp2
theorem flL_len {g l told : Int} {o : List Nat} {rows : List (List Nat)} (ho : o.length ≤ 60) : ∀ LN : List (Nat × Int), (flL g l told o rows LN).length ≤ 60 * LN.length
  | [] => Nat.le_refl _
  | q :: LN => by
    have h := flL_len (g := g) (l := l) (told := told) (rows := rows) ho LN
    unfold flL at h ⊢
    rw [List.flatMap_cons, List.length_append, List.length_map, List.length_cons]
    have := lrL_len g l told o (rows[q.1]?.getD []) q.2
    omega
theorem LN_len {sds rows : List (List Nat)} {o : List Nat} {LN : List (Nat × Int)} (hup : LN.Pairwise LnLt) (hin : ∀ n d, (n, d) ∈ LN ↔ SdL sds rows o n d) (hr : ∀ z ∈ rows, z.length ≤ 60) (ho : o.length ≤ 60) (hn : rows.length ≤ 8) : LN.length ≤ 968 := by
  let cd : Nat × Int → Nat := fun x => x.1 * 121 + (x.2 + 60).toNat
  have rg : ∀ x ∈ LN, x.1 < 8 ∧ -60 ≤ x.2 ∧ x.2 ≤ 60 := fun x hx => by
    have := ((hin x.1 x.2).mp hx).rng hr ho
    exact ⟨by omega, this.2⟩
  have nod : (LN.map cd).Nodup := by
    refine List.pairwise_map.mpr (List.Pairwise.imp_of_mem (fun {x y} hx hy h => ?_) hup)
    have r1 := rg x hx
    have r2 := rg y hy
    show x.1 * 121 + (x.2 + 60).toNat ≠ y.1 * 121 + (y.2 + 60).toNat
    unfold LnLt at h
    omega
  have le := nat_nodup_len (LN.map cd) (List.range 968) nod fun v hv => by
    obtain ⟨x, hx, rfl⟩ := List.mem_map.mp hv
    have r1 := rg x hx
    show x.1 * 121 + (x.2 + 60).toNat ∈ _
    rw [List.mem_range]
    omega
  rw [List.length_map, List.length_range] at le
  exact le
end Sr

namespace Zs
open PySem PySem.Spec PyProof.Rows L2
/-! ### the set of a text's signs -/
abbrev TxM := List (Str × Tok)
def txR (w : World) (q : Str × Tok) : Int × Value := (hashStr w q.1, .str q.1 q.2)
def Ztx (w : World) (h : Heap) (a : Addr) (L : TxM) : Prop := ∃ o es ep t, h.get? a = some o ∧ o.ExactSet ∧ o.data = .set es ep t ∧ es.toList = L.map (txR w) ∧ (L.map (·.1)).Nodup ∧ t.fits es.size = true ∧ Ris t.place.toList ∧ (w.params.followText "set-order" = true ∨ t.led = true)
section
variable {P : Program} {w : World} {A : Around} {E : Value → Shared → Prop} {s : Shared} {a : Addr} {L : TxM} {z : Str} {u : Tok}
theorem tx_elems (L : TxM) : ElemsOf (PySem.strKind P w) (L.map (txR w)) := fun e he => by
  obtain ⟨q, _, rfl⟩ := List.mem_map.mp he
  exact ⟨⟨q.1, Froz.is_str q.1 q.2, rfl⟩, rfl⟩
theorem tx_num {L : TxM} {es : Array (Int × Value)} (h : es.toList = L.map (txR w)) : es.size = L.length := by
  have e := congrArg List.length h
  simpa using e
theorem Ztx.keep {h h' : Heap} (Z : Ztx w h a L) (k : ∀ o, h.get? a = some o → h'.get? a = some o) : Ztx w h' a L := by
  obtain ⟨o, es, ep, t, h1, r⟩ := Z
  exact ⟨o, es, ep, t, k o h1, r⟩
theorem Ztx.add (Z : Ztx w s.heap a L) (hmany : L.length < 4000) {Q : Bool → Shared → Prop} (fin : ∀ b h' L', Heap.SameBut a s.heap h' → Ztx w h' a L' → (z ∈ L.map (·.1) → L' = L) → (z ∉ L.map (·.1) → L'.Perm ((z, u) :: L)) → Q b { s with heap := h' }) :
    wpAny (model P w) A (setAddHashed a (.str z u) (hashStr w z)) Q E s := by
  obtain ⟨o, es, ep, t, hget, hex, hdat, hrs, hnod, hfit, hris, hled⟩ := id Z
  have en := tx_num hrs
  have hel : ElemsOf (PySem.strKind P w) es.toList := by rw [hrs]; exact tx_elems L
  have few : es.size < scanBound := by unfold scanBound; omega
  have isz : (PySem.strKind P w).is z (.str z u) = true := Froz.is_str z u
  have gw : ∀ (b : Bool) {s1 : Shared} {Q' : Unit → Shared → Prop}, Q' () s1 → wpAny (model P w) A (match b with | true => rule "set.scan.the-table-gave-way" | false => pure ()) Q' E s1 := fun b _ _ h => by
    cases b
    · exact wpAny_pure h
    · exact wpAny_rule h
  unfold setAddHashed setAddHashedIn
  refine wpAny_holding (wpAny_bind (wpAny_setState_of hget hdat hfit ?_))
  dsimp only
  rw [byScan_of (knd := PySem.strKind P w) rfl few hel]
  simp only [↓reduceIte]
  unfold setAddByScan
  refine wpAny_bind (wpAny_bind (wpAny_rule (wpAny_bind (wpAny_setScan_of (knd := PySem.strKind P w) isz hget hdat hfit hel ?_))))
  cases hfi : List.findIdx? (fun e => (PySem.strKind P w).is z e.2) es.toList with
  | some j =>
    dsimp only
    obtain ⟨hj, hz, _⟩ := List.findIdx?_eq_some_iff_getElem.mp hfi
    have hm : z ∈ L.map (·.1) := by
      have h1 : es.toList[j] ∈ L.map (txR w) := by rw [← hrs]; exact List.getElem_mem hj
      obtain ⟨q, hq, e⟩ := List.mem_map.mp h1
      rw [← e] at hz
      have e2 := (PySem.strKind P w).inj (.str q.1 q.2) z q.1 hz (Froz.is_str q.1 q.2)
      exact List.mem_map.mpr ⟨q, hq, e2.symm⟩
    exact wpAny_pure (wpAny_pure (fin false s.heap L (Heap.SameBut.refl a s.heap) Z (fun _ => rfl) fun n => absurd hm n))
  | none =>
    dsimp only
    have hm : z ∉ L.map (·.1) := fun h => by
      obtain ⟨q, hq, e⟩ := List.mem_map.mp h
      have h1 := List.findIdx?_eq_none_iff.mp hfi (txR w q) (by rw [hrs]; exact List.mem_map.mpr ⟨q, hq, rfl⟩)
      have h2 : (PySem.strKind P w).is z (.str q.1 q.2) = true := by rw [← e]; exact Froz.is_str q.1 q.2
      have h3 : (PySem.strKind P w).is z (txR w q).2 = true := h2
      rw [h3] at h1
      cases h1
    have pm := layNew_perm t es (hashStr w z) (.str z u)
    have ft := layNew_fits t es (hashStr w z) (.str z u)
    have rs := layNew_ris t es (hashStr w z) (.str z u) hris
    have ld := layNew_led t es (hashStr w z) (.str z u)
    generalize layNew t es (hashStr w z) (.str z u) = N at pm ft rs ld ⊢
    obtain ⟨es1, t1, wd, gv⟩ := N
    dsimp only at pm ft rs ld ⊢
    have pm2 : es1.toList.Perm (((z, u) :: L).map (txR w)) := by
      rw [Array.toList_push, hrs] at pm
      exact pm.trans (List.perm_append_singleton _ _)
    obtain ⟨L1, e1, pL1⟩ := perm_map pm2 rfl
    have n1 : L1.length = L.length + 1 := pL1.length_eq
    have en1 := tx_num e1
    have few1 : es1.size < scanBound := by unfold scanBound; omega
    have nod1 : (L1.map (·.1)).Nodup := (pL1.map (·.1)).nodup_iff.mpr (List.nodup_cons.mpr ⟨hm, hnod⟩)
    have hled1 : w.params.followText "set-order" = true ∨ t1.led = true := hled.imp id fun h => by rw [ld]; exact h
    have fin' : ∀ h' L', Heap.SameBut a s.heap h' → Ztx w h' a L' → L'.Perm L1 → Q true { s with heap := h' } := fun h' L' sb Z' p => fin true h' L' sb Z' (fun h => absurd h hm) fun _ => p.trans pL1
    -- behind the laying
    have tail : ∀ t2 : SetTable, t2.fits es1.size = true → Ris t2.place.toList → (w.params.followText "set-order" = true ∨ t2.led = true) → ∀ g : Bool → Sem Unit, (∀ (b : Bool) (s1 : Shared) (Q' : Unit → Shared → Prop), Q' () s1 → wpAny (model P w) A (g b) Q' E s1) →
        wpAny (model P w) A (do
          storeSet a es1 t2
          if (!wd && t2.tooFull) = true then do
              g (relayAll t2 es1 (SetTable.grown es1.size)).2.2
              storeSet a (relayAll t2 es1 (SetTable.grown es1.size)).1 (relayAll t2 es1 (SetTable.grown es1.size)).2.1
              pure (some true)
            else pure (some true)) (fun r s' => r = some true ∧ Q true s') E s := by
      intro t2 f2 r2 l2 g hg
      have sb1 : Heap.SameBut a s.heap (s.heap.update a (Obj.putSet es1 t2)) := Heap.SameBut.update s.heap a _
      have get1 := store_at (es' := es1) (t' := t2) hget hdat
      refine wpAny_bind (wpAny_storeSet_of hget hdat ?_ (fits_of_scanBound few1))
      by_cases c : (!wd && t2.tooFull) = true
      · rw [if_pos c]
        have rp := relayAll_perm t2 es1 (SetTable.grown es1.size)
        have rf := relayAll_fits t2 es1 (SetTable.grown es1.size)
        have rr := relayAll_ris t2 es1 (SetTable.grown es1.size)
        have rl := relayAll_led t2 es1 (SetTable.grown es1.size)
        generalize relayAll t2 es1 (SetTable.grown es1.size) = N at rp rf rr rl ⊢
        obtain ⟨es2, t3, gv3⟩ := N
        dsimp only at rp rf rr rl ⊢
        rw [e1] at rp
        obtain ⟨L2, e2, pL2⟩ := perm_map rp rfl
        have en2 := tx_num e2
        have few2 : es2.size < scanBound := by rw [en2, pL2.length_eq, ← en1]; exact few1
        refine wpAny_bind (hg _ _ _ (wpAny_bind (wpAny_storeSet_of get1 rfl ?_ (fits_of_scanBound few2))))
        have get2 := store_at (es' := es2) (t' := t3) get1 rfl
        exact wpAny_pure ⟨rfl, fin' _ L2 (sb1.trans (Heap.SameBut.update _ a _)) ⟨_, es2, _, t3, get2, ⟨hex.1, hex.2.1, hex.2.2⟩, rfl, e2, (pL2.map (·.1)).nodup_iff.mpr nod1, rf, rr, l2.imp id fun h => by rw [rl]; exact h⟩ pL2⟩
      · rw [if_neg c]
        exact wpAny_pure ⟨rfl, fin' _ L1 sb1 ⟨_, es1, _, t2, get1, ⟨hex.1, hex.2.1, hex.2.2⟩, rfl, e1, nod1, f2, r2, l2⟩ (.refl _)⟩
    have up : ∀ {M : Sem (Option Bool)}, wpAny (model P w) A M (fun r s' => r = some true ∧ Q true s') E s → wpAny (model P w) A M (fun r s' => wpAny (model P w) A (match r with | some added => pure added | none => setAddHashedIn a (.str z u) (hashStr w z) 99999) Q E s') E s := fun {M} h =>
      wpAny_mono h (fun r s' ⟨er, q⟩ => by subst er; exact wpAny_pure q) fun _ _ e => e
    refine wpAny_bind (gw _ ?_)
    by_cases hp : t1.plain = true
    · rw [if_pos hp]
      refine wpAny_bind ?_
      rw [hashByValue_scannable 8 (x := Value.str z u) rfl]
      refine wpAny_pure ?_
      refine up (tail { t1 with plain := false } (SetTable.fits_plain_off ft) rs hled1 _ ?_)
      intro b s1 Q' h
      cases b
      · exact wpAny_pure h
      · exact wpAny_rule h
    · rw [if_neg hp]
      refine wpAny_bind (wpAny_pure ?_)
      simp only [↓reduceIte]
      refine up (tail t1 ft rs hled1 _ ?_)
      intro b s1 Q' h
      cases b
      · exact wpAny_pure h
      · exact wpAny_rule h
end
end Zs
namespace Zs
open PySem PySem.Spec PyProof.Rows L2
theorem str_no_set : isSubtype (.type "str") (.type "set") = pure false := by
  rw [isSubtype_type]
  kernel_rfl
theorem str_no_frozen : isSubtype (.type "str") (.type "frozenset") = pure false := by
  rw [isSubtype_type]
  kernel_rfl
/-- a set as it is made -/
abbrev newS (w : World) : Obj := { cls := .type "set", dict := none, data := .set #[] 0 (.fresh 0 0 (!w.params.followText "set-order")) }
section
variable {P : Program} {w : World} {A : Around} {E : Value → Shared → Prop} {s : Shared}
theorem ztx_new {h : Heap} {a : Addr} (e : h.get? a = some (newS w)) : Ztx w h a [] := by
  refine ⟨_, #[], 0, _, e, ⟨rfl, rfl, rfl⟩, rfl, rfl, List.nodup_nil, rfl, List.Pairwise.nil, ?_⟩
  show _ ∨ (!w.params.followText "set-order") = true
  cases w.params.followText "set-order" <;> simp
/-- the members are the first signs of x -/
def Sgn (x : Str) (i : Nat) (L : TxM) : Prop := ∀ k : Str, k ∈ L.map (·.1) ↔ ∃ j c, j < i ∧ x.cps[j]? = some c ∧ k = ⟨#[c]⟩
theorem Sgn.step {x : Str} {i c : Nat} {L L' : TxM} {u : Tok} (g : Sgn x i L) (hc : x.cps[i]? = some c) (c1 : (⟨#[c]⟩ : Str) ∈ L.map (·.1) → L' = L) (c2 : (⟨#[c]⟩ : Str) ∉ L.map (·.1) → L'.Perm ((⟨#[c]⟩, u) :: L)) : Sgn x (i + 1) L' := by
  have key : ∀ k : Str, k ∈ L'.map (·.1) ↔ k = ⟨#[c]⟩ ∨ k ∈ L.map (·.1) := fun k => by
    by_cases h : (⟨#[c]⟩ : Str) ∈ L.map (·.1)
    · rw [c1 h]
      exact ⟨.inr, fun z => z.elim (fun e => e ▸ h) id⟩
    · rw [((c2 h).map (·.1)).mem_iff, List.map_cons, List.mem_cons]
  intro k
  rw [key k, g k]
  constructor
  · rintro (e | ⟨j, d, h1, h2, h3⟩)
    · exact ⟨i, c, by omega, hc, e⟩
    · exact ⟨j, d, by omega, h2, h3⟩
  · rintro ⟨j, d, h1, h2, h3⟩
    by_cases e : j = i
    · subst e
      rw [hc] at h2
      cases h2
      exact .inl h3
    · exact .inr ⟨j, d, by omega, h2, h3⟩
theorem tx_loop {I S : Addr} {x : Str} {St : Nat → Heap → Prop} {R : Result → Shared → Prop} (W : Walks P w A.in1 I [I] [I] x.cps.size (SignAt x) St) (hSI : S ≠ I) (hx : x.cps.size < 4000) :
    ∀ (n i : Nat) (s : Shared) (L : TxM), x.cps.size - i = n → i ≤ x.cps.size → St i s.heap → Ztx w s.heap S L → Sgn x i L → L.length ≤ i →
      (∀ h' tk L', Ztx w h' S L' → Sgn x x.cps.size L' → (∀ b o, b ≠ S → b ≠ I → s.heap.get? b = some o → h'.get? b = some o) → R (.ok (.ret .none)) { s with heap := h', toks := tk }) →
      codeAny (model P w) A (.builtin "set.update.loop" ⟨[.ref S, .ref I], []⟩) R s := by
  intro n
  induction n with
  | zero =>
    intro i s L hn hi st Z g hl hR
    obtain rfl : i = x.cps.size := by omega
    refine codeAny_builtin F.entry_set_update_loop ?_
    rw [Around.under_plainId F.plain_set_update_loop _]
    show wpAny _ A.in1 (pyNext (.ref I) >>= _) _ _ s
    refine wpAny_bind (W.done s _ _ st fun h' tk keep => ?_)
    show wpAny _ A.in1 (ret Value.none) _ _ _
    exact wpAny_pure (hR h' tk L (Z.keep fun o e => keep S o (by simpa using hSI) e) g fun b o h1 h2 e => keep b o (by simpa using h2) e)
  | succ n ih =>
    intro i s L hn hi st Z g hl hR
    have lt : i < x.cps.size := by omega
    refine codeAny_builtin F.entry_set_update_loop ?_
    rw [Around.under_plainId F.plain_set_update_loop _]
    show wpAny _ A.in1 (pyNext (.ref I) >>= _) _ _ s
    refine wpAny_bind (W.item i s _ _ lt st fun v h1 tk hv st1 keep => ?_)
    obtain ⟨c, u, hc, rfl⟩ := hv
    have Z1 : Ztx w h1 S L := Z.keep fun o e => keep S o (by simpa using hSI) e
    show wpAny _ A.in1 (holding [Value.str ⟨#[c]⟩ u] (setAdd S (.str ⟨#[c]⟩ u)) >>= _) _ _ _
    refine wpAny_bind (wpAny_holding ?_)
    unfold setAdd
    refine wpAny_holding (wpAny_bind ((PySem.strKind P w).pyHash (Froz.is_str ⟨#[c]⟩ u) ?_))
    refine Ztx.add (s := { s with heap := h1, toks := tk + 1 }) Z1 (by omega) fun b h2 L2 sb Z2 c1 c2 => ?_
    have len : L2.length ≤ i + 1 := by
      by_cases h : (⟨#[c]⟩ : Str) ∈ L.map (·.1)
      · rw [c1 h]; omega
      · rw [(c2 h).length_eq, List.length_cons]; omega
    refine wpAny_pure ⟨plainId_quiet F.plain_set_update_loop _, ih (i + 1) _ L2 (by omega) lt (W.frame _ h1 _ st1 fun b hb o e => ?_) Z2 (g.step hc c1 c2) len fun h3 tk3 L3 Z3 g3 keep3 => ?_⟩
    · rw [List.mem_singleton.mp hb] at e ⊢
      exact (sb.2 I (Ne.symm hSI)).trans e
    · exact hR h3 tk3 L3 Z3 g3 fun b o n1 n2 e => keep3 b o n1 n2 ((sb.2 b n1).trans (keep b o (by simpa using n2) e))
set_option maxRecDepth 100000 in
set_option maxHeartbeats 6400000 in
/-- set(text) -/
theorem set_of_text {x : Str} {tx : Tok} {Q : Value → Shared → Prop} (hh : A.handled = none) (hx : x.cps.size < 4000)
    (fin : ∀ (h' : Heap) (tk : Nat) L, Ztx w h' s.heap.objs.size L → Sgn x x.cps.size L → (∀ b o, s.heap.get? b = some o → h'.get? b = some o) → Q (.ref s.heap.objs.size) { s with heap := h', toks := tk }) :
    wpAny (model P w) A (call (.type "set") [.str x tx]) Q E s := by
  obtain ⟨c, tl, hmro⟩ := F.called_set.mro
  have made := F.called_set.made
  have sub := F.called_set.sub
  refine wpAny_call (codeAny_of_tree ?_)
  show wpAny _ _ (callAny (.type "set") _) _ _ _
  refine wpAny_pure ⟨Code.quiet_builtin _ (by decide +kernel), codeAny_builtin F.entry_type_call ?_⟩
  rw [Around.under_plain (weight_type_call_type "set" [.str x tx] []) rfl]
  have no_type := F.called_set.notType
  have creates := F.called_set.canCreate
  have checked := F.typeCall_set_1 (.str x tx)
  repeat any_goals first | assumption | wp_step
  refine codeAny_mono (code_set_led1 (.str x tx) (E := E) (Q₁ := fun obj s1 => obj = .ref s.heap.objs.size ∧ s1 = { s with heap := s.heap.push (newS w) }) ⟨rfl, rfl⟩) fun r s1 hr => ?_
  cases r with
  | error e => exact hr
  | ok fl =>
    cases fl with
    | ret obj =>
      obtain ⟨rfl, rfl⟩ := hr
      have at_ : (s.heap.push (newS w)).get? s.heap.objs.size = some (newS w) := Heap.get?_push_size _ rfl
      have ty : Shared.TypeIs { s with heap := s.heap.push (newS w) } (.ref s.heap.objs.size) "set" := ⟨_, at_, rfl⟩
      have look := F.called_set.init.lookup
      have bound := F.called_set.init.bind (.ref s.heap.objs.size)
      repeat any_goals first | assumption | wp_step
      refine codeAny_mono (codeAny_call_builtin (R := wants (fun r s2 => r = .none ∧ ∃ h' tk L, s2 = { s with heap := h', toks := tk } ∧ Ztx w h' s.heap.objs.size L ∧ Sgn x x.cps.size L ∧ (∀ b o, s.heap.get? b = some o → h'.get? b = some o)) E) F.called_set.init.plain F.entry_set_init (check_set_init_1 ty ?_)) fun r2 s2 hr2 => ?_
      · have ns := str_no_set
        have nf := str_no_frozen
        have nd : (Value.type "str" == Value.type "dict") = false := by decide
        unfold Builtin.«set.__init__» noKeywords Builtin.Frozenset.updateFrom
        generalize hIt : pyIter = It
        wp_walk
        subst hIt
        refine wpAny_pyIter_str fun o St W st => ?_
        refine wpAny_bind (wpAny_runValue ?_)
        have hh3 : A.in1.in1.in1.handled = none := by simp [hh]
        have sz : (s.heap.push (newS w)).objs.size = s.heap.objs.size + 1 := Heap.size_push ..
        have SI : s.heap.objs.size ≠ (s.heap.push (newS w)).objs.size := by rw [sz]; exact Nat.ne_of_lt (Nat.lt_succ_self _)
        refine tx_loop (W _ hh3) SI hx (x.cps.size - 0) 0 _ [] rfl (Nat.zero_le _) st (ztx_new (Heap.get?_push_of_some _ at_)) (fun k => ⟨fun h => (by cases h), fun ⟨j, d, h, _⟩ => absurd h (Nat.not_lt_zero _)⟩) (Nat.le_refl _) fun h' tk L Z g keep => ?_
        show wpAny _ _ _ _ _ _
        refine wpAny_pure ?_
        show wpAny _ _ (ret Value.none) _ _ _
        refine wpAny_pure ⟨rfl, h', tk, L, rfl, Z, g, fun b o e => ?_⟩
        have lt := Heap.lt_size e
        exact keep b o (Nat.ne_of_lt lt) (by rw [sz]; exact Nat.ne_of_lt (Nat.lt_succ_of_lt lt)) (Heap.get?_push_of_some _ (Heap.get?_push_of_some _ e))
      · cases r2 with
        | error e => exact hr2
        | ok fl2 =>
          cases fl2 with
          | ret r =>
            obtain ⟨rfl, h', tk, L, rfl, Z, g, keep⟩ := hr2
            repeat any_goals first | assumption | wp_step
            exact fin _ _ _ Z g keep
          | _ => exact hr2.elim
    | _ => exact hr.elim
end
/-! ### the rules for texts -/
def ZtO (w : World) (a : Addr) (L : TxM) : HO := .ext fun h => Ztx w h a L
section
variable {X : Cx} {pins : List (Addr × Obj)} {σ : L2.St} {H : Hp} {s : Shared} {a : Addr} {L : TxM}
theorem zt_new {P : Program} {w : World} {h : Heap} (Z : Ztx w h a L) : ObjOk P w H h a (ZtO w a L) := by
  obtain ⟨o, es, ep, t, h1, r⟩ := id Z
  exact ⟨Z, ⟨o, h1⟩, fun _ _ q keep => Ztx.keep q keep⟩
/-- the signs of a text, each once -/
def Uniq (z : List Nat) (L : TxM) : Prop := (L.map (·.1)).Nodup ∧ ∀ k : Str, k ∈ L.map (·.1) ↔ ∃ c ∈ z, k = ⟨#[c]⟩
def rSetTx (w : World) : List V → Hp → VK → Prop := fun vs H Q => ∃ z : Str, vs = [.str z] ∧ z.cps.size < 4000 ∧ ∀ p L, Uniq z.cps.toList L → H p = none → Q (.ref p) (upd H p (ZtO w p L))
theorem cr_setTx (hc : X.calm = true) : CallR X (.type "set") (rSetTx X.w) := by
  intro pins s σ H vs us Q I r h
  obtain ⟨z, rfl, hz, q⟩ := h
  obtain ⟨u, rfl, ru⟩ := vals1 r
  obtain ⟨tk, rfl⟩ := ru
  have hn : H s.heap.objs.size = none := I.hok.fresh (Nat.le_refl _)
  refine set_of_text (I.ok.hd hc) hz fun h' t L Z g keep => ?_
  refine ⟨.ref s.heap.objs.size, _, I.laid (t' := t) keep (Nat.le_refl _) (zt_new Z), rfl, q _ L ⟨?_, fun k => ?_⟩ hn⟩
  · obtain ⟨_, _, _, _, _, _, _, _, nod, _⟩ := Z
    exact nod
  · rw [g k]
    constructor
    · rintro ⟨j, c, _, h2, h3⟩
      exact ⟨c, List.mem_of_getElem? (by rw [Array.getElem?_toList]; exact h2), h3⟩
    · rintro ⟨c, h1, h2⟩
      obtain ⟨j, hj⟩ := List.getElem?_of_mem h1
      rw [Array.getElem?_toList] at hj
      exact ⟨j, c, (Array.getElem?_eq_some_iff.mp hj).1, hj, h2⟩
/-- sorted(set of texts): the members in some order (theirs is not told) -/
def rSortTx (w : World) : List V → Hp → VK → Prop := fun vs H Q => ∃ (a : Addr) (L : TxM), vs = [.ref a] ∧ H a = some (ZtO w a L) ∧ L.length < 4000 ∧ ∀ (ys : List Str) (p : Addr), ys.Perm (L.map (·.1)) → H p = none → Q (.ref p) (upd H p (.lst (ys.map V.str)))
theorem valsTx : ∀ L : TxM, Vals (L.map fun q => V.str q.1) (L.map fun q => Value.str q.1 q.2)
  | [] => .nil
  | _ :: L => .cons ⟨_, rfl⟩ (valsTx L)
theorem cr_sortTx (hc : X.calm = true) (hu : X.A.units + 64 < cLine) : CallR X (.builtin "sorted") (rSortTx X.w) := by
  intro pins s σ H vs us Q I r h
  obtain ⟨a, L, rfl, ha, hmany, q⟩ := h
  have Z : Ztx X.w s.heap a L := (I.hok a _ ha).1
  obtain ⟨o, es, ep, t, h1, h2, h3, h4, h5, h6, h7, h8⟩ := Z
  obtain ⟨u, rfl, ru⟩ := vals1 r
  obtain rfl : u = Value.ref a := ru
  have W : Wkb X.w s.heap a (L.map fun q => .str q.1 q.2) := ⟨o, es, ep, t, h1, h2.1, h3, h6, by rw [tx_num h4]; unfold scanBound; omega, h7, h8, by rw [h4, List.map_map]; rfl⟩
  refine sortedW (enc := fun q : Str × Tok => PyData.str q.1) W (I.ok.hd hc) (fun x y => by simp [PySem.W.alike]) (fun M _ => PySem.W.Sortable.others fun x => ⟨fun z => (by cases z), fun _ z => (by cases z)⟩) (fun x _ h' _ => .str _ _) (fun x _ => by simp only [PyData.depth]; omega) fun s' p out c M keep hgen hos hp hget pm hout => ?_
  have hn : H p = none := I.hok.fresh hp
  obtain ⟨N, eN⟩ : ∃ N, N = M.mergeSort (PySem.W.dataLe false fun q : Str × Tok => PyData.str q.1) := ⟨_, rfl⟩
  rw [← eN] at hout
  have pN : N.Perm L := by rw [eN]; exact (List.mergeSort_perm _ _).trans pm
  have len : ((N.map (·.1)).map V.str).length ≤ sizeLine := by
    rw [List.length_map, List.length_map, pN.length_eq]
    exact Nat.le_trans (by omega : _ ≤ 4000) (by decide)
  have vals : Vals ((N.map (·.1)).map V.str) out.toList := by
    rw [hout, List.map_map]
    exact valsTx N
  have J : Inv X pins σ (upd H p (.lst ((N.map (·.1)).map V.str))) { s with heap := s'.heap, gens := s'.gens, drawn := s'.drawn, toks := s'.toks } :=
    I.call (ch := []) (Un.laid keep hp hn) (I.hok.laid keep hp ⟨len, out.toList, c, vals, hget⟩) (by rw [hgen]; exact I.bare) fun _ z => nomatch z
  have same : s' = { s with heap := s'.heap, gens := s'.gens, drawn := s'.drawn, toks := s'.toks } := by
    cases s'
    cases hos
    rfl
  rw [same]
  exact ⟨.ref p, _, J, rfl, q (N.map (·.1)) p (pN.map _) hn⟩
end
end Zs

namespace L2
open PySem PySem.Spec PyProof.Rows
/-! ### list(text), xs.remove(text), text[::-1] -/
section
variable {X : Cx}
theorem vals_signs {x : Str} {its : Array Value} (h : ItemsOf (SignAt x) its x.cps.size) : Vals (x.cps.toList.map fun c => V.str ⟨#[c]⟩) its.toList := by
  obtain ⟨hn, hv⟩ := h
  have key : ∀ (cs : List Nat) (vs : List Value), cs.length = vs.length → (∀ (j : Nat) (v : Value), vs[j]? = some v → ∃ c u, cs[j]? = some c ∧ v = Value.str ⟨#[c]⟩ u) → Vals (cs.map fun c => V.str ⟨#[c]⟩) vs := by
    intro cs
    induction cs with
    | nil =>
      intro vs h _
      cases vs with
      | nil => exact .nil
      | cons v vs => cases h
    | cons c cs ih =>
      intro vs h hv
      cases vs with
      | nil => cases h
      | cons v vs =>
        obtain ⟨c', u, e1, e2⟩ := hv 0 v rfl
        cases e1
        exact .cons ⟨u, e2⟩ (ih vs (by simpa using h) fun j w hw => hv (j + 1) w hw)
  refine key _ _ (by simp [hn]) fun j v hj => ?_
  obtain ⟨c, u, h1, h2⟩ := hv j v (by simpa using hj)
  exact ⟨c, u, by simpa using h1, h2⟩
def rListStr : List V → Hp → VK → Prop := fun vs H Q => ∃ z : Str, vs = [.str z] ∧ z.cps.size ≤ sizeLine ∧ ∀ p, H p = none → Q (.ref p) (upd H p (.lst (z.cps.toList.map fun c => V.str ⟨#[c]⟩)))
theorem cr_listStr (hc : X.calm = true) : CallR X (.type "list") rListStr := by
  intro pins s σ H vs us Q I r h
  obtain ⟨z, rfl, hz, q⟩ := h
  obtain ⟨u, rfl, ru⟩ := vals1 r
  obtain ⟨tk, rfl⟩ := ru
  have hn : H s.heap.objs.size = none := I.hok.fresh (Nat.le_refl _)
  refine call_list_str (hn := hz) (I.ok.hd hc) z tk fun h' t its c keep hget hits => ?_
  exact ⟨.ref s.heap.objs.size, _, I.laid (t' := t) (o := .lst (z.cps.toList.map fun c => V.str ⟨#[c]⟩)) keep (Nat.le_refl _) ⟨by rw [List.length_map, Array.length_toList]; exact hz, its.toList, c, vals_signs hits, hget⟩, rfl, q _ hn⟩
/-- xs.remove(z), xs a list of texts in which z is -/
def rRemS : V → List V → Hp → VK → Prop := fun x vs H Q => ∃ (l : Addr) (ys : List (List Nat)) (z : List Nat), x = .ref l ∧ vs = [.str ⟨z.toArray⟩] ∧ H l = some (.lst (ys.map fun y => V.str ⟨y.toArray⟩)) ∧ z ∈ ys ∧ Q .non (upd H l (.lst ((ys.erase z).map fun y => V.str ⟨y.toArray⟩)))
theorem first_in {α : Type} [BEq α] [LawfulBEq α] : ∀ {ys : List α} {z : α}, z ∈ ys → ∃ j, ys[j]? = some z ∧ (∀ i y, i < j → ys[i]? = some y → y ≠ z) ∧ ys.eraseIdx j = ys.erase z
  | y :: ys, z, h => by
    by_cases e : y = z
    · exact ⟨0, by rw [e]; rfl, fun i _ hi => absurd hi (Nat.not_lt_zero _), by rw [e, List.erase_cons_head]; rfl⟩
    · obtain ⟨j, h1, h2, h3⟩ := first_in ((List.mem_cons.mp h).resolve_left fun q => e q.symm)
      refine ⟨j + 1, h1, fun i w hi hw => ?_, by rw [List.erase_cons_tail (by simpa using e), ← h3]; rfl⟩
      cases i with
      | zero =>
        have e2 : y = w := Option.some.inj hw
        rw [← e2]
        exact e
      | succ i => exact h2 i w (by omega) hw
theorem eraseIdx_of_map {α β : Type} (f : α → β) : ∀ (l : List α) (j : Nat), (l.map f).eraseIdx j = (l.eraseIdx j).map f
  | [], _ => rfl
  | _ :: _, 0 => rfl
  | x :: l, j + 1 => by
    show f x :: (l.map f).eraseIdx j = f x :: (l.eraseIdx j).map f
    rw [eraseIdx_of_map f l j]
theorem vals_at : ∀ {ys : List (List Nat)} {us : List Value}, Vals (ys.map fun y => V.str ⟨y.toArray⟩) us → ∀ (i : Nat) (v : Value), us[i]? = some v → ∃ y t, ys[i]? = some y ∧ v = .str ⟨y.toArray⟩ t
  | [], _, .nil, i, v, h => by simp at h
  | y :: ys, _, .cons r t, 0, v, h => by
    obtain ⟨tk, e⟩ := r
    have e2 := Option.some.inj h
    exact ⟨y, tk, rfl, by rw [← e2, e]⟩
  | y :: ys, _, .cons r t, i + 1, v, h => vals_at t i v h
theorem mt_remS : MtR X "list.remove" rRemS := by
  intro pins s σ H x vs v us Q I rx rvs h
  obtain ⟨l, ys, z, rfl, rfl, hH, hm, q⟩ := h
  cases rx
  obtain ⟨u, rfl, ru⟩ := rvs.one
  obtain ⟨t, rfl⟩ := ru
  obtain ⟨zz, its, n, r, hl, e⟩ := I.lstM hH
  obtain ⟨j, h1, h2, h3⟩ := first_in hm
  rw [List.length_map] at hl zz
  have hj : j < ys.length := (List.getElem?_eq_some_iff.mp h1).1
  have hj2 : j < its.toArray.size := by rw [List.size_toArray]; omega
  have gives : ∀ y, y ∈ its.toArray → MeetsSeq.EqGives y (.str ⟨z.toArray⟩ t) (isStrOf ⟨z.toArray⟩ y) := fun y hy => by
    obtain ⟨i, hi⟩ := List.getElem?_of_mem (l := its) (by simpa using hy)
    obtain ⟨w, tw, _, e2⟩ := vals_at r i y hi
    rw [e2]
    exact eqGives_str _ _ _ _
  refine call_meets PySem.F.slot_list_remove ⟨_, e, rfl⟩ PySem.F.entry_list_remove (PySem.F.args_list_remove_2 _ _) (MeetsSeq.list_remove l its.toArray n (.str ⟨z.toArray⟩ t) (isStrOf ⟨z.toArray⟩) gives j hj2 ?_ ?_ (by rw [List.size_toArray]; omega)) ⟨e, ?_⟩
  · obtain ⟨w, tw, e1, e2⟩ := vals_at r j its.toArray[j] (by simp)
    rw [h1] at e1
    cases e1
    rw [e2]
    exact beq_self_eq_true _
  · intro m hm2 hmj
    obtain ⟨w, tw, e1, e2⟩ := vals_at r m its.toArray[m] (by simp)
    rw [e2]
    show ((⟨w.toArray⟩ : Str) == ⟨z.toArray⟩) = false
    refine beq_eq_false_iff_ne.mpr fun q => h2 m w hmj e1 ?_
    have := congrArg (fun s : Str => s.cps.toList) q
    simpa using this
  · have rr := r.eraseIdx j
    have emap : (ys.map fun y => V.str ⟨y.toArray⟩).eraseIdx j = (ys.erase z).map fun y => V.str ⟨y.toArray⟩ := by rw [← h3, eraseIdx_of_map]
    rw [emap] at rr
    refine ⟨.non, _, I.lset (its' := its.eraseIdx j) (t' := s.toks) hH e ?_ rr ?_, rfl, q⟩
    · show its.toArray.eraseIdxIfInBounds j = (its.eraseIdx j).toArray
      rw [List.eraseIdxIfInBounds_toArray]
    · rw [List.length_map]
      have := List.length_erase_le (a := z) (l := ys)
      omega
/-- text[::-1] -/
def tRevS (te : TE) : TE := fun σ H Q => te σ H fun x H1 => ∃ z : Str, x = .str z ∧ z.length ≤ sizeLine ∧ Q (.str ⟨z.cps.toList.reverse.toArray⟩) H1
theorem rev_made (z : Str) (t : Tok) (u : Tok) : sliceMade z t none none (some (-1, u)) = .str ⟨z.cps.toList.reverse.toArray⟩ := by
  unfold sliceMade
  rw [if_neg (by simp)]
  have e : slicePicked z none none (some (-1, u)) = sliceRange ((z.cps.size : Int) - 1) (-1) (-1) := rfl
  rw [e, PySem.W.krv_sliceRange, PySem.W.krv_range, List.filterMap_reverse]
  have e2 := PySem.W.krv_all z.cps
  first
    | rw [e2]
    | (congr 2)
theorem pe_revS {e : Expr} {te : TE} {k : Nat} {p1 p2 p3 pos : Pos} (he : PE X e te) : PE X (.Subscript e (.Slice none none (some (.UnaryOp .USub (.Constant (.int 1) k p1) p2)) p3) pos) (tRevS te) := by
  refine ⟨fun pins s σ H Q I h => Subscript_ (thn (he.run pins s σ H _ I h) fun v st ⟨x, H1, I1, rx, z, ex, hz, q⟩ => ?_)⟩
  subst ex
  obtain ⟨t, rfl⟩ := rx
  have step : PO X (some (.UnaryOp .USub (.Constant (.int 1) k p1) p2)) (tPart (tUn (rU fun i => .int (-i)) (tC (.int 1)))) := po_some (pe_un un_neg pe_int)
  refine wpAny_Slice (thn (po_none.run pins st σ H1 (fun o G => o = none ∧ G = H1) I1 ⟨rfl, rfl⟩) fun vl sb ⟨l, G2, I2, pl, el, e2⟩ => ?_)
  subst el
  subst e2
  refine thn (po_none.run pins sb σ G2 (fun o G => o = none ∧ G = G2) I2 ⟨rfl, rfl⟩) fun vu sc ⟨u, G3, I3, pu, eu, e3⟩ => ?_
  subst eu
  subst e3
  refine thn (step.run pins sc σ G3 (fun o G => o = some (-1) ∧ G = G3) I3 ⟨1, rfl, -1, rfl, rfl, rfl⟩) fun vs sd ⟨o, G4, I4, ps, eo, e4⟩ => ?_
  subst eo
  subst e4
  have I5 : Inv X pins σ G4 { sd with heap := sd.heap.push { cls := .type "slice", data := .fields #[vl, vu, vs] } } := I4.kept (t' := sd.toks) fun b ob q => Heap.get?_push_of_some _ q
  show wpAny (model X.prog X.w) X.A (subscriptTail e (.Slice none none (some (.UnaryOp .USub (.Constant (.int 1) k p1) p2)) p3) (.str z t) (.ref sd.heap.objs.size)) (EP X pins σ Q) X.xe { sd with heap := sd.heap.push { cls := .type "slice", data := .fields #[vl, vu, vs] } }
  refine tail_any (ops := [.str z t, .ref sd.heap.objs.size]) (typeIs_str _ z t) (F.slot_str_getitem.lookup) ?_ (by with_unfolding_all rfl)
  obtain ⟨lo, e5, e6⟩ := IsPart.raw pl
  obtain ⟨hi, e7, e8⟩ := IsPart.raw pu
  obtain ⟨stp, e9, e10⟩ := IsPart.raw ps
  subst e5 e7 e9
  obtain rfl : lo = none := by cases lo with | none => rfl | some v => cases e6
  obtain rfl : hi = none := by cases hi with | none => rfl | some v => cases e8
  obtain ⟨tk, rfl⟩ : ∃ tk, stp = some (-1, tk) := by
    cases stp with
    | none => cases e10
    | some v => exact ⟨v.2, by cases v; cases e10; rfl⟩
  refine wpAny_getItem_str_slice (l := none) (u := none) (st := some (-1, tk)) ⟨_, Heap.get?_push_size _ rfl, rfl, rfl⟩ rfl ?_
  rw [rev_made]
  refine ⟨?_, .str _, G4, I5.tok _, ⟨_, rfl⟩, q⟩
  show (z.cps.toList.reverse.toArray).size ≤ sizeLine
  rw [List.size_toArray, List.length_reverse]
  exact hz
end
end L2
namespace L2
open PySem PySem.Spec PyProof.Rows
theorem x_revS {te : TE} {σ : St} {H : Hp} {Q : VK} (q : te σ H fun x H1 => ∃ z : Str, x = .str z ∧ z.length ≤ sizeLine ∧ Q (.str ⟨z.cps.toList.reverse.toArray⟩) H1) : tRevS te σ H Q := q
end L2

namespace Sr
open PySem PySem.Spec PyProof.Rows L2
/-! ### signs that two rows have in common, each as often as the one that has it less often -/
def cm : List Nat → List Nat → Nat
  | [], _ => 0
  | c :: o, t => if c ∈ t then cm o (t.erase c) + 1 else cm o t
def cmS (ys o t : List Nat) : Nat := (ys.map fun c => min (o.count c) (t.count c)).sum
theorem sum_same {f g : Nat → Nat} : ∀ {ys : List Nat}, (∀ d ∈ ys, f d = g d) → (ys.map f).sum = (ys.map g).sum
  | [], _ => rfl
  | y :: ys, h => by
    rw [List.map_cons, List.map_cons, List.sum_cons, List.sum_cons, h y List.mem_cons_self, sum_same fun d hd => h d (List.mem_cons_of_mem _ hd)]
theorem sum_one {f g : Nat → Nat} {c : Nat} : ∀ {ys : List Nat}, ys.Nodup → c ∈ ys → (∀ d ∈ ys, d ≠ c → f d = g d) → f c = g c + 1 → (ys.map f).sum = (ys.map g).sum + 1
  | y :: ys, hn, hc, h, h1 => by
    rw [List.map_cons, List.map_cons, List.sum_cons, List.sum_cons]
    obtain ⟨n1, n2⟩ := List.nodup_cons.mp hn
    rcases List.mem_cons.mp hc with e | e
    · subst e
      rw [h1, sum_same (f := f) (g := g) fun d hd => h d (List.mem_cons_of_mem _ hd) fun q => n1 (q ▸ hd)]
      omega
    · rw [sum_one n2 e (fun d hd => h d (List.mem_cons_of_mem _ hd)) h1, h y List.mem_cons_self fun q => n1 (q ▸ e)]
      omega
theorem sum_zero : ∀ ys : List Nat, (ys.map fun _ => 0).sum = 0
  | [] => rfl
  | y :: ys => by
    rw [List.map_cons, List.sum_cons, sum_zero ys]
theorem cmS_cm : ∀ {o t ys : List Nat}, ys.Nodup → (∀ c ∈ o, c ∈ ys) → cmS ys o t = cm o t
  | [], t, ys, _, _ => by
    have : cmS ys [] t = (ys.map fun _ => 0).sum := sum_same fun d _ => by simp
    rw [this, sum_zero]
    rfl
  | c :: o, t, ys, hn, hc => by
    have ih1 := cmS_cm (o := o) (t := t) hn fun d hd => hc d (List.mem_cons_of_mem _ hd)
    have ih2 := cmS_cm (o := o) (t := t.erase c) hn fun d hd => hc d (List.mem_cons_of_mem _ hd)
    unfold cm
    by_cases h : c ∈ t
    · rw [if_pos h, ← ih2]
      refine sum_one hn (hc c List.mem_cons_self) (fun d _ hd => ?_) ?_
      · rw [List.count_cons_of_ne (Ne.symm hd), List.count_erase_of_ne hd]
      · rw [List.count_cons_self, List.count_erase_self]
        have := List.count_pos_iff.mpr h
        omega
    · rw [if_neg h, ← ih1]
      refine sum_same fun d _ => ?_
      by_cases e : d = c
      · subst e
        rw [List.count_eq_zero_of_not_mem h]
        simp
      · rw [List.count_cons_of_ne (Ne.symm e)]
/-- a list of all numbers up to a bound -/
theorem all_in (o t : List Nat) : ∃ ys : List Nat, ys.Nodup ∧ (∀ c ∈ o, c ∈ ys) ∧ ∀ c ∈ t, c ∈ ys := by
  have bd : ∀ l : List Nat, ∃ n, ∀ c ∈ l, c < n := by
    intro l
    induction l with
    | nil => exact ⟨0, fun c h => by cases h⟩
    | cons x l ih =>
      obtain ⟨n, hn⟩ := ih
      refine ⟨n + x + 1, fun c h => ?_⟩
      rcases List.mem_cons.mp h with e | e
      · omega
      · have := hn c e
        omega
  obtain ⟨n, hn⟩ := bd o
  obtain ⟨m, hm⟩ := bd t
  exact ⟨List.range (n + m), List.nodup_range, fun c h => List.mem_range.mpr (by have := hn c h; omega), fun c h => List.mem_range.mpr (by have := hm c h; omega)⟩
theorem cm_comm (o t : List Nat) : cm o t = cm t o := by
  obtain ⟨ys, h1, h2, h3⟩ := all_in o t
  rw [← cmS_cm h1 h2, ← cmS_cm h1 h3]
  exact sum_same fun d _ => Nat.min_comm _ _
theorem cm_nil (o : List Nat) : cm o [] = 0 := by
  rw [cm_comm]
  rfl
theorem cm_self : ∀ o : List Nat, cm o o = o.length
  | [] => rfl
  | c :: o => by
    unfold cm
    rw [if_pos List.mem_cons_self, List.erase_cons_head, cm_self o]
    rfl
theorem cm_le (o t : List Nat) : cm o t ≤ o.length := by
  induction o generalizing t with
  | nil => exact Nat.le_refl _
  | cons c o ih =>
    unfold cm
    split
    · have := ih (t.erase c)
      simp only [List.length_cons]
      omega
    · have := ih t
      simp only [List.length_cons]
      omega
theorem sum_le {f g : Nat → Nat} : ∀ {ys : List Nat}, (∀ d ∈ ys, f d ≤ g d) → (ys.map f).sum ≤ (ys.map g).sum
  | [], _ => Nat.le_refl _
  | y :: ys, h => by
    rw [List.map_cons, List.map_cons, List.sum_cons, List.sum_cons]
    have h1 := h y List.mem_cons_self
    have h2 := sum_le fun d hd => h d (List.mem_cons_of_mem _ hd)
    omega
theorem cm_sub {m o t : List Nat} (h1 : m.Sublist o) (h2 : m.Sublist t) : m.length ≤ cm o t := by
  obtain ⟨ys, n1, n2, n3⟩ := all_in o t
  rw [← cm_self m, ← cmS_cm n1 fun c h => n2 c (h1.subset h), ← cmS_cm n1 n2]
  refine sum_le fun d _ => ?_
  have a := h1.count_le d
  have b := h2.count_le d
  omega
/-! ### a lane's like pairs -/
theorem seg_sub (o : List Nat) (b n : Nat) (h : b + n ≤ o.length) : ((List.range n).map fun i => o[b + i]?.getD 0).Sublist o := by
  have e : ((List.range n).map fun i => o[b + i]?.getD 0) = (o.drop b).take n := by
    apply List.ext_getElem
    · rw [List.length_map, List.length_range, List.length_take, List.length_drop]
      omega
    · intro i h1 h2
      rw [List.length_map, List.length_range] at h1
      rw [List.getElem_map, List.getElem_range, List.getElem_take, List.getElem_drop, List.getElem?_eq_getElem (by omega)]
      rfl
  rw [e]
  exact (List.take_sublist _ _).trans (List.drop_sublist _ _)
theorem count_map_filter {p : Nat → Bool} {f : Nat → Nat} {c : Nat} (h : ∀ i, f i = c ↔ p i = true) : ∀ l : List Nat, (l.map f).count c = (l.filter p).length
  | [] => rfl
  | i :: l => by
    rw [List.map_cons, List.count_cons, count_map_filter h l, List.filter_cons]
    by_cases e : p i = true
    · rw [if_pos e, if_pos (by rw [(h i).mpr e]; simp), List.length_cons]
    · rw [if_neg e, if_neg (fun q => e ((h i).mp (by simpa using q)))]
      rfl
theorem lane_cm (o t : List Nat) (d : Int) : (likL o t d).count 61 ≤ cm o t := by
  rw [likL_eq, count_map_filter (p := fun i => decide (o[bgn d + i]? = t[(((bgn d + i : Nat) : Int) + d).toNat]?)) (fun i => by
    unfold lk1
    by_cases e : o[bgn d + i]? = t[(((bgn d + i : Nat) : Int) + d).toNat]?
    · rw [if_pos e]; simp [e]
    · rw [if_neg e]
      exact ⟨fun h => absurd h (by decide), fun h => absurd (of_decide_eq_true h) e⟩)]
  obtain ⟨n, hn⟩ : ∃ n, n = lkn o.length t.length d := ⟨_, rfl⟩
  rw [← hn]
  have hb1 : n = 0 ∨ bgn d + n ≤ o.length := by unfold lkn at hn; omega
  have hb2 : n = 0 ∨ (((bgn d : Nat) : Int) + d).toNat + n ≤ t.length := by unfold lkn bgn at hn; unfold bgn; omega
  obtain ⟨F, hF⟩ : ∃ F, F = (List.range n).filter fun i => decide (o[bgn d + i]? = t[(((bgn d + i : Nat) : Int) + d).toNat]?) := ⟨_, rfl⟩
  rw [← hF]
  have hsub : F.Sublist (List.range n) := by rw [hF]; exact List.filter_sublist
  have e1 : (F.map fun i => o[bgn d + i]?.getD 0).Sublist o := by
    rcases hb1 with e | e
    · subst e
      have : F = [] := by simpa using hsub
      rw [this]
      exact List.nil_sublist _
    · exact (hsub.map _).trans (seg_sub o _ n e)
  have e2 : (F.map fun i => o[bgn d + i]?.getD 0) = F.map fun i => t[(((bgn d : Nat) : Int) + d).toNat + i]?.getD 0 := by
    refine List.map_congr_left fun i hi => ?_
    rw [hF] at hi
    have h1 := of_decide_eq_true (List.mem_filter.mp hi).2
    rw [h1]
    have : (((bgn d + i : Nat) : Int) + d).toNat = (((bgn d : Nat) : Int) + d).toNat + i := by unfold bgn; omega
    rw [this]
  have e3 : (F.map fun i => o[bgn d + i]?.getD 0).Sublist t := by
    rw [e2]
    rcases hb2 with e | e
    · subst e
      have : F = [] := by simpa using hsub
      rw [this]
      exact List.nil_sublist _
    · exact (hsub.map _).trans (seg_sub t _ n e)
  have := cm_sub e1 e3
  rw [List.length_map] at this
  exact this
/-- signs of a row, each once, as texts in some order -/
theorem uniq_codes {z : List Nat} {L : Zs.TxM} {ys : List Str} (u : Zs.Uniq z L) (p : ys.Perm (L.map (·.1))) : ∃ cs : List Nat, ys = cs.map sg ∧ cs.Nodup ∧ (∀ c, c ∈ cs ↔ c ∈ z) := by
  have hy : ∀ y ∈ ys, ∃ c ∈ z, y = sg c := fun y hy => (u.2 y).mp (p.mem_iff.mp hy)
  have key : ∀ ys : List Str, (∀ y ∈ ys, ∃ c ∈ z, y = sg c) → ∃ cs : List Nat, ys = cs.map sg ∧ ∀ c ∈ cs, c ∈ z := by
    intro ys
    induction ys with
    | nil => intro _; exact ⟨[], rfl, fun c h => by cases h⟩
    | cons y ys ih =>
      intro h
      obtain ⟨c, hc, rfl⟩ := h y List.mem_cons_self
      obtain ⟨cs, rfl, h2⟩ := ih fun w hw => h w (List.mem_cons_of_mem _ hw)
      exact ⟨c :: cs, rfl, fun d hd => by
        rcases List.mem_cons.mp hd with e | e
        · rw [e]; exact hc
        · exact h2 d e⟩
  obtain ⟨cs, e, h2⟩ := key ys hy
  refine ⟨cs, e, ?_, fun c => ⟨h2 c, fun hc => ?_⟩⟩
  · have hn : ys.Nodup := p.nodup_iff.mpr u.1
    rw [e] at hn
    exact List.Pairwise.of_map sg (fun a b h q => h (by rw [q])) hn
  · have hm : sg c ∈ ys := p.mem_iff.mpr ((u.2 (sg c)).mpr ⟨c, hc, rfl⟩)
    rw [e] at hm
    obtain ⟨d, hd, e2⟩ := List.mem_map.mp hm
    have : d = c := by simpa [sg] using e2
    rw [← this]
    exact hd
end Sr

namespace Sr
open PySem PySem.Spec PyProof.Rows L2 Zs
/-! ### pairs: the greatest worth of each row -/
structure GW (kvs : List (Key × V)) (L : List Fnd) : Prop where
  no : ∀ n : Nat, valV kvs (.inl (n : Int)) = none → ∀ q ∈ L, q.1 ≠ n
  yes : ∀ (n : Nat) (v : V), valV kvs (.inl (n : Int)) = some v → ∃ m : Int, v = .int m ∧ (∃ q ∈ L, q.1 = n ∧ q.2.2 = m) ∧ ∀ q ∈ L, q.1 = n → q.2.2 ≤ m
theorem GW.nil : GW [] [] := ⟨fun n _ q h => (by cases h), fun n v h => by cases h⟩
theorem GW.step {kvs : List (Key × V)} {L : List Fnd} {q : Fnd} {m : Int} (h : GW kvs L) (h0 : ∀ q ∈ L, 0 ≤ q.2.2) (hq : 0 ≤ q.2.2) (e1 : valV kvs (.inl (q.1 : Int)) = none → m = q.2.2) (e2 : ∀ x, valV kvs (.inl (q.1 : Int)) = some (.int x) → m = max q.2.2 x) : GW (putK kvs (.inl (q.1 : Int)) (.int m)) (L ++ [q]) := by
  refine ⟨fun n hn r hr e => ?_, fun n v hv => ?_⟩
  · rw [valV_put] at hn
    split at hn
    · cases hn
    · rename_i ne
      rcases List.mem_append.mp hr with g | g
      · exact h.no n hn r g e
      · rw [List.mem_singleton.mp g] at e
        exact ne (by rw [e])
  · rw [valV_put] at hv
    split at hv
    · rename_i e
      have en : n = q.1 := by
        have : (n : Int) = (q.1 : Int) := Sum.inl.inj e
        omega
      subst en
      refine ⟨m, (Option.some.inj hv).symm, ?_⟩
      cases ev : valV kvs (.inl (q.1 : Int)) with
      | none =>
        have em := e1 ev
        refine ⟨⟨q, by simp, rfl, em.symm⟩, fun r hr er => ?_⟩
        rcases List.mem_append.mp hr with g | g
        · exact absurd er (h.no _ ev r g)
        · rw [List.mem_singleton.mp g, em]; exact Int.le_refl _
      | some v0 =>
        obtain ⟨x, rfl, ⟨r0, hr0, er0, ex⟩, hx⟩ := h.yes _ _ ev
        have em := e2 x ev
        refine ⟨?_, fun r hr er => ?_⟩
        · by_cases hc : q.2.2 ≤ x
          · exact ⟨r0, List.mem_append.mpr (.inl hr0), er0, by rw [em, ex]; omega⟩
          · exact ⟨q, by simp, rfl, by rw [em]; omega⟩
        · rcases List.mem_append.mp hr with g | g
          · have := hx r g er
            rw [em]; omega
          · rw [List.mem_singleton.mp g, em]; omega
    · rename_i ne
      obtain ⟨x, e, ⟨r0, hr0, er0, ex⟩, hx⟩ := h.yes n v hv
      refine ⟨x, e, ⟨r0, List.mem_append.mpr (.inl hr0), er0, ex⟩, fun r hr er => ?_⟩
      rcases List.mem_append.mp hr with g | g
      · exact hx r g er
      · rw [List.mem_singleton.mp g] at er
        exact absurd (by rw [er]) ne
end Sr
namespace Sr
open PySem PySem.Spec PyProof.Rows L2 Zs
/-! ### the greatest worth of a stretch of two rows -/
noncomputable def bst (g l : Int) (o t : List Nat) : Int := ((rchA g l 1 o t).map (fndW g l o t)).foldl max 0
theorem fold_max : ∀ (xs : List Int) (a : Int), a ≤ xs.foldl max a ∧ (∀ x ∈ xs, x ≤ xs.foldl max a) ∧ (xs.foldl max a = a ∨ xs.foldl max a ∈ xs)
  | [], a => ⟨Int.le_refl _, (fun x h => by cases h), .inl rfl⟩
  | y :: xs, a => by
    obtain ⟨h1, h2, h3⟩ := fold_max xs (max a y)
    rw [List.foldl_cons]
    refine ⟨by omega, fun x hx => ?_, ?_⟩
    · rcases List.mem_cons.mp hx with e | e
      · rw [e]; omega
      · exact h2 x e
    · rcases h3 with e | e
      · rw [e]
        by_cases h : y ≤ a
        · left; omega
        · right; rw [show max a y = y by omega]; exact List.mem_cons_self
      · right; exact List.mem_cons_of_mem _ e
theorem bst_nn (g l : Int) (o t : List Nat) : 0 ≤ bst g l o t := (fold_max _ 0).1
theorem bst_le {g l : Int} {o t : List Nat} {p : Tri} (h : p ∈ rchA g l 1 o t) : fndW g l o t p ≤ bst g l o t := (fold_max _ 0).2.1 _ (List.mem_map.mpr ⟨p, h, rfl⟩)
theorem bst_in (g l : Int) (o t : List Nat) : bst g l o t = 0 ∨ ∃ p ∈ rchA g l 1 o t, fndW g l o t p = bst g l o t := by
  rcases (fold_max ((rchA g l 1 o t).map (fndW g l o t)) 0).2.2 with h | h
  · exact .inl h
  · obtain ⟨p, hp, e⟩ := List.mem_map.mp h
    exact .inr ⟨p, hp, e⟩
theorem rchL_told {g l told : Int} {o t : List Nat} {d : Int} {p : Tri} (ht : 1 ≤ told) : p ∈ rchL g l told o t d ↔ p ∈ rchL g l 1 o t d ∧ told ≤ fndW g l o t p := by
  unfold rchL
  rw [List.mem_map, List.mem_map]
  constructor
  · rintro ⟨q, hq, rfl⟩
    obtain ⟨h1, h2⟩ := List.mem_filter.mp hq
    have h2 := of_decide_eq_true h2
    exact ⟨⟨q, List.mem_filter.mpr ⟨h1, decide_eq_true (by omega)⟩, rfl⟩, by rw [fndW_eq]; exact h2⟩
  · rintro ⟨⟨q, hq, rfl⟩, h2⟩
    obtain ⟨h1, _⟩ := List.mem_filter.mp hq
    rw [fndW_eq] at h2
    exact ⟨q, List.mem_filter.mpr ⟨h1, decide_eq_true h2⟩, rfl⟩
theorem rchA_told {g l told : Int} {o t : List Nat} {p : Tri} (ht : 1 ≤ told) : p ∈ rchA g l told o t ↔ p ∈ rchA g l 1 o t ∧ told ≤ fndW g l o t p := by
  unfold rchA
  rw [rchN_mem, rchN_mem]
  constructor
  · rintro ⟨k, hk, h⟩
    obtain ⟨h1, h2⟩ := (rchL_told ht).mp h
    exact ⟨⟨k, hk, h1⟩, h2⟩
  · rintro ⟨⟨k, hk, h1⟩, h2⟩
    exact ⟨k, hk, (rchL_told ht).mpr ⟨h1, h2⟩⟩
theorem due_in {g l told : Int} {o : List Nat} {rows : List (List Nat)} {q : Fnd} : q ∈ dueUp g l told o rows ↔ q.1 < rows.length ∧ q.2.1 ∈ rchA g l told o (rows[q.1]?.getD []) ∧ q.2.2 = fndW g l o (rows[q.1]?.getD []) q.2.1 := by
  rw [dueUp_eq]
  unfold dueM dueR
  rw [List.mem_flatMap]
  constructor
  · rintro ⟨n, hn, h⟩
    obtain ⟨p, hp, rfl⟩ := List.mem_map.mp h
    exact ⟨List.mem_range.mp hn, hp, rfl⟩
  · rintro ⟨h1, h2, h3⟩
    exact ⟨q.1, List.mem_range.mpr h1, List.mem_map.mpr ⟨q.2.1, h2, by rw [← h3]⟩⟩
/-- .. is what the table holds -/
theorem gw_bst {kvs : List (Key × V)} {g l told : Int} {o : List Nat} {rows : List (List Nat)} (ht : 1 ≤ told) (h : GW kvs (dueUp g l told o rows)) {j : Nat} (hj : j < rows.length) :
    (valV kvs (.inl (j : Int)) = none ∧ ¬ told ≤ bst g l o (rows[j]?.getD [])) ∨ (valV kvs (.inl (j : Int)) = some (.int (bst g l o (rows[j]?.getD []))) ∧ told ≤ bst g l o (rows[j]?.getD [])) := by
  generalize et : rows[j]?.getD [] = t
  cases e : valV kvs (.inl (j : Int)) with
  | none =>
    left
    refine ⟨rfl, fun hb => ?_⟩
    rcases bst_in g l o t with h0 | ⟨p, hp, ep⟩
    · omega
    · have hp' := (rchA_told ht).mpr ⟨hp, by rw [ep]; exact hb⟩
      exact h.no j e (j, p, fndW g l o t p) (due_in.mpr ⟨hj, by rw [et]; exact hp', by rw [et]⟩) rfl
  | some v =>
    right
    obtain ⟨m, rfl, ⟨q, hq, e1, e2⟩, hx⟩ := h.yes j v e
    obtain ⟨_, h2, h3⟩ := due_in.mp hq
    rw [e1, et] at h2 h3
    obtain ⟨h4, h5⟩ := (rchA_told ht).mp h2
    have hb := bst_le h4
    rw [← h3] at hb h5
    have hm : bst g l o t = m := by
      rcases bst_in g l o t with h0 | ⟨p, hp, ep⟩
      · omega
      · have hp' := (rchA_told ht).mpr ⟨hp, by rw [ep]; omega⟩
        have := hx (j, p, fndW g l o t p) (due_in.mpr ⟨hj, by rw [et]; exact hp', by rw [et]⟩) rfl
        have : fndW g l o t p ≤ m := this
        omega
    rw [hm]
    exact ⟨rfl, by omega⟩
theorem cut_count (z : List Nat) (b n c : Nat) : ((z.drop b).take n).count c ≤ z.count c := ((List.take_sublist n _).trans (List.drop_sublist b z)).count_le c
theorem bst_cm {g l : Int} (hg : 1 ≤ g) (hl : 1 ≤ l) (o t : List Nat) : bst g l o t ≤ g * (cm o t : Nat) := by
  have h0 : 0 ≤ g * (cm o t : Nat) := Int.mul_nonneg (by omega) (by omega)
  rcases bst_in g l o t with h | ⟨p, hp, e⟩
  · rw [h]; exact h0
  · rw [← e]
    obtain ⟨d, b, e', rfl, h1, h2, h3, _⟩ := rchA_in hp
    rw [fndW_eq, ← wor_cut g l (likL o t d) (Nat.le_of_lt h1)]
    refine Int.le_trans (wor_le_count g l hg hl _ fun c hc => likL_Lk o t d c (List.mem_of_mem_drop (List.mem_of_mem_take hc))) ?_
    have c1 := cut_count (likL o t d) b (e' - b) 61
    have c2 := lane_cm o t d
    exact Int.mul_le_mul_of_nonneg_left (by omega) (by omega)
/-! ### the three lists -/
abbrev P3 := Nat × Nat × Int
def p3V (q : P3) : List V := [.int (q.1 : Nat), .int (q.2.1 : Nat), .int q.2.2]
section
variable {α : Type}
def prI (f : Nat → Nat → List α) (i a m : Nat) : List α := (List.range m).flatMap fun k => f i (a + k)
def prA (f : Nat → Nat → List α) (n m : Nat) : List α := (List.range m).flatMap fun i => prI f i (i + 1) (n - (i + 1))
theorem prI_succ (f : Nat → Nat → List α) (i a m : Nat) : prI f i a (m + 1) = prI f i a m ++ f i (a + m) := by
  unfold prI
  rw [List.range_succ, List.flatMap_append]
  simp
theorem prA_succ (f : Nat → Nat → List α) (n m : Nat) : prA f n (m + 1) = prA f n m ++ prI f m (m + 1) (n - (m + 1)) := by
  unfold prA
  rw [List.range_succ, List.flatMap_append]
  simp
theorem prI_len {f : Nat → Nat → List α} (h : ∀ i j, (f i j).length ≤ 1) (i a : Nat) : ∀ m, (prI f i a m).length ≤ m
  | 0 => Nat.le_refl _
  | m + 1 => by
    rw [prI_succ, List.length_append]
    have := prI_len h i a m
    have := h i (a + m)
    omega
theorem prA_len {f : Nat → Nat → List α} (h : ∀ i j, (f i j).length ≤ 1) (n : Nat) : ∀ m, (prA f n m).length ≤ n * m
  | 0 => Nat.le_refl _
  | m + 1 => by
    rw [prA_succ, List.length_append, Nat.mul_succ]
    have := prA_len h n m
    have := prI_len h m (m + 1) (n - (m + 1))
    omega
end
noncomputable def fF (g l told : Int) (rows : List (List Nat)) (i j : Nat) : List P3 :=
  if told ≤ bst g l (rows[i]?.getD []) (rows[j]?.getD []) then [(i, j, bst g l (rows[i]?.getD []) (rows[j]?.getD []))] else []
noncomputable def fL (g l told : Int) (rows : List (List Nat)) (i j : Nat) : List P3 :=
  if told ≤ bst g l (rows[i]?.getD []) (rows[j]?.getD []) then [] else if g * (cm (rows[i]?.getD []) (rows[j]?.getD []) : Nat) < told then [(i, j, g * (cm (rows[i]?.getD []) (rows[j]?.getD []) : Nat))] else []
noncomputable def fR (g l told : Int) (rows : List (List Nat)) (i j : Nat) : List NP :=
  if told ≤ bst g l (rows[i]?.getD []) (rows[j]?.getD []) then [] else if g * (cm (rows[i]?.getD []) (rows[j]?.getD []) : Nat) < told then [] else [(i, j)]
theorem fF_len (g l told : Int) (rows : List (List Nat)) (i j : Nat) : (fF g l told rows i j).length ≤ 1 := by
  unfold fF
  split <;> simp
theorem fL_len (g l told : Int) (rows : List (List Nat)) (i j : Nat) : (fL g l told rows i j).length ≤ 1 := by
  unfold fL
  split
  · simp
  · split <;> simp
theorem fR_len (g l told : Int) (rows : List (List Nat)) (i j : Nat) : (fR g l told rows i j).length ≤ 1 := by
  unfold fR
  split
  · simp
  · split <;> simp
/-- three lists of tuples -/
structure L3 (H : Hp) (F A B : Addr) (X Y : List P3) (Z : List NP) : Prop where
  fa : F ≠ A
  fb : F ≠ B
  ab : A ≠ B
  x : ∃ as : List Addr, H F = some (.lst (as.map V.ref)) ∧ Tup p3V H as X
  y : ∃ as : List Addr, H A = some (.lst (as.map V.ref)) ∧ Tup p3V H as Y
  z : ∃ as : List Addr, H B = some (.lst (as.map V.ref)) ∧ Tup npV H as Z
theorem L3.same {H H' : Hp} {F A B : Addr} {X Y : List P3} {Z : List NP} (h : L3 H F A B X Y Z) (e : Same H H') : L3 H' F A B X Y Z := by
  obtain ⟨h1, h2, h3, ⟨a, a1, a2⟩, ⟨b, b1, b2⟩, ⟨c, c1, c2⟩⟩ := h
  exact ⟨h1, h2, h3, ⟨a, e _ _ a1, a2.same e⟩, ⟨b, e _ _ b1, b2.same e⟩, ⟨c, e _ _ c1, c2.same e⟩⟩
theorem tup_more {α : Type} {f : α → List V} {H : Hp} {D t : Addr} {as : List Addr} {L : List α} {p : α} (hD : H D = some (.lst (as.map V.ref))) (hT : Tup f H as L) (ht : H t = some (.tup (f p))) : upd H D (.lst (as.map V.ref ++ [.ref t])) D = some (.lst ((as ++ [t]).map V.ref)) ∧ Tup f (upd H D (.lst (as.map V.ref ++ [.ref t]))) (as ++ [t]) (L ++ [p]) := by
  refine ⟨by rw [upd_same, List.map_append]; rfl, Tup.snoc (hT.updL hD) ?_⟩
  rw [upd_ne (ne_of ht hD (by intro x; cases x))]
  exact ht
theorem L3.pX {H : Hp} {F A B t : Addr} {X Y : List P3} {Z : List NP} {p : P3} {as : List Addr} (h : L3 H F A B X Y Z) (hF : H F = some (.lst (as.map V.ref))) (hT : Tup p3V H as X) (ht : H t = some (.tup (p3V p))) : L3 (upd H F (.lst (as.map V.ref ++ [.ref t]))) F A B (X ++ [p]) Y Z := by
  obtain ⟨h1, h2, h3, _, ⟨b, b1, b2⟩, ⟨c, c1, c2⟩⟩ := h
  have m := tup_more hF hT ht
  exact ⟨h1, h2, h3, ⟨_, m⟩, ⟨b, (upd_ne h1.symm).trans b1, b2.updL hF⟩, ⟨c, (upd_ne h2.symm).trans c1, c2.updL hF⟩⟩
theorem L3.pY {H : Hp} {F A B t : Addr} {X Y : List P3} {Z : List NP} {p : P3} {as : List Addr} (h : L3 H F A B X Y Z) (hF : H A = some (.lst (as.map V.ref))) (hT : Tup p3V H as Y) (ht : H t = some (.tup (p3V p))) : L3 (upd H A (.lst (as.map V.ref ++ [.ref t]))) F A B X (Y ++ [p]) Z := by
  obtain ⟨h1, h2, h3, ⟨b, b1, b2⟩, _, ⟨c, c1, c2⟩⟩ := h
  have m := tup_more hF hT ht
  exact ⟨h1, h2, h3, ⟨b, (upd_ne h1).trans b1, b2.updL hF⟩, ⟨_, m⟩, ⟨c, (upd_ne h3.symm).trans c1, c2.updL hF⟩⟩
theorem L3.pZ {H : Hp} {F A B t : Addr} {X Y : List P3} {Z : List NP} {p : NP} {as : List Addr} (h : L3 H F A B X Y Z) (hF : H B = some (.lst (as.map V.ref))) (hT : Tup npV H as Z) (ht : H t = some (.tup (npV p))) : L3 (upd H B (.lst (as.map V.ref ++ [.ref t]))) F A B X Y (Z ++ [p]) := by
  obtain ⟨h1, h2, h3, ⟨b, b1, b2⟩, ⟨c, c1, c2⟩, _⟩ := h
  have m := tup_more hF hT ht
  exact ⟨h1, h2, h3, ⟨b, (upd_ne h2).trans b1, b2.updL hF⟩, ⟨c, (upd_ne h3).trans c1, c2.updL hF⟩, ⟨_, m⟩⟩
/-- all but these three stay -/
def K3 (F A B : Addr) (H H' : Hp) : Prop := ∀ b o, b ≠ F → b ≠ A → b ≠ B → H b = some o → H' b = some o
theorem K3.of {F A B : Addr} {H H' : Hp} (e : Same H H') : K3 F A B H H' := fun b o _ _ _ h => e b o h
theorem K3.trans {F A B : Addr} {H H1 H2 : Hp} (x : K3 F A B H H1) (y : K3 F A B H1 H2) : K3 F A B H H2 := fun b o a1 a2 a3 h => y b o a1 a2 a3 (x b o a1 a2 a3 h)
theorem K3.put {F A B D : Addr} {H : Hp} {o : HO} (h : D = F ∨ D = A ∨ D = B) : K3 F A B H (upd H D o) := fun b u a1 a2 a3 e => by
  rw [upd_ne (fun z : b = D => by
    rcases h with h | h | h
    · exact a1 (z.trans h)
    · exact a2 (z.trans h)
    · exact a3 (z.trans h))]
  exact e
theorem K3.same {F A B : Addr} {H0 H H' : Hp} (x : K3 F A B H H') (s : Same H0 H) (h1 : H0 F = none) (h2 : H0 A = none) (h3 : H0 B = none) : Same H0 H' := fun b o e => x b o (ne_of_none e h1) (ne_of_none e h2) (ne_of_none e h3) (s b o e)
end Sr
namespace Sr
open PySem PySem.Spec PyProof.Rows L2 Zs
/-! ### the three lists as data -/
def p3I (q : P3) : List Int := [(q.1 : Nat), (q.2.1 : Nat), q.2.2]
def npI (q : NP) : List Int := [(q.1 : Nat), (q.2 : Nat)]
section
variable {α : Type}
def tupsD (f : α → List Int) (L : List α) : PyData := .list (L.map fun q => PyData.tuple ((f q).map .int))
theorem dp_intsAll {K : PySem.W.Frag} {H : Hp} : ∀ ns : List Int, DpAll K H (ns.map V.int) (ns.map PyData.int)
  | [] => .nil
  | n :: ns => .cons (.int n) (dp_intsAll ns)
theorem dp_tups {K : PySem.W.Frag} {H : Hp} {v : α → List V} {f : α → List Int} (hv : ∀ q, v q = (f q).map V.int) {r : Addr} {as : List Addr} {L : List α} (h : SqL K H r (as.map V.ref)) (hT : Tup v H as L) : Dp K H (.ref r) (tupsD f L) := .lst h (Tup.dp (fun q => by rw [hv]; exact dp_intsAll _) hT)
theorem Gd_tups (f : α → List Int) (hf : ∀ q, (f q).length ≤ 100000) (L : List α) (h : L.length ≤ 100000) : Gd (tupsD f L) := by
  refine .lst _ (by rw [List.length_map]; exact h) fun d hd => ?_
  obtain ⟨q, _, rfl⟩ := List.mem_map.mp hd
  refine .tup _ (by rw [List.length_map]; exact hf q) fun e he => ?_
  obtain ⟨i, _, rfl⟩ := List.mem_map.mp he
  exact .int i
theorem depth_tups (f : α → List Int) (L : List α) : (tupsD f L).depth ≤ 3 := by
  have h : PyData.depthAll (L.map fun q => PyData.tuple ((f q).map .int)) ≤ 2 := by
    induction L with
    | nil => simp [PyData.depthAll]
    | cons q L ih =>
      rw [List.map_cons, PyData.depthAll]
      exact Nat.max_le.mpr ⟨depth_tup_ints _, ih⟩
  simp only [tupsD, PyData.depth]
  omega
theorem lay_tups (f : α → List Int) : ∀ L : List α, (tupsD f L).canLay0 = true
  | [] => by simp [tupsD, PyData.canLay0, PyData.canLayAll0]
  | q :: L => by
    have h1 := lay_tups f L
    have h2 := lay_ints (f q)
    unfold tupsD at h1 ⊢
    rw [List.map_cons]
    simp only [PyData.canLayAll0, PyData.canLay0, Bool.and_eq_true] at h1 ⊢
    exact ⟨h2, h1⟩
end
def prD (X Y : List P3) (Z : List NP) : PyData := .tuple [tupsD p3I X, tupsD p3I Y, tupsD npI Z]
theorem dp_pr {K : PySem.W.Frag} {H : Hp} {r F A B : Addr} {X Y : List P3} {Z : List NP} (hr : SqT K H r [.ref F, .ref A, .ref B]) (l : L3 H F A B X Y Z) : Dp K H (.ref r) (prD X Y Z) := by
  obtain ⟨x, x1, x2⟩ := l.x
  obtain ⟨y, y1, y2⟩ := l.y
  obtain ⟨z, z1, z2⟩ := l.z
  exact .tup hr (.cons (dp_tups (fun _ => rfl) (SqL.of x1) x2) (.cons (dp_tups (fun _ => rfl) (SqL.of y1) y2) (.cons (dp_tups (fun _ => rfl) (SqL.of z1) z2) .nil)))
theorem Gd_pr {X Y : List P3} {Z : List NP} (h1 : X.length ≤ 100000) (h2 : Y.length ≤ 100000) (h3 : Z.length ≤ 100000) : Gd (prD X Y Z) := by
  refine .tup _ (by show 3 ≤ 100000; omega) fun e he => ?_
  simp only [List.mem_cons, List.not_mem_nil, or_false] at he
  rcases he with rfl | rfl | rfl
  · exact Gd_tups p3I (fun q => by show 3 ≤ 100000; omega) _ h1
  · exact Gd_tups p3I (fun q => by show 3 ≤ 100000; omega) _ h2
  · exact Gd_tups npI (fun q => by show 2 ≤ 100000; omega) _ h3
theorem depth_pr (X Y : List P3) (Z : List NP) : (prD X Y Z).depth ≤ 4 := by
  have h1 := depth_tups p3I X
  have h2 := depth_tups p3I Y
  have h3 := depth_tups npI Z
  simp only [prD, PyData.depth, PyData.depthAll]
  omega
theorem lay_pr (X Y : List P3) (Z : List NP) : (prD X Y Z).canLay0 = true := by
  simp only [prD, PyData.canLay0, PyData.canLayAll0, lay_tups, Bool.and_true, Bool.true_and]
theorem eq_pr {K : PySem.W.Frag} {H : Hp} {r F A B r' F' A' B' : Addr} {X Y : List P3} {Z : List NP} (hr : SqT K H r [.ref F, .ref A, .ref B]) (l : L3 H F A B X Y Z) (hr' : SqT K H r' [.ref F', .ref A', .ref B']) (l' : L3 H F' A' B' X Y Z) {Q : VK} (q : Q (.bl true) H) : rEqD K (.ref r) (.ref r') H Q := by
  have sh : SeqAt.shaped (prD X Y Z) = true := by
    unfold SeqAt.shaped
    rw [Bool.and_eq_true]
    refine ⟨lay_pr X Y Z, decide_eq_true ?_⟩
    have := depth_pr X Y Z
    omega
  exact ⟨prD X Y Z, prD X Y Z, dp_pr hr l, dp_pr hr' l', sh, sh, by rw [SeqAt.eqv_refl (prD X Y Z) (lay_pr X Y Z)]; exact q⟩
theorem L3.smT {H H' : Hp} {P : Addr} {q : Str} {F A B : Addr} {X Y : List P3} {Z : List NP} (h : L3 H F A B X Y Z) (e : SmT P q H H') : L3 H' F A B X Y Z := by
  obtain ⟨h1, h2, h3, ⟨a, a1, a2⟩, ⟨b, b1, b2⟩, ⟨c, c1, c2⟩⟩ := h
  exact ⟨h1, h2, h3, ⟨a, e.lst a1, ⟨a2.1, fun j t p g1 g2 => e.tup (a2.2 j t p g1 g2)⟩⟩, ⟨b, e.lst b1, ⟨b2.1, fun j t p g1 g2 => e.tup (b2.2 j t p g1 g2)⟩⟩, ⟨c, e.lst c1, ⟨c2.1, fun j t p g1 g2 => e.tup (c2.2 j t p g1 g2)⟩⟩⟩
theorem bar_nn {sds : List (List Nat)} {g l w : Int} {z : List Nat} (h1 : Ones sds) (h : IsBar sds g l w z) : 0 ≤ w := by
  have := h.max [] (fun c hc => by cases hc) ((free_iff h1).mpr fun sd hsd p hp => by
    have := h1 sd hsd
    have e : ([] : List Nat).length = 0 := rfl
    omega)
  exact this
theorem len_all (g l told : Int) (rows : List (List Nat)) (h : rows.length ≤ 8) : (prA (fF g l told rows) rows.length rows.length).length ≤ 64 ∧ (prA (fL g l told rows) rows.length rows.length).length ≤ 64 ∧ (prA (fR g l told rows) rows.length rows.length).length ≤ 64 := by
  have hp : rows.length * rows.length ≤ 8 * 8 := Nat.mul_le_mul h h
  have a1 := prA_len (fF_len g l told rows) rows.length rows.length
  have a2 := prA_len (fL_len g l told rows) rows.length rows.length
  have a3 := prA_len (fR_len g l told rows) rows.length rows.length
  omega
theorem len_some (g l told : Int) (rows : List (List Nat)) (h : rows.length ≤ 8) {m : Nat} (hm : m ≤ 8) {k : Nat} (hk : k ≤ 8) : (prA (fF g l told rows) rows.length m ++ prI (fF g l told rows) m (m + 1) k).length ≤ 100 ∧ (prA (fL g l told rows) rows.length m ++ prI (fL g l told rows) m (m + 1) k).length ≤ 100 ∧ (prA (fR g l told rows) rows.length m ++ prI (fR g l told rows) m (m + 1) k).length ≤ 100 := by
  have hp : rows.length * m ≤ 8 * 8 := Nat.mul_le_mul h hm
  have a1 := prA_len (fF_len g l told rows) rows.length m
  have a2 := prA_len (fL_len g l told rows) rows.length m
  have a3 := prA_len (fR_len g l told rows) rows.length m
  have b1 := prI_len (fF_len g l told rows) m (m + 1) k
  have b2 := prI_len (fL_len g l told rows) m (m + 1) k
  have b3 := prI_len (fR_len g l told rows) m (m + 1) k
  rw [List.length_append, List.length_append, List.length_append]
  omega
end Sr

namespace Sr
open PySem PySem.Spec PyProof.Rows L2
/-! ### what lane tells -/
def Gw (s : Nat → Int) (n : Nat) (m : Int) : Prop := (∃ b e, b < e ∧ e ≤ n ∧ m = s e - s b) ∧ ∀ b e, b < e → e ≤ n → s e - s b ≤ m
theorem Gw.uniq {s : Nat → Int} {n : Nat} {m m' : Int} (h : Gw s n m) (h' : Gw s n m') : m = m' := by
  obtain ⟨⟨b, e, h1, h2, h3⟩, h4⟩ := h
  obtain ⟨⟨b', e', h1', h2', h3'⟩, h4'⟩ := h'
  have := h4 b' e' h1' h2'
  have := h4' b e h1 h2
  omega
open Classical in
noncomputable def gwL (s : Nat → Int) (n : Nat) : Int := if h : ∃ m, Gw s n m then h.choose else 0
theorem gwL_eq {s : Nat → Int} {n : Nat} {m : Int} (h : Gw s n m) : gwL s n = m := by
  have h' : ∃ m, Gw s n m := ⟨m, h⟩
  unfold gwL
  rw [dif_pos h']
  exact h'.choose_spec.uniq h
/-- all that ends there -/
def En (s : Nat → Int) (e : Nat) (m : Int) : Prop := (∃ b, b < e ∧ m = s e - s b) ∧ ∀ b, b < e → s e - s b ≤ m
theorem En.one (s : Nat → Int) : En s 1 (0 + (s 1 - s 0)) := ⟨⟨0, by omega, by omega⟩, fun b hb => by
  have : b = 0 := by omega
  subst this
  omega⟩
theorem En.step {s : Nat → Int} {e : Nat} {m : Int} (h : En s e m) (he : 0 < e) : En s (e + 1) ((if m > 0 then m else 0) + (s (e + 1) - s e)) := by
  obtain ⟨⟨b, hb, rfl⟩, h2⟩ := h
  refine ⟨?_, fun b' hb' => ?_⟩
  · by_cases h0 : s e - s b ≤ 0
    · rw [if_neg (by omega)]
      exact ⟨e, by omega, by omega⟩
    · rw [if_pos (by omega)]
      exact ⟨b, by omega, by omega⟩
  · have h3 : s e - s b ≤ (if s e - s b > 0 then s e - s b else 0) ∧ 0 ≤ (if s e - s b > 0 then s e - s b else 0) := by
      by_cases h0 : s e - s b > 0
      · rw [if_pos h0]; omega
      · rw [if_neg h0]; omega
    by_cases e' : b' = e
    · subst e'; omega
    · have := h2 b' (by omega)
      omega
theorem Gw.of {s : Nat → Int} {n : Nat} {ws : List Int} (hl : ws.length = n) (h : ∀ k m, ws[k]? = some m → En s (k + 1) m) {m : Int} (hm : m ∈ ws) (hx : ∀ y ∈ ws, y ≤ m) : Gw s n m := by
  obtain ⟨k, hk⟩ := List.getElem?_of_mem hm
  have hkl := (List.getElem?_eq_some_iff.mp hk).1
  obtain ⟨b, hb, e⟩ := (h k m hk).1
  refine ⟨⟨b, k + 1, hb, by omega, e⟩, fun b' e' h1 h2 => ?_⟩
  have h3 : ws[e' - 1]? = some (ws[e' - 1]'(by omega)) := List.getElem?_eq_getElem (by omega)
  have h4 := (h _ _ h3).2 b' (by omega)
  rw [show e' - 1 + 1 = e' by omega] at h4
  have h5 := hx _ (List.mem_of_getElem? h3)
  omega
/-- of the ripe ones -/
theorem RL.gw {s : Nat → Int} {n : Nat} {L : List (Nat × Nat)} (h : RL s n L) {m : Int} (hp : ∃ i j, i < j ∧ j ≤ n ∧ s i < s j) (hm : (∃ p ∈ L, m = s p.2 - s p.1) ∨ m = 0) (hx : ∀ p ∈ L, s p.2 - s p.1 ≤ m) : Gw s n m := by
  obtain ⟨i, j, h1, h2, h3⟩ := hp
  obtain ⟨p, hpL, h4⟩ := h.best h1 h2 h3
  have h5 := hx p hpL
  refine ⟨?_, fun b e hb he => ?_⟩
  · rcases hm with ⟨q, hq, rfl⟩ | rfl
    · have r := (h.ripe q hq).1
      exact ⟨q.1, q.2, r.1, (h.ripe q hq).2.1, rfl⟩
    · omega
  · by_cases hd : s b < s e
    · obtain ⟨p', hp', h6⟩ := h.best hb he hd
      have := hx p' hp'
      omega
    · omega
def ulH (sd z : List Nat) (p : Nat) : Nat := (ulL sd z p).head?.getD 0
def uwP (sd z : List Nat) (f m : Nat) : List Int := (List.range m).map fun p => ((f + (p + ulH sd z p) : Nat) : Int)
def uwL (sds : List (List Nat)) (z : List Nat) (f m : Nat) : List Int := (List.range m).flatMap fun k => uwP (sds[k]?.getD []) z f (((z.length : Int) - ((sds[k]?.getD []).length : Int) + 1).toNat)
theorem uwP_succ (sd z : List Nat) (f m : Nat) : uwP sd z f (m + 1) = uwP sd z f m ++ [((f + (m + ulH sd z m) : Nat) : Int)] := by
  unfold uwP
  rw [List.range_succ, List.map_append]
  rfl
theorem uwL_succ (sds : List (List Nat)) (z : List Nat) (f m : Nat) : uwL sds z f (m + 1) = uwL sds z f m ++ uwP (sds[m]?.getD []) z f (((z.length : Int) - ((sds[m]?.getD []).length : Int) + 1).toNat) := by
  unfold uwL
  rw [List.range_succ, List.flatMap_append]
  simp
theorem uwP_len (sd z : List Nat) (f m : Nat) : (uwP sd z f m).length = m := by
  unfold uwP
  rw [List.length_map, List.length_range]
theorem uwL_len {sds : List (List Nat)} {z : List Nat} {f : Nat} (h : z.length ≤ 1000) : ∀ m, (uwL sds z f m).length ≤ 1001 * m
  | 0 => Nat.le_refl _
  | m + 1 => by
    rw [uwL_succ, List.length_append, uwP_len]
    have := uwL_len (sds := sds) (f := f) h m
    omega
theorem ulL_head {sds : List (List Nat)} {z : List Nat} (h1 : Ones sds) (hf : seededB sds z = false) {sd : List Nat} (hsd : sd ∈ sds) {p : Nat} (hp : p + sd.length ≤ z.length) : (ulL sd z p)[0]? = some (ulH sd z p) := by
  obtain ⟨k, hk, e1, e2⟩ := (free_iff h1).mp hf sd hsd p hp
  have hm : k ∈ ulL sd z p := by
    unfold ulL
    exact List.mem_filter.mpr ⟨List.mem_range.mpr hk, by unfold ulK; rw [decide_eq_true e1, decide_eq_true e2]; rfl⟩
  unfold ulH
  cases e : ulL sd z p with
  | nil => rw [e] at hm; cases hm
  | cons a l => rfl
open Classical in
noncomputable def papD (g l told : Int) (sds : List (List Nat)) (o t : List Nat) (d : Int) : PyData :=
  if rchL g l told o t d = [] then
    if seededB sds (likL o t d) = true then .tuple [.str "low", .int (gwL (lev g l (likL o t d)) (likL o t d).length)]
    else .tuple [.str "unseeded", .list ((uwL sds (likL o t d) (bgn d) sds.length).map .int)]
  else .tuple [.str "reaches", .list ((rchL g l told o t d).map fun q => PyData.tuple (triD q))]
end Sr
namespace L2
section
open PySem PySem.Spec PyProof.Rows
variable {J : It} {n : Nat} {G : Hp → Prop} {Y : Nat → Hp → V → Hp → Prop}
theorem lo_it (w : Walk J n G Y) (Pv : Nat → Hp → Prop) {H0 : Hp} {Qd : Hp → Prop} {body : (Hp → Prop) → V → Hp → Prop} (h0 : Pv 0 H0) (hG : ∀ i H, i ≤ n → Pv i H → G H)
    (hs : ∀ i x H H', i < n → Pv i H → Y i H x H' → body (Pv (i + 1)) x H') (hd : ∀ H, Pv n H → Qd H) :
    ∃ W : Nat → Nat → Hp → Prop, (∃ m, W 0 m H0) ∧ ∀ i m H, W i m H →
      (J.stop i H ∧ Qd H) ∨ (J.go i H ∧ ∃ Nx : Hp → Prop, (∀ H', Nx H' → ∃ m', m' < m ∧ W (i + 1) m' H') ∧ ∀ x H', J.yld i H x H' → body Nx x H') := by
  refine ⟨fun i m H => m = n - i ∧ i ≤ n ∧ Pv i H, ⟨n, by simp, Nat.zero_le _, h0⟩, ?_⟩
  rintro i m H ⟨rfl, hi, p⟩
  have q := hG i H hi p
  by_cases hlt : i < n
  · refine .inr ⟨w.goes i H hlt q, Pv (i + 1), fun H' p' => ⟨n - (i + 1), by omega, rfl, hlt, p'⟩, fun x H' y => hs i x H H' hlt p (w.yields i H x H' hlt q y)⟩
  · have e : i = n := by omega
    subst e
    exact .inl ⟨w.stops H q, hd H p⟩
variable {σ : St} {H : Hp} {Q : VK} {wi wi1 : TI} {g g1 : TG} {tt tt1 : TT} {te : TE} {vs vs1 : List Nat}
theorem x_lc2 (q : wi σ H fun J H1 => ∀ D, H1 D = none → ∃ W : Nat → Nat → Hp → Prop, (∃ m, W 0 m (upd H1 D (.lst []))) ∧ ∀ i m H, W i m H →
  (J.stop i H ∧ Q (.ref D) H) ∨ (J.go i H ∧ ∃ Nx : Hp → Prop, (∀ H', Nx H' → ∃ m', m' < m ∧ W (i + 1) m' H') ∧ ∀ x H', J.yld i H x H' → g x (wipe σ vs) H' fun σ2 H2 => wipe σ2 vs = wipe σ vs ∧ tt σ2 H2 fun b H3 =>
    if b = true then wi1 σ2 H3 fun J1 H4 => ∃ W1 : Nat → Nat → Hp → Prop, (∃ m, W1 0 m H4) ∧ ∀ j k H, W1 j k H →
      (J1.stop j H ∧ Nx H) ∨ (J1.go j H ∧ ∃ Nx1 : Hp → Prop, (∀ H', Nx1 H' → ∃ k', k' < k ∧ W1 (j + 1) k' H') ∧ ∀ x H', J1.yld j H x H' → g1 x (wipe σ2 vs1) H' fun σ3 H5 => wipe σ3 vs1 = wipe σ2 vs1 ∧ tt1 σ3 H5 fun b H6 =>
        if b = true then te σ3 H6 fun y H7 => ∃ acc, H7 D = some (.lst acc) ∧ acc.length < sizeLine ∧ Nx1 (upd H7 D (.lst (acc ++ [y]))) else Nx1 H6)
    else Nx H3)) : tLc2 wi g tt wi1 g1 tt1 te vs vs1 σ H Q := q
end
end L2
namespace Sr
open PySem PySem.Spec PyProof.Rows L2
theorem Same.none {H H' : Hp} {b : Addr} (sm : Same H H') (h : H' b = none) : H b = none := by
  cases e : H b with
  | none => rfl
  | some o => rw [sm b o e] at h; cases h
theorem dp_tri {K : PySem.W.Frag} {H : Hp} (p : Tri) : DpAll K H (triV p) (triD p) := .cons (.int _) (.cons (.int _) (.cons (.int _) .nil))
theorem dp_intL {K : PySem.W.Frag} {H : Hp} : ∀ (ns : List Int), DpAll K H (ns.map V.int) (ns.map PyData.int)
  | [] => .nil
  | n :: ns => .cons (.int n) (dp_intL ns)
/-- where a seed fits there is a like pair -/
theorem seeded_up {sds : List (List Nat)} {z : List Nat} {g l : Int} (h1 : ∀ sd ∈ sds, Sd 8 sd) (hz : Lk z) (hg : 1 ≤ g) (h : seededB sds z = true) : ∃ i j, i < j ∧ j ≤ z.length ∧ lev g l z i < lev g l z j := by
  unfold seededB at h
  obtain ⟨sd, hsd, h2⟩ := List.any_eq_true.mp h
  obtain ⟨p, hp, h3⟩ := List.any_eq_true.mp h2
  have hs := h1 sd hsd
  obtain ⟨_, h5, h6⟩ := (fitsB_iff hs.one).mp h3
  have h1' := hs.one
  have hpl : p < z.length := by omega
  have e : ((p : Nat) : Int).toNat = p := by omega
  have h7 := h6 0 h1'
  rw [e, Nat.add_zero, List.getElem?_eq_getElem hpl] at h7
  have h8 : ¬ z[p] = 47 := fun q => h7 ⟨hs.first, by rw [q]⟩
  have h9 : z[p] = 61 := (hz _ (List.getElem_mem hpl)).resolve_right h8
  refine ⟨p, p + 1, by omega, by omega, ?_⟩
  rw [lev_succ g l hpl, if_pos h9]
  omega
theorem Gw.exists {s : Nat → Int} : ∀ {n : Nat}, 0 < n → ∃ m, Gw s n m := by
  intro n hn
  have key : ∀ n, 0 < n → ∃ m, En s n m := by
    intro n
    induction n with
    | zero => intro h; omega
    | succ n ih =>
      intro _
      by_cases h : n = 0
      · subst h; exact ⟨_, En.one s⟩
      · obtain ⟨m, hm⟩ := ih (by omega)
        exact ⟨_, hm.step (by omega)⟩
  induction n with
  | zero => omega
  | succ n ih =>
    obtain ⟨m, hm⟩ := key (n + 1) (by omega)
    by_cases h : n = 0
    · subst h
      obtain ⟨⟨b, hb, e⟩, h2⟩ := hm
      exact ⟨m, ⟨b, 1, hb, by omega, e⟩, fun b' e' h3 h4 => by
        have : e' = 1 := by omega
        subst this
        exact h2 b' h3⟩
    · obtain ⟨m', ⟨b', e', h1, h2, h3⟩, h4⟩ := ih (by omega)
      obtain ⟨⟨b, hb, e⟩, h5⟩ := hm
      by_cases hc : m ≤ m'
      · refine ⟨m', ⟨b', e', h1, by omega, h3⟩, fun x y hxy hy => ?_⟩
        by_cases hyn : y = n + 1
        · subst hyn; have := h5 x hxy; omega
        · exact h4 x y hxy (by omega)
      · refine ⟨m, ⟨b, n + 1, hb, by omega, e⟩, fun x y hxy hy => ?_⟩
        by_cases hyn : y = n + 1
        · subst hyn; exact h5 x hxy
        · have := h4 x y hxy (by omega); omega
end Sr
namespace Sr
open PySem PySem.Spec PyProof.Rows L2
theorem cutV_take' (xs : List V) (k : Nat) : cutV xs none (some (k : Int)) = xs.take k := by
  unfold cutV
  have e0 : HT.sIx xs.length 0 none = 0 := rfl
  have e1 : HT.sIx xs.length xs.length (some (k : Int)) = min k xs.length := HT.sIx_nat _ _ _
  rw [e0, e1, List.drop_zero, Nat.sub_zero]
  by_cases h : k ≤ xs.length
  · rw [Nat.min_eq_left h]
  · rw [Nat.min_eq_right (by omega), List.take_of_length_le (Nat.le_refl _), List.take_of_length_le (by omega)]
theorem no_grow' {sds : List (List Nat)} {m : Nat} (h1 : Ones sds) (hm : 1 ≤ m) (hm9 : m ≤ 10) (hin : ones m ∈ sds) : ¬ Grows sds 1 9 := fun hg => by
  obtain ⟨z, hz, hf, hw⟩ := hg m
  have hf1 : Free [ones m] z := by
    rw [free_iff h1] at hf
    rw [free_iff (one_ones hm)]
    intro sd hsd
    rw [List.mem_singleton.mp hsd]
    exact hf _ hin
  have := (HB.row hm).bound 1 9 (by omega) (by omega) (by omega) z hz hf1
  omega
end Sr
namespace Sr
open PySem PySem.Spec PyProof.Rows L2
theorem lay_tris' : ∀ (L : List Tri), PyData.canLayAll0 (L.map fun q => PyData.tuple (triD q)) = true
  | [] => by simp [PyData.canLayAll0]
  | q :: L => by
    rw [List.map_cons]
    simp only [triD, triI, List.map, PyData.canLayAll0, PyData.canLay0, Bool.and_eq_true, Bool.true_and, Bool.and_true]
    exact lay_tris' L
theorem lay_ints' : ∀ (L : List Int), PyData.canLayAll0 (L.map PyData.int) = true
  | [] => by simp [PyData.canLayAll0]
  | q :: L => by
    rw [List.map_cons]
    simp only [PyData.canLayAll0, PyData.canLay0, Bool.true_and]
    exact lay_ints' L
theorem depth_tris' : ∀ (L : List Tri), PyData.depthAll (L.map fun q => PyData.tuple (triD q)) ≤ 2
  | [] => by simp [PyData.depthAll]
  | q :: L => by
    rw [List.map_cons, PyData.depthAll]
    refine Nat.max_le.mpr ⟨?_, depth_tris' L⟩
    simp only [triD, triI, List.map, PyData.depth, PyData.depthAll]
    omega
theorem depth_intsA : ∀ (L : List Int), PyData.depthAll (L.map PyData.int) ≤ 2
  | [] => by simp [PyData.depthAll]
  | q :: L => by
    rw [List.map_cons, PyData.depthAll]
    refine Nat.max_le.mpr ⟨?_, depth_intsA L⟩
    simp only [PyData.depth]
    omega
theorem pap_lay {g l told : Int} {sds : List (List Nat)} {o t : List Nat} {d : Int} : (papD g l told sds o t d).canLay0 = true ∧ (papD g l told sds o t d).depth ≤ 5 := by
  unfold papD
  split
  · split
    · refine ⟨?_, ?_⟩
      · simp only [PyData.canLay0, PyData.canLayAll0, Bool.and_true, Bool.and_eq_true]
        decide +kernel
      · simp only [PyData.depth, PyData.depthAll]
        omega
    · refine ⟨?_, ?_⟩
      · simp only [PyData.canLay0, PyData.canLayAll0, Bool.and_true, Bool.and_eq_true]
        exact ⟨by decide +kernel, lay_ints' _⟩
      · have := depth_intsA (uwL sds (likL o t d) (bgn d) sds.length)
        simp only [PyData.depth, PyData.depthAll]
        omega
  · refine ⟨?_, ?_⟩
    · simp only [PyData.canLay0, PyData.canLayAll0, Bool.and_true, Bool.and_eq_true]
      exact ⟨by decide +kernel, lay_tris' _⟩
    · have := depth_tris' (rchL g l told o t d)
      simp only [PyData.depth, PyData.depthAll]
      omega
theorem pap_shaped {g l told : Int} {sds : List (List Nat)} {o t : List Nat} {d : Int} : SeqAt.shaped (papD g l told sds o t d) = true := by
  obtain ⟨h1, h2⟩ := pap_lay (g := g) (l := l) (told := told) (sds := sds) (o := o) (t := t) (d := d)
  unfold SeqAt.shaped
  rw [Bool.and_eq_true]
  exact ⟨h1, decide_eq_true (by omega)⟩
theorem pap_ne {K : PySem.W.Frag} {H : Hp} {x y : V} {g l told : Int} {sds : List (List Nat)} {o t : List Nat} {d : Int} (hx : Dp K H x (papD g l told sds o t d)) (hy : Dp K H y (papD g l told sds o t d)) {Q : VK} (q : Q (.bl false) H) : rNeD K x y H Q :=
  ⟨_, _, hx, hy, pap_shaped, pap_shaped, by rw [SeqAt.eqv_refl _ pap_lay.1]; exact q⟩
theorem pap_gd {g l told : Int} {sds : List (List Nat)} {o t : List Nat} {d : Int} (ho : o.length ≤ 1000) (hs : sds.length ≤ 3) : Gd (papD g l told sds o t d) := by
  have hl := likL_le o t d
  unfold papD
  split
  · split
    · refine .tup _ (show 2 ≤ 100000 by omega) fun e he => ?_
      simp only [List.mem_cons, List.not_mem_nil, or_false] at he
      rcases he with rfl | rfl
      · exact .str _
      · exact .int _
    · refine .tup _ (show 2 ≤ 100000 by omega) fun e he => ?_
      simp only [List.mem_cons, List.not_mem_nil, or_false] at he
      rcases he with rfl | rfl
      · exact .str _
      · refine .lst _ ?_ fun d' hd' => ?_
        · rw [List.length_map]
          have := uwL_len (sds := sds) (z := likL o t d) (f := bgn d) (by omega) sds.length
          omega
        · obtain ⟨n, _, rfl⟩ := List.mem_map.mp hd'
          exact .int _
  · refine .tup _ (show 2 ≤ 100000 by omega) fun e he => ?_
    simp only [List.mem_cons, List.not_mem_nil, or_false] at he
    rcases he with rfl | rfl
    · exact .str _
    · refine .lst _ ?_ fun d' hd' => ?_
      · rw [List.length_map]
        have := rchL_len g l told o t d
        omega
      · obtain ⟨n, _, rfl⟩ := List.mem_map.mp hd'
        refine .tup _ (show 3 ≤ 100000 by omega) fun e he => ?_
        simp only [triD, triI, List.map, List.mem_cons, List.not_mem_nil, or_false] at he
        rcases he with rfl | rfl | rfl <;> exact .int _
theorem neT_nil {K : PySem.W.Frag} {H : Hp} {D p : Addr} {as : List Addr} {L : List Tri} (hD : H D = some (.lst (as.map V.ref))) (hT : Tup triV H as L) (hp : H p = some (.lst [])) {Q : VK} (q : Q (.bl (!L.isEmpty)) H) : rNeD K (.ref D) (.ref p) H Q := by
  refine ⟨.list (L.map fun q => PyData.tuple (triD q)), .list [], .lst (SqL.of hD) (Tup.dp dp_tri hT), .lst (SqL.of hp) .nil, ?_, by decide +kernel, ?_⟩
  · unfold SeqAt.shaped
    rw [Bool.and_eq_true]
    refine ⟨lay_tris' L, decide_eq_true ?_⟩
    have := depth_tris' L
    simp only [PyData.depth]
    omega
  · cases L with
    | nil => exact q
    | cons a L => exact q
section
variable {K : PySem.W.Frag} {H H' : Hp} {P : Addr} {qq : Str}
mutual
theorem Dp_smT (e : SmT P qq H H') : ∀ (d : PyData) (v : V), Dp K H v d → Dp K H' v d
  | .none, _, h => by cases h; exact .non
  | .bool b, _, h => by cases h; exact .bl b
  | .int i, _, h => by cases h; exact .int i
  | .str x, _, h => by cases h; exact .str x
  | .list ds, _, h => by
    cases h with
    | lst hs ha => exact .lst (e.seq hs) (DpAll_smT e ds _ ha)
  | .tuple ds, _, h => by
    cases h with
    | tup hs ha => exact .tup (e.seqT hs) (DpAll_smT e ds _ ha)
  | .dict _, _, h => by cases h
theorem DpAll_smT (e : SmT P qq H H') : ∀ (ds : List PyData) (vs : List V), DpAll K H vs ds → DpAll K H' vs ds
  | [], _, h => by cases h; exact .nil
  | d :: ds, _, h => by
    cases h with
    | cons h1 h2 => exact .cons (Dp_smT e d _ h1) (DpAll_smT e ds _ h2)
end
end
end Sr
namespace Sr
theorem best_step {f : Nat × Nat → Int} {M : List (Nat × Nat)} {p : Nat × Nat} {w bst : Int} (hw : w = f p) (h1 : (∃ q ∈ M, bst = f q) ∨ bst = 0) (h2 : ∀ q ∈ M, f q ≤ bst) :
    ((∃ q ∈ M ++ [p], (if w > bst then w else bst) = f q) ∨ (if w > bst then w else bst) = 0) ∧ ∀ q ∈ M ++ [p], f q ≤ (if w > bst then w else bst) := by
  by_cases h : w > bst
  · rw [if_pos h]
    refine ⟨.inl ⟨p, by simp, hw⟩, fun q hq => ?_⟩
    rcases List.mem_append.mp hq with h3 | h3
    · have := h2 q h3; omega
    · rw [List.mem_singleton.mp h3]; omega
  · rw [if_neg h]
    refine ⟨?_, fun q hq => ?_⟩
    · rcases h1 with ⟨q, hq, e⟩ | e
      · exact .inl ⟨q, List.mem_append.mpr (.inl hq), e⟩
      · exact .inr e
    · rcases List.mem_append.mp hq with h3 | h3
      · exact h2 q h3
      · rw [List.mem_singleton.mp h3]; omega
end Sr

namespace Sr
open PySem PySem.Spec PyProof.Rows L2
/-- lists of numbers under addresses -/
def Lsn (H : Hp) (bs : List Addr) (U : List (List Int)) : Prop := bs.length = U.length ∧ ∀ (j : Nat) (b : Addr) (u : List Int), bs[j]? = some b → U[j]? = some u → H b = some (.lst (u.map V.int))
theorem Lsn.nil {H : Hp} : Lsn H [] [] := ⟨rfl, fun j b u h => by simp at h⟩
theorem Lsn.same {H H' : Hp} {bs : List Addr} {U : List (List Int)} (h : Lsn H bs U) (e : Same H H') : Lsn H' bs U := ⟨h.1, fun j b u h1 h2 => e _ _ (h.2 j b u h1 h2)⟩
theorem Lsn.k1 {H H' : Hp} {D : Addr} {bs : List Addr} {U : List (List Int)} (h : Lsn H bs U) (hD : D ∉ bs) (e : K1 D H H') : Lsn H' bs U := ⟨h.1, fun j b u h1 h2 => e _ _ (fun q => hD (q ▸ List.mem_of_getElem? h1)) (h.2 j b u h1 h2)⟩
theorem Lsn.snoc {H : Hp} {bs : List Addr} {U : List (List Int)} {a : Addr} {u : List Int} (h : Lsn H bs U) (ha : H a = some (.lst (u.map V.int))) : Lsn H (bs ++ [a]) (U ++ [u]) := ⟨by rw [List.length_append, List.length_append, h.1]; rfl, fun j b q h1 h2 => by
  by_cases hj : j < bs.length
  · rw [List.getElem?_append_left hj] at h1
    rw [List.getElem?_append_left (by rw [← h.1]; exact hj)] at h2
    exact h.2 j b q h1 h2
  · rw [List.getElem?_append_right (by omega)] at h1
    rw [List.getElem?_append_right (by rw [← h.1]; omega)] at h2
    rw [← h.1] at h2
    have e0 : j - bs.length = 0 := by
      have := (List.getElem?_eq_some_iff.mp h1).1
      simp at this
      omega
    rw [e0] at h1 h2
    obtain rfl : a = b := by simpa using h1
    obtain rfl : u = q := by simpa using h2
    exact ha⟩
def upP (sd z : List Nat) (f m : Nat) : List (List Int) := (List.range m).map fun p => (ulL sd z p).map fun k => ((f + (p + k) : Nat) : Int)
def upL (sds : List (List Nat)) (z : List Nat) (f m : Nat) : List (List Int) := (List.range m).flatMap fun k => upP (sds[k]?.getD []) z f (((z.length : Int) - ((sds[k]?.getD []).length : Int) + 1).toNat)
theorem upP_succ (sd z : List Nat) (f m : Nat) : upP sd z f (m + 1) = upP sd z f m ++ [(ulL sd z m).map fun k => ((f + (m + k) : Nat) : Int)] := by
  unfold upP
  rw [List.range_succ, List.map_append]
  rfl
theorem upL_succ (sds : List (List Nat)) (z : List Nat) (f m : Nat) : upL sds z f (m + 1) = upL sds z f m ++ upP (sds[m]?.getD []) z f (((z.length : Int) - ((sds[m]?.getD []).length : Int) + 1).toNat) := by
  unfold upL
  rw [List.range_succ, List.flatMap_append]
  simp
theorem upP_len (sd z : List Nat) (f m : Nat) : (upP sd z f m).length = m := by
  unfold upP
  rw [List.length_map, List.length_range]
theorem upL_len {sds : List (List Nat)} {z : List Nat} {f : Nat} (h : z.length ≤ 1000) : ∀ m, (upL sds z f m).length ≤ 1001 * m
  | 0 => Nat.le_refl _
  | m + 1 => by
    rw [upL_succ, List.length_append, upP_len]
    have := upL_len (sds := sds) (f := f) h m
    omega
/-- the first of each list, where no seed fits -/
theorem up_head {sds : List (List Nat)} {z : List Nat} {f : Nat} (h1 : Ones sds) (hf : seededB sds z = false) : ∀ m, m ≤ sds.length → uwL sds z f m = (upL sds z f m).map (fun u => u.head?.getD 0) ∧ ∀ u ∈ upL sds z f m, u ≠ []
  | 0, _ => ⟨rfl, fun u hu => by cases hu⟩
  | m + 1, hm => by
    obtain ⟨i1, i2⟩ := up_head (f := f) h1 hf m (by omega)
    have hk : sds[m]? = some sds[m] := List.getElem?_eq_getElem (by omega)
    rw [uwL_succ, upL_succ, hk, List.map_append, i1]
    dsimp only [Option.getD_some]
    have key : ∀ p, p < (((z.length : Int) - (sds[m].length : Int) + 1).toNat) → (ulL sds[m] z p)[0]? = some (ulH sds[m] z p) := fun p hp => ulL_head h1 hf (List.getElem_mem (by omega)) (by omega)
    refine ⟨?_, fun u hu => ?_⟩
    · congr 1
      unfold uwP upP
      rw [List.map_map]
      refine List.map_congr_left fun p hp => ?_
      have := key p (List.mem_range.mp hp)
      show _ = ((List.map _ _).head?).getD 0
      rw [List.head?_eq_getElem?, List.getElem?_map, this]
      rfl
    · rcases List.mem_append.mp hu with h | h
      · exact i2 u h
      · unfold upP at h
        obtain ⟨p, hp, rfl⟩ := List.mem_map.mp h
        have := key p (List.mem_range.mp hp)
        intro e
        have e2 : ulL sds[m] z p = [] := List.map_eq_nil_iff.mp e
        rw [e2] at this
        cases this
end Sr

namespace Sr
open PySem PySem.Spec PyProof.Rows L2
/-- each one in the list that is in its turn -/
def inB (P : List Int) (U : List (List Int)) (i : Nat) : Bool := decide (P[i]?.getD 0 ∈ U[i]?.getD [])
def underB (P : List Int) (U : List (List Int)) : Bool := decide (P.length = U.length) && (List.range P.length).all (inB P U)
end Sr
namespace L2
open PySem PySem.Spec PyProof.Rows
theorem x_iZip {K : PySem.W.Frag} {t : TA} {σ : L2.St} {H : Hp} {R : It → Hp → Prop} (q : t σ H fun vs H1 => ∃ a b xs ys, vs = [.ref a, .ref b] ∧ SqL K H1 a xs ∧ SqL K H1 b ys ∧ R (Itz K a b) H1) : iZip K t σ H R := q
theorem inV_int (x : Int) : ∀ ns : List Int, inV (.int x) (ns.map V.int) = decide (x ∈ ns)
  | [] => rfl
  | n :: ns => by
    have ih := inV_int x ns
    unfold inV at ih ⊢
    rw [List.map_cons, List.any_cons, ih]
    show ((n == x) || _) = _
    by_cases h : n = x
    · subst h
      simp
    · have h' : ¬ x = n := fun e => h e.symm
      simp [h, h']
theorem flat_ints : ∀ ns : List Int, (ns.map V.int).all flatV = true
  | [] => rfl
  | _ :: ns => by rw [List.map_cons, List.all_cons, flat_ints ns]; rfl
end L2
namespace Sr
open PySem PySem.Spec PyProof.Rows L2
/-- a paper, and how it lies in the heap -/
inductive Pap where
  | re (L : List Tri)
  | lo (m : Int)
  | un (L : List Int)
def PapAt (H : Hp) (p : Addr) : Pap → Prop
  | .re L => ∃ (D : Addr) (as : List Addr), H p = some (.tup [.str "reaches", .ref D]) ∧ H D = some (.lst (as.map V.ref)) ∧ Tup triV H as L
  | .lo m => H p = some (.tup [.str "low", .int m])
  | .un L => ∃ D : Addr, H p = some (.tup [.str "unseeded", .ref D]) ∧ H D = some (.lst (L.map V.int))
open Classical in
/-- what lane tells -/
noncomputable def papP (g l told : Int) (sds : List (List Nat)) (o t : List Nat) (d : Int) : Pap :=
  if rchL g l told o t d = [] then
    if seededB sds (likL o t d) = true then .lo (gwL (lev g l (likL o t d)) (likL o t d).length)
    else .un (uwL sds (likL o t d) (bgn d) sds.length)
  else .re (rchL g l told o t d)
end Sr
namespace Sr
open PySem PySem.Spec PyProof.Rows L2
open Classical in
/-- what shows tells of a paper -/
noncomputable def shB (g l told : Int) (sds : List (List Nat)) (o t : List Nat) (d : Int) (P : Pap) : Bool :=
  match papP g l told sds o t d, P with
  | .re L, .re M => decide (M = L)
  | .lo m, .lo k => decide (m ≤ k ∧ k < told)
  | .un _, .un M => underB M (upL sds (likL o t d) (bgn d) sds.length)
  | _, _ => false
def Pap.few : Pap → Prop
  | .re L => L.length ≤ 10000
  | .lo _ => True
  | .un L => L.length ≤ 10000
end Sr
namespace Sr
open PySem PySem.Spec PyProof.Rows L2
theorem eqv_tri (p q : Tri) : PyData.eqv (.tuple (triD p)) (.tuple (triD q)) = decide (p = q) := by
  obtain ⟨a, b, c⟩ := p
  obtain ⟨a', b', c'⟩ := q
  simp only [triD, triI, List.map, PyData.eqv, PyData.eqvAll, Prod.mk.injEq]
  by_cases h1 : a = a' <;> by_cases h2 : b = b' <;> by_cases h3 : c = c' <;> simp [h1, h2, h3]
theorem eqvAll_tris : ∀ M L : List Tri, PyData.eqvAll (M.map fun q => PyData.tuple (triD q)) (L.map fun q => PyData.tuple (triD q)) = decide (M = L)
  | [], [] => by simp [PyData.eqvAll]
  | [], q :: L => by simp [PyData.eqvAll]
  | p :: M, [] => by simp [PyData.eqvAll]
  | p :: M, q :: L => by
    rw [List.map_cons, List.map_cons]
    simp only [PyData.eqvAll]
    rw [eqv_tri, eqvAll_tris M L]
    by_cases h1 : p = q <;> by_cases h2 : M = L <;> simp [h1, h2]
theorem eq_tris {K : PySem.W.Frag} {H : Hp} {D D' : Addr} {as as' : List Addr} {M L : List Tri} (h : H D = some (.lst (as.map V.ref))) (hT : Tup triV H as M) (h' : H D' = some (.lst (as'.map V.ref))) (hT' : Tup triV H as' L) {Q : VK} (q : Q (.bl (decide (M = L))) H) : rEqD K (.ref D) (.ref D') H Q := by
  have sh : ∀ L : List Tri, SeqAt.shaped (.list (L.map fun q => PyData.tuple (triD q))) = true := fun L => by
    unfold SeqAt.shaped
    rw [Bool.and_eq_true]
    refine ⟨lay_tris' L, decide_eq_true ?_⟩
    have := depth_tris' L
    simp only [PyData.depth]
    omega
  refine ⟨_, _, .lst (SqL.of h) (Tup.dp dp_tri hT), .lst (SqL.of h') (Tup.dp dp_tri hT'), sh M, sh L, ?_⟩
  have e : PyData.eqv (.list (M.map fun q => PyData.tuple (triD q))) (.list (L.map fun q => PyData.tuple (triD q))) = decide (M = L) := by
    rw [← eqvAll_tris]
    simp only [PyData.eqv]
  rw [e]
  exact q
end Sr

namespace L2
open PySem PySem.Spec PyProof.Rows
/-! ### an own exception under ValueError whose __init__ says super().__init__(text), then self.bar = bar -/
/-- more objects, none of which is told -/
theorem Inv.moreObjs {X : Cx} {pins : List (Addr × Obj)} {σ : St} {H : Hp} {h h' : Heap} {g : Array GenState} {d : Drawn} {t t' : Nat} {os : OsState} (I : Inv X pins σ H ⟨h, g, d, t, os⟩) (k : ∀ b o, h.get? b = some o → h'.get? b = some o) : Inv X pins σ H ⟨h', g, d, t', os⟩ :=
  I.un (t' := t') (Un.kept k) (I.hok.kept k)
section
variable {prog : Program} {w : World} {A : Around} {E : Value → Shared → Prop} {h : Heap} {g : Array GenState} {d : Drawn} {t : Nat} {os : OsState}
/-- the bound ValueError.__init__ called: only the exception's own fields change -/
theorem call_veWrap {nm q : Str} {C N u e t0 : Addr} {bs bm sub : List Value} {sn : List Str} {hdct ab : Bool} {col : Option Bool} {dd : Option Addr} {k0 k1 k2 k3 k5 : Option Value} {rest : List Value} {Q : Value → Shared → Prop}
    (hC : h.get? C = some (excClassObj nm q C N bs bm hdct sn sub ab col dd k0 k1 k2 k3 k5 "ValueError.__new__")) (he : h.get? e = some (PySem.W.excObj C t0 none .none)) (hu : h.get? u = some (PySem.W.kxs_mw "ValueError.__init__" e)) (hrest : rest.length ≤ sizeLine)
    (fin : ∀ h', (∀ b o, b ≠ e → h.get? b = some o → h'.get? b = some o) → h'.get? e = some (PySem.W.excObj C h.objs.size none .none) → Q .none ⟨h', g, d, t, os⟩) :
    wpAny (model prog w) A (call (.ref u) rest) Q E ⟨h, g, d, t, os⟩ := by
  have FV := F.excBase_ValueError
  refine wpAny_call (codeAny_of_tree ?_)
  show wpAny (model prog w) A.in1 (callAny (.ref u) ⟨rest, []⟩) _ _ _
  simp only [callAny]
  refine wpAny_bind (wpAny_load hu ?_)
  simp only [PySem.W.kxs_mw, show (Value.type "method-wrapper" == Value.type "method" || Value.type "method-wrapper" == Value.type "builtin_function_or_method" || Value.type "method-wrapper" == Value.type "method-wrapper") = true from by decide, if_true]
  refine PySem.W.KFB.if_so (by decide) ?_
  refine wpAny_bind (PySem.W.check_bound_init FV.toExcCallFacts hC he rfl ?_)
  refine wpAny_bind (wpAny_pure (wpAny_pure ⟨plainId_quiet FV.init.plain _, codeAny_builtin FV.initEntry ?_⟩))
  rw [Around.under_plainId FV.init.plain _]
  exact PySem.W.exc_init_tree (cls := .ref C) (t0 := t0) (dv := none) (c2 := .none) (c3 := .none) (b4 := .bool false) he hrest fun h' k1 k2 _ => fin h' k1 k2
end
/-- what TooLow's own words are -/
structure TlF (K : PySem.W.Frag) (mg : Str → Option Value) (C fI cc cda : Addr) (sc : Scope) (file : Str) : Prop where
  sup : mg "super" = none
  thp : PySem.W.nsIn K cStatics "thirdparty.any" = some none
  cell : ∃ cl cld csl, K.lookup cc = some ⟨cl, cld, .cell (some (.ref C)), csl⟩
  code : ∃ ccl cdd vs ccs tf, K.lookup cda = some ⟨ccl, cdd, .fields vs, ccs⟩ ∧ vs[2]? = some (.str file tf)
  along : PySem.W.ks_superIn K C C "__init__" = some (some (.builtin "ValueError.__init__"))
  subV : PySem.W.subIn K (.ref C) (.type "ValueError") = some true
  bar : PySem.W.findIn K (.ref C) "bar" = some none
  mro : PySem.W.mroIn K C (.ref C) = some true
structure TlS (P : Program) (sc : Scope) (file : Str) : Prop where
  kind : sc.kind = .function
  co : sc.isCoroutine = false
  gen : sc.isGenerator = false
  nocell : ∀ x ∈ sc.names, x.2 ≠ .cell
  self : sc.names.lookup ("self" : Str) = some .local
  bar : sc.names.lookup ("bar" : Str) = some .local
  sup : sc.names.lookup ("super" : Str) = some .globalImplicit
  cls : sc.names.lookup ("__class__" : Str) = some .free
  file : (P.main.file == file) = true
  top : (P.main.scope.names.lookup ("super" : Str)).isSome = false
def spTL (C : Addr) : Sp := fun vs H Q _ => ∃ a lp : Addr, vs = [.ref a, .ref lp] ∧ H a = some (exo a C none) ∧ ∀ dx, H dx = none → dx ≠ a → Q .non (upd (upd H dx (exd dx [("bar", .ref lp)])) a (exo a C (some dx)))
/-- two plain names -/
def scTL (sc : Scope) : Scope := { sc with names := [("self", .local), ("bar", .local)] }
theorem scTL_ok {sc : Scope} (h : sc.kind = .function) (h2 : sc.isCoroutine = false) (h3 : sc.isGenerator = false) : FnScope ["self", "bar"] ["self", "bar"] (scTL sc) := ⟨h, h2, h3, by decide, rfl, by
  intro x hx
  left
  simp only [List.mem_cons, List.not_mem_nil, or_false] at hx
  rcases hx with rfl | rfl <;> rfl, by
  intro y hy
  simp only [scTL, List.mem_cons, List.not_mem_nil, or_false] at hy
  rcases hy with rfl | rfl <;> decide⟩
section
variable {P : Program} {w : World} {K : PySem.W.Frag} {mg : Str → Option Value} {base : Heap} {C fI cc cda : Addr} {sc : Scope} {file m0 : Str} {params : Arguments} {body : List Stmt} {kV doc pm ct oc : Value} {an od : Option Addr} {osl : Array (Option Value)} {j : Nat} {p0 p1 p2 p3 p4 p5 p6 p7 p8 p9 : Pos}
theorem okTL (T : OexC K C) (W : TlF K mg C fI cc cda sc file) (Z : TlS P sc file)
    (lk : K.lookup fI = some ⟨oc, od, .func (PySem.W.fnX "__init__" "TooLow.__init__" params body sc [("__class__", cc)] .none kV doc pm an (.ref cda) ct), osl⟩) (hcd : PySem.W.codeIn K (.ref cda) "TooLow.__init__" = true) (hpar : ∃ ar, (params.posonlyargs ++ params.args).head? = some ar ∧ ar.arg = "self")
    (hbd : body = [.Expr (.Call (.Attribute (.Call (.Name "super" p0) [] [] p1) "__init__" p2) [.Constant (.str m0) j p3] [] p4) p5, .Assign [.Attribute (.Name "self" p6) "bar" p7] (.Name "bar" p8) p9]) {pl : Sem Bool}
    (he : ∀ L : Addr, eval (.Call (.Attribute (.Call (.Name "super" p0) [] [] p1) "__init__" p2) [.Constant (.str m0) j p3] [] p4) (callEnv (PySem.W.fnX "__init__" "TooLow.__init__" params body sc [("__class__", cc)] .none kV doc pm an (.ref cda) ct) L fI) = (do
      let ov ← attributeBase (.Call (.Name "super" p0) [] [] p1) "__init__" (callEnv (PySem.W.fnX "__init__" "TooLow.__init__" params body sc [("__class__", cc)] .none kV doc pm an (.ref cda) ct) L fI) (eval (.Call (.Name "super" p0) [] [] p1) (callEnv (PySem.W.fnX "__init__" "TooLow.__init__" params body sc [("__class__", cc)] .none kV doc pm an (.ref cda) ct) L fI))
      standAt p2.atName
      let (f, first) ← holding [ov] (getMethod ov "__init__" pl)
      callWith p4 f first (backTo p4 (starEach [.Constant (.str m0) j p3] (callEnv (PySem.W.fnX "__init__" "TooLow.__init__" params body sc [("__class__", cc)] .none kV doc pm an (.ref cda) ct) L fI))) [])) :
    FnOk P w K mg base CX0 1 fI (PySem.W.fnX "__init__" "TooLow.__init__" params body sc [("__class__", cc)] .none kV doc pm an (.ref cda) ct) ["self", "bar"] (spTL C) := by
  subst hbd
  obtain ⟨kd, nm, ig, ic, mo⟩ := sc
  obtain rfl : kd = .function := Z.kind
  obtain rfl : ic = false := Z.co
  obtain rfl : ig = false := Z.gen
  refine ⟨fun vs H Q E h => ?_, fun A outer s H args us vs Q E hr e0 hb r hsp => ?_⟩
  · obtain ⟨a, lp, rfl, _⟩ := h
    rfl
  obtain ⟨a, lp, rfl, ha, hq⟩ := hsp
  obtain ⟨u1, u2, rfl, r1, r2⟩ := vals2 r
  obtain rfl : u1 = Value.ref a := r1
  obtain rfl : u2 = Value.ref lp := r2
  have KX : K.In s.heap := e0.mod.kin.keeps fun b o e => (e0.bs b o e).1
  have lim : s.heap.NoLimit := e0.mod.nolimit.keeps fun b o e => (e0.bs b o e).1
  refine PySem.ks_codeAny_call_defAt (binds := [("self", .ref a), ("bar", .ref lp)]) hr.depth (KX _ _ lk) rfl lim (PySem.W.codeRec_of KX hcd) rfl hb Z.nocell (fun x hx => ?_) (fun h₀ hns hk => ?_) rfl rfl rfl
  · simp only [List.mem_cons, List.not_mem_nil, or_false] at hx
    rcases hx with rfl | rfl
    · exact Z.self
    · exact Z.bar
  have hna : a ≠ s.heap.objs.size := fun z => by
    obtain ⟨t1, ho⟩ := exo_at e0.hok ha
    exact absurd (Heap.lt_size ho) (by rw [z]; exact Nat.lt_irrefl _)
  -- the frame, as a frame of two plain names
  have xC : InCallC s s.heap.objs.size (bindL (envOfC "TooLow.__init__" (scTL ⟨.function, nm, false, false, mo⟩) s.heap.objs.size fI (.ref cda)).kindOf ((["self", "bar"] : List Str).zip [Value.ref a, Value.ref lp]) fun _ => none) (cellsFrom (s.heap.objs.size + 1) (scTL ⟨.function, nm, false, false, mo⟩).names []) (bindC (envOfC "TooLow.__init__" (scTL ⟨.function, nm, false, false, mo⟩) s.heap.objs.size fI (.ref cda)).kindOf ((["self", "bar"] : List Str).zip [Value.ref a, Value.ref lp]) fun _ => none) { s with heap := h₀, toks := s.toks + ([("self", Value.ref a), ("bar", Value.ref lp)] : List (Str × Value)).length } := by
    refine ⟨⟨⟨h₀, _, rfl⟩, ?_, hk, Nat.le_refl _⟩, fun n c hc => ?_, ?_, fun n c hc => ?_⟩
    · have e : (bindL (envOfC "TooLow.__init__" (scTL ⟨.function, nm, false, false, mo⟩) s.heap.objs.size fI (.ref cda)).kindOf ((["self", "bar"] : List Str).zip [Value.ref a, Value.ref lp]) fun _ => none) = fun x => ([("self", Value.ref a), ("bar", Value.ref lp)] : List (Str × Value)).reverse.lookup x := by
        funext x
        show (if x = ("bar" : Str) then some (Value.ref lp) else if x = ("self" : Str) then some (Value.ref a) else none) = ([(("bar" : Str), Value.ref lp), (("self" : Str), Value.ref a)] : List (Str × Value)).lookup x
        simp only [List.lookup]
        by_cases h1 : x = ("bar" : Str)
        · rw [if_pos h1, h1]
          rfl
        · rw [if_neg h1, show (x == ("bar" : Str)) = false from by simpa using h1]
          by_cases h2 : x = ("self" : Str)
          · rw [if_pos h2, h2]
            rfl
          · rw [if_neg h2, show (x == ("self" : Str)) = false from by simpa using h2]
      rw [e]
      exact hns
    · exact absurd hc (by show ([] : List (Str × Addr)).lookup n ≠ some c; simp)
    · exact List.Pairwise.nil
    · exact absurd hc (by show (n, c) ∉ ([] : List (Str × Addr)); simp)
  have I0 := inv_start (CX := CX0) (N := ["self", "bar"]) (vs := [.ref a, .ref lp]) (E := E) (scTL_ok rfl rfl rfl) hr.hd e0 rfl (.cons rfl (.cons rfl .nil)) xC
  clear xC
  have fin : ∀ {s' : Shared} {σ' : St} {H' : Hp}, Inv (cxOf CX0 P w K mg base ["self", "bar"] "TooLow.__init__" (scTL ⟨.function, nm, false, false, mo⟩) fI (.ref cda) A outer s H E) [] σ' H' s' → Q .non H' → CE outer P w H s Q .none s' := fun J q => ⟨.non, _, J.os, J.bare, J.base, J.hok, rfl, q⟩
  obtain ⟨ar, har, harn⟩ := hpar
  obtain ⟨ccl, cdd, cvs, ccs, tf, hcc, hcv⟩ := W.code
  obtain ⟨cl, cld, csl, hcell⟩ := W.cell
  refine PySem.ks_wpAt_execs_cons (PySem.ks_wpAt_Expr_any (PySem.ks_wpAt_MethodCall ?_ (he _)))
  refine PySem.ks_wpAt_super_base (s := { s with heap := h₀, toks := s.toks + 2 }) (ar := ar) Z.sup Z.cls rfl rfl (hk _ _ (KX _ _ lk)) rfl har rfl (hk _ _ (KX _ _ hcc)) rfl hcv Z.file Z.top ?_
  obtain ⟨mb, hmb1, hmb2⟩ := e0.mod.blt
  have bk : ∀ b o, base.get? b = some o → h₀.get? b = some o := fun b o e => hk b o (e0.bs b o e).1
  refine PySem.W.ks_loadName_global rfl Z.sup (Calls.loadGlobal_builtin (e0.mod.glob.keeps bk) W.sup (hmb1.keeps bk) ((hmb2 _ (by decide)).trans (by rfl)) ⟨rfl, ?_⟩)
  obtain ⟨cnm, cq, cN, cbs, cbm, csn, csub, cab, ccol, cdd', k0, k1, k2, k3, k5, hCo, hbm⟩ := T.cls
  have hC0 : s.heap.get? C = _ := KX _ _ hCo
  have hcl : PySem.W.clsIn K C = some { name := cnm, bases := cbs, mro := .ref C :: cbm, ns := cN, qualname := cq, hasDict := true, slotNames := csn, subclasses := csub, abstract := cab, collection := ccol, hasDel := false } := by unfold PySem.W.clsIn; rw [hCo] <;> rfl
  obtain ⟨t1, hao⟩ := exo_at e0.hok ha
  have KX0 : K.In h₀ := KX.keeps hk
  refine wpAny_loadName_free rfl Z.cls rfl ⟨_, hk _ _ (KX _ _ hcell), rfl⟩ ?_
  rw [harn]
  refine wpAny_loadName_local rfl Z.self hns rfl ?_
  refine PySem.ks_wpAny_isType_cls (hk _ _ hC0) rfl ⟨rfl, ?_⟩
  refine PySem.ks_wpAny_call_super (hk _ _ hC0) rfl (hk _ _ hao) rfl (fun c e => by cases e) (PySem.W.looks_mroIn KX0 W.mro) (fun h1 hso k1' => ?_)
  -- the bound method
  have KX1 : K.In h1 := KX0.keeps k1'
  have ha1 := k1' _ _ (hk _ _ hao)
  have IA : PySem.W.InstAt h1 a ({ cls := .ref C, dict := none, data := .fields #[.ref t1, .none, .none, .none, .bool false, .none] } : Obj) C none := ⟨ha1, rfl, rfl, trivial⟩
  have hal := W.along
  unfold PySem.W.ks_superIn at hal
  rw [hcl] at hal
  refine PySem.W.kxs_getMethod PySem.W.kxs_ValueError hso (PySem.W.looks_opaque KX1 W.thp) (l₀ := .ref C :: cbm) ((PySem.W.looks_clsIn KX1 hcl).andThen .now) rfl KX1 hal (IA.type.andThen (PySem.W.looks_subIn KX1 W.subV)) (PySem.W.ks_ne KX1 IA hcl) rfl ?_
  have k2' : ∀ b o, h1.get? b = some o → (h1.push (PySem.W.kxs_mw "ValueError.__init__" a)).get? b = some o := fun b o e => Heap.get?_push_of_some _ e
  have hu2 : (h1.push (PySem.W.kxs_mw "ValueError.__init__" a)).get? h1.objs.size = some (PySem.W.kxs_mw "ValueError.__init__" a) := Heap.get?_push_at rfl rfl
  generalize h1.push (PySem.W.kxs_mw "ValueError.__init__" a) = h2 at k2' hu2 ⊢
  have ha2 := k2' _ _ ha1
  have hC2 := k2' _ _ (k1' _ _ (hk _ _ hC0))
  refine PySem.W.kxs_callWith (i := "ValueError.__init__") (x := a) rfl ?_
  refine Calls.evalArgs_plain (Calls.spliced_cons (Calls.Constant_str (x := m0) (k := j) (pos := p3) (Calls.spliced_nil ⟨hu2, ?_⟩)))
  refine call_veWrap hC2 ha2 hu2 (by show 1 ≤ sizeLine; decide) (fun h3 k3' e3 => ?_)
  -- the field
  have kA : ∀ b o, b ≠ a → h₀.get? b = some o → h3.get? b = some o := fun b o n e => k3' b o n (k2' _ _ (k1' _ _ e))
  have hns3 : h3.Ns s.heap.objs.size (fun x => ([("self", Value.ref a), ("bar", Value.ref lp)] : List (Str × Value)).reverse.lookup x) := by
    obtain ⟨oL, es', ep', hL, hrest⟩ := hns
    exact ⟨oL, es', ep', kA _ _ (Ne.symm hna) hL, hrest⟩
  have I2 := I0.moreObjs (t' := s.toks + 2) (fun b o e => k2' b o (k1' b o e))
  have J := I2.write (t' := s.toks + 2) (x := a) (e := a) (o := exo a C none) (by rw [ha]; exact True.intro) (.inl rfl) k3' ⟨_, e3⟩ (exo_ok e3)
  have eu : upd H a (exo a C none) = H := by
    funext b
    by_cases hb' : b = a
    · rw [hb', upd_same, ha]
    · rw [upd_ne hb']
  rw [eu] at J
  refine PySem.ks_wpAt_execs_cons (PySem.ks_wpAt_Assign_Attr (wpAt_of_wpAny (wpAny_Name (wpAny_loadName_local rfl Z.bar hns3 rfl (wpAny_Name (wpAny_loadName_local rfl Z.self hns3 rfl ?_))))))
  refine ost_new (X := cxOf CX0 P w K mg base ["self", "bar"] "TooLow.__init__" (scTL ⟨.function, nm, false, false, mo⟩) fI (.ref cda) A outer s H E) (y := .ref lp) T (J.tok _) ha W.bar rfl (fun dx s' n ne J' => ?_)
  exact wpAt_of_wpAny (wpAny_execs_nil (fin J' (hq dx n ne)))
end
end L2
namespace L2
open PySem PySem.Spec PyProof.Rows
/-- the class's object, as a test -/
def oexB (K : PySem.W.Frag) (C : Addr) : Bool := match K.lookup C with
  | some ⟨.type "type", _, .cls c, sl⟩ => (match c.mro, sl.toList with
    | .ref C1 :: m, [_, _, _, _, some (.builtin b), _] => (C1 == C && b == "ValueError.__new__") && (!c.hasDel && (c.hasDict && PySem.HandSPX.refsVE m))
    | _, _ => false)
  | _ => false
theorem oexB_cls {K : PySem.W.Frag} {C : Addr} (t : oexB K C = true) : ∃ nm q N bs bm sn sub ab col dd k0 k1 k2 k3 k5, K.lookup C = some (excClassObj nm q C N bs bm true sn sub ab col dd k0 k1 k2 k3 k5 "ValueError.__new__") ∧ PySem.HandSPX.refsVE bm = true := by
  unfold oexB at t
  split at t
  · rename_i od c sl ho
    split at t
    · rename_i C1 m e0 e1 e2 e3 b e5 hm hs
      simp only [Bool.and_eq_true, beq_iff_eq, Bool.not_eq_true'] at t
      obtain ⟨⟨rfl, rfl⟩, hdel, hdict, hr⟩ := t
      obtain ⟨nm, bs, mro, ns, qn, hd, sn, sub, ab, col, del⟩ := c
      dsimp only at hm hdel hdict
      subst hm hdel hdict
      obtain ⟨l⟩ := sl
      simp only at hs
      subst hs
      exact ⟨_, _, _, _, _, _, _, _, _, _, _, _, _, _, _, ho, hr⟩
    · cases t
  · cases t
/-- an own class with its own __init__, as a def sees it -/
structure XoF (P : Program) (w : World) (K : PySem.W.Frag) (mg : Str → Option Value) (base : Heap) (x : Str) (C fI : Addr) (fd : FuncData) : Prop where
  gP : mg x = some (.ref C)
  oex : OexC K C
  iC : PySem.W.findIn K (.ref C) "__init__" = some (some (.ref fI))
  tI : PySem.W.typeIn K (.ref fI) = some (.type "function")
  ok : FnOk P w K mg base CX0 1 fI fd ["self", "bar"] (spTL C)
  b : Binds K fd ["self", "bar"] []
  xf : XfC K C
  hno : PySem.W.findIn K (.ref C) "bar" = some none
theorem x_mkO {C : Addr} {sp : Sp} {dvs : List V} {ta : TA} {σ : St} {H : Hp} {Q : XK} (q : ta σ H fun vs H1 => vs.length ≤ 1000 ∧ ∀ a, H1 a = none → sp (.ref a :: (vs ++ dvs)) (upd H1 a (exo a C none))
  (fun v H2 => v = .non ∧ ∃ (d : Addr) (fs : List (Str × V)), H2 a = some (exo a C (some d)) ∧ H2 d = some (exd d fs) ∧ H1 d = none ∧ Q (.ref C) (some d) (upd (del H2 a) d (.xd fs))) (fun _ _ _ => False)) : tMkO C sp dvs ta σ H Q := q
/-- the exception made: what it leaves -/
theorem tl_made {C lp : Addr} {σ : St} {H : Hp} {Q : XK} (h : ∀ d H', (∀ b o, H b = some o → H' b = some o) → H' d = some (.xd [("bar", .ref lp)]) → Q (.ref C) (some d) H') : [V.ref lp].length ≤ 1000 ∧ ∀ a, H a = none → spTL C (.ref a :: ([V.ref lp] ++ [])) (upd H a (exo a C none))
  (fun v H2 => v = .non ∧ ∃ (d : Addr) (fs : List (Str × V)), H2 a = some (exo a C (some d)) ∧ H2 d = some (exd d fs) ∧ H d = none ∧ Q (.ref C) (some d) (upd (del H2 a) d (.xd fs))) (fun _ _ _ => False) := by
  refine ⟨by show 1 ≤ 1000; omega, fun a ha => ⟨a, lp, rfl, upd_same, fun dx hdx hne => ⟨rfl, dx, [("bar", .ref lp)], upd_same, ?_, ?_, ?_⟩⟩⟩
  · rw [upd_ne hne, upd_same]
  · rw [upd_ne hne] at hdx
    exact hdx
  · have hdx0 : H dx = none := by rw [upd_ne hne] at hdx; exact hdx
    refine h dx _ (fun b o e => ?_) upd_same
    rw [upd_ne (ne_of_none e hdx0), del_ne (ne_of_none e ha), upd_ne (ne_of_none e ha), upd_ne (ne_of_none e hdx0), upd_ne (ne_of_none e ha)]
    exact e
end L2

namespace L2
open PySem PySem.Spec PyProof.Rows
theorem x_ifSP {test : TT} {th el : TS} {D : Ends} {σ : St} {H : Hp} (P : Bool → Prop) (h1 : ∀ Q : Bool → Hp → Prop, (∀ b, P b → Q b H) → test σ H Q) (ht : P true → th D σ H) (he : P false → el D σ H) : tIfS test th el D σ H :=
  h1 _ fun b hb => by
    cases b with
    | true => exact ht hb
    | false => exact he hb
end L2
namespace Sr
open PySem PySem.Spec PyProof.Rows L2 Zs
theorem One1.smT {c a b p P : Addr} {q : Str} {H H' : Hp} {f : List Addr} {s : ShS} {Tr : List (Addr × HO)} (h : One1 c H a b p f s Tr) (e : SmT P q H H') (nt : ∀ t ∈ Tr, ∀ ps, t.2 ≠ .tbl ps) : One1 c H' a b p f s Tr :=
  ⟨h.sh.smT e, Src_smT h.src e, h.na, h.nb, fun t ht => ⟨e.k _ _ (h.tr t ht).1 (nt t ht), (h.tr t ht).2⟩⟩
theorem ShAt.kp {c a b p : Addr} {H H' : Hp} {f : List Addr} {s : ShS} (h : ShAt c H p f s) (k : Kp a b H H') (hs : Src H a b) (na : a ∉ f) (nb : b ∉ f) : ShAt c H' p f s :=
  h.same (fun q hq o e => k q o (fun z => na (z ▸ hq)) (fun z => nb (z ▸ hq)) e) fun q xs e => k.tups hs e
theorem ShAt.all {c p : Addr} {H H' : Hp} {f : List Addr} {s : ShS} (h : ShAt c H p f s) (e : Same H H') : ShAt c H' p f s := h.same (fun b _ o x => e b o x) fun b xs x => e b _ x
end Sr

namespace Sr
open PySem PySem.Spec PyProof.Rows L2 Zs
/-! ### the text -/
def topS (i : Nat) : Stmt := PySem.Challenge.pw_seedreach_k14_too_low.main.body.getD i (.Pass ⟨0, 0, 0, 0⟩)
abbrev sTooLow___init__ : Stmt := inClass (topS 7) 0
abbrev sneed_letters : Stmt := topS 16
abbrev nneed_letters : List Str := ["letters", "sign"]
theorem scneed_letters : FnScope nneed_letters ["letters"] (defScope sneed_letters) := ⟨rfl, rfl, rfl, by decide +kernel, rfl, by decide +kernel, by decide +kernel⟩
abbrev sneed_row : Stmt := topS 17
abbrev nneed_row : List Str := ["row", "letters", "sign"]
theorem scneed_row : FnScope nneed_row ["row", "letters"] (defScope sneed_row) := ⟨rfl, rfl, rfl, by decide +kernel, rfl, by decide +kernel, by decide +kernel⟩
abbrev sneed_scale : Stmt := topS 18
abbrev nneed_scale : List Str := ["scale", "gain", "loss", "weight"]
theorem scneed_scale : FnScope nneed_scale ["scale"] (defScope sneed_scale) := ⟨rfl, rfl, rfl, by decide +kernel, rfl, by decide +kernel, by decide +kernel⟩
abbrev slane_begin : Stmt := topS 22
abbrev nlane_begin : List Str := ["shift"]
theorem sclane_begin : FnScope nlane_begin ["shift"] (defScope slane_begin) := ⟨rfl, rfl, rfl, by decide +kernel, rfl, by decide +kernel, by decide +kernel⟩
abbrev slikes_of : Stmt := topS 23
abbrev nlikes_of : List Str := ["one", "other", "shift", "begin", "end", "place"]
theorem sclikes_of : FnScope nlikes_of ["one", "other", "shift"] (defScope slikes_of) := ⟨rfl, rfl, rfl, by decide +kernel, rfl, by decide +kernel, by decide +kernel⟩
abbrev sworth_of : Stmt := topS 24
abbrev nworth_of : List Str := ["likes", "scale", "gain", "loss"]
theorem scworth_of : FnScope nworth_of ["likes", "scale"] (defScope sworth_of) := ⟨rfl, rfl, rfl, by decide +kernel, rfl, by decide +kernel, by decide +kernel⟩
abbrev sgreatest_worth : Stmt := topS 25
abbrev ngreatest_worth : List Str := ["likes", "scale", "ending", "worths", "pair"]
theorem scgreatest_worth : FnScope ngreatest_worth ["likes", "scale"] (defScope sgreatest_worth) := ⟨rfl, rfl, rfl, by decide +kernel, rfl, by decide +kernel, by decide +kernel⟩
abbrev s_last_below : Stmt := topS 28
abbrev n_last_below : List Str := ["parts", "low", "at"]
theorem sc_last_below : FnScope n_last_below ["parts", "low"] (defScope s_last_below) := ⟨rfl, rfl, rfl, by decide +kernel, rfl, by decide +kernel, by decide +kernel⟩
abbrev s_join : Stmt := topS 27
abbrev n_join : List Str := ["parts", "place", "low", "high", "begin", "at"]
theorem sc_join : FnScope n_join ["parts", "place", "low", "high"] (defScope s_join) := ⟨rfl, rfl, rfl, by decide +kernel, rfl, by decide +kernel, by decide +kernel⟩
abbrev sripe : Stmt := topS 26
abbrev nripe : List Str := ["likes", "scale", "gain", "loss", "parts", "level", "place", "pair", "part"]
theorem scripe : FnScope nripe ["likes", "scale"] (defScope sripe) := ⟨rfl, rfl, rfl, by decide +kernel, rfl, by decide +kernel, by decide +kernel⟩
abbrev slane_reaches : Stmt := topS 29
abbrev nlane_reaches : List Str := ["one", "other", "shift", "scale", "told", "likes", "first", "found", "begin", "end", "worth"]
theorem sclane_reaches : FnScope nlane_reaches ["one", "other", "shift", "scale", "told"] (defScope slane_reaches) := ⟨rfl, rfl, rfl, by decide +kernel, rfl, by decide +kernel, by decide +kernel⟩
abbrev s_need_seed : Stmt := topS 40
abbrev n_need_seed : List Str := ["seed", "sign"]
theorem sc_need_seed : FnScope n_need_seed ["seed"] (defScope s_need_seed) := ⟨rfl, rfl, rfl, by decide +kernel, rfl, by decide +kernel, by decide +kernel⟩
abbrev sneed_seeds : Stmt := topS 39
abbrev nneed_seeds : List Str := ["seeds", "seed"]
theorem scneed_seeds : FnScope nneed_seeds ["seeds"] (defScope sneed_seeds) := ⟨rfl, rfl, rfl, by decide +kernel, rfl, by decide +kernel, by decide +kernel⟩
abbrev sunlike_under : Stmt := topS 41
abbrev nunlike_under : List Str := ["seed", "likes", "place", "at", "sign"]
theorem scunlike_under : FnScope nunlike_under ["seed", "likes", "place"] (defScope sunlike_under) := ⟨rfl, rfl, rfl, by decide +kernel, rfl, by decide +kernel, by decide +kernel⟩
abbrev sfits : Stmt := topS 42
abbrev nfits : List Str := ["seed", "likes", "place"]
theorem scfits : FnScope nfits ["seed", "likes", "place"] (defScope sfits) := ⟨rfl, rfl, rfl, by decide +kernel, rfl, by decide +kernel, by decide +kernel⟩
abbrev sis_seeded : Stmt := topS 43
abbrev nis_seeded : List Str := ["seeds", "likes", "seed", "place"]
theorem scis_seeded : FnScope nis_seeded ["seeds", "likes"] (defScope sis_seeded) := ⟨rfl, rfl, rfl, by decide +kernel, rfl, by decide +kernel, by decide +kernel⟩
abbrev s_tail : Stmt := topS 48
abbrev n_tail : List Str := ["likes", "keep"]
theorem sc_tail : FnScope n_tail ["likes", "keep"] (defScope s_tail) := ⟨rfl, rfl, rfl, by decide +kernel, rfl, by decide +kernel, by decide +kernel⟩
abbrev s_steps_from : Stmt := topS 47
abbrev n_steps_from : List Str := ["tail", "seeds", "keep", "steps", "pair", "likes", "seed"]
theorem sc_steps_from : FnScope n_steps_from ["tail", "seeds"] (defScope s_steps_from) := ⟨rfl, rfl, rfl, by decide +kernel, rfl, by decide +kernel, by decide +kernel⟩
abbrev s_steps : Stmt := topS 46
abbrev n_steps : List Str := ["seeds", "steps", "waiting", "tail"]
theorem sc_steps : FnScope n_steps ["seeds"] (defScope s_steps) := ⟨rfl, rfl, rfl, by decide +kernel, rfl, by decide +kernel, by decide +kernel⟩
abbrev s_ring : Stmt := topS 50
abbrev n_ring : List Str := ["steps", "tail", "likes", "seen", "place", "pair"]
theorem sc_ring : FnScope n_ring ["steps", "tail", "likes"] (defScope s_ring) := ⟨rfl, rfl, rfl, by decide +kernel, rfl, by decide +kernel, by decide +kernel⟩
abbrev s_best_behind : Stmt := topS 49
abbrev n_best_behind : List Str := ["steps", "best", "weights", "choices", "pair", "worth", "likes"]
theorem sc_best_behind : FnScope n_best_behind ["steps", "best", "weights"] (defScope s_best_behind) := ⟨rfl, rfl, rfl, by decide +kernel, rfl, by decide +kernel, by decide +kernel⟩
abbrev sbar : Stmt := topS 44
abbrev nbar : List Str := ["seeds", "scale", "steps", "weights", "best", "longer", "bettered", "worth", "likes", "ring", "pair", "tail"]
theorem scbar : FnScope nbar ["seeds", "scale"] (defScope sbar) := ⟨rfl, rfl, rfl, by decide +kernel, rfl, by decide +kernel, by decide +kernel⟩
abbrev sneed_above : Stmt := topS 45
abbrev nneed_above : List Str := ["told", "limit"]
theorem scneed_above : FnScope nneed_above ["told", "limit"] (defScope sneed_above) := ⟨rfl, rfl, rfl, by decide +kernel, rfl, by decide +kernel, by decide +kernel⟩
abbrev sShelf___init__ : Stmt := inClass (topS 52) 0
abbrev nShelf___init__ : List Str := ["self", "letters", "scale", "seeds"]
theorem scShelf___init__ : FnScope nShelf___init__ ["self", "letters", "scale", "seeds"] (defScope sShelf___init__) := ⟨rfl, rfl, rfl, by decide +kernel, rfl, by decide +kernel, by decide +kernel⟩
abbrev sShelf_lay : Stmt := inClass (topS 52) 1
abbrev nShelf_lay : List Str := ["self", "row"]
theorem scShelf_lay : FnScope nShelf_lay ["self", "row"] (defScope sShelf_lay) := ⟨rfl, rfl, rfl, by decide +kernel, rfl, by decide +kernel, by decide +kernel⟩
abbrev sShelf_rows : Stmt := inClass (topS 52) 2
abbrev nShelf_rows : List Str := ["self"]
theorem scShelf_rows : FnScope nShelf_rows ["self"] (defScope sShelf_rows) := ⟨rfl, rfl, rfl, by decide +kernel, rfl, by decide +kernel, by decide +kernel⟩
abbrev s_picked : Stmt := topS 56
abbrev n_picked : List Str := ["seed", "row", "place", "at", "sign"]
theorem sc_picked : FnScope n_picked ["seed", "row", "place"] (defScope s_picked) := ⟨rfl, rfl, rfl, by decide +kernel, rfl, by decide +kernel, by decide +kernel⟩
abbrev s_windows_of : Stmt := topS 55
abbrev n_windows_of : List Str := ["row", "seeds", "found", "number", "seed", "place"]
theorem sc_windows_of : FnScope n_windows_of ["row", "seeds"] (defScope s_windows_of) := ⟨rfl, rfl, rfl, by decide +kernel, rfl, by decide +kernel, by decide +kernel⟩
abbrev sShelf_windows : Stmt := inClass (topS 52) 3
abbrev nShelf_windows : List Str := ["self", "found", "number", "row", "seed", "picked", "place"]
theorem scShelf_windows : FnScope nShelf_windows ["self"] (defScope sShelf_windows) := ⟨rfl, rfl, rfl, by decide +kernel, rfl, by decide +kernel, by decide +kernel⟩
abbrev sShelf__seeded_lanes : Stmt := inClass (topS 52) 9
abbrev nShelf__seeded_lanes : List Str := ["self", "row", "places", "seed", "picked", "number", "place", "lanes", "begin"]
theorem scShelf__seeded_lanes : FnScope nShelf__seeded_lanes ["self", "row"] (defScope sShelf__seeded_lanes) := ⟨rfl, rfl, rfl, by decide +kernel, rfl, by decide +kernel, by decide +kernel⟩
abbrev sShelf_find : Stmt := inClass (topS 52) 4
abbrev nShelf_find : List Str := ["self", "row", "told", "found", "number", "shift", "begin", "end", "worth"]
theorem scShelf_find : FnScope nShelf_find ["self", "row", "told"] (defScope sShelf_find) := ⟨rfl, rfl, rfl, by decide +kernel, rfl, by decide +kernel, by decide +kernel⟩
abbrev sbound : Stmt := topS 59
abbrev nbound : List Str := ["one", "other", "scale", "gain", "_", "sign"]
theorem scbound : FnScope nbound ["one", "other", "scale"] (defScope sbound) := ⟨rfl, rfl, rfl, by decide +kernel, rfl, by decide +kernel, by decide +kernel⟩
abbrev s_greatest_worths : Stmt := topS 61
abbrev n_greatest_worths : List Str := ["stretches", "greatest", "stretch", "number", "worth"]
theorem sc_greatest_worths : FnScope n_greatest_worths ["stretches"] (defScope s_greatest_worths) := ⟨rfl, rfl, rfl, by decide +kernel, rfl, by decide +kernel, by decide +kernel⟩
abbrev spairs : Stmt := topS 60
abbrev npairs : List Str := ["shelf", "told", "rows", "found", "left", "rest", "i", "row", "greatest", "j", "most"]
theorem scpairs : FnScope npairs ["shelf", "told"] (defScope spairs) := ⟨rfl, rfl, rfl, by decide +kernel, rfl, by decide +kernel, by decide +kernel⟩
abbrev sunlike_places : Stmt := topS 67
abbrev nunlike_places : List Str := ["seeds", "likes", "first", "seed", "place", "at"]
theorem scunlike_places : FnScope nunlike_places ["seeds", "likes", "first"] (defScope sunlike_places) := ⟨rfl, rfl, rfl, by decide +kernel, rfl, by decide +kernel, by decide +kernel⟩
abbrev slane : Stmt := topS 66
abbrev nlane : List Str := ["one", "other", "shift", "seeds", "scale", "told", "rows", "likes", "begin", "end", "_", "places"]
theorem sclane : FnScope nlane ["one", "other", "shift", "seeds", "scale", "told"] (defScope slane) := ⟨rfl, rfl, rfl, by decide +kernel, rfl, by decide +kernel, by decide +kernel⟩
abbrev s_each_is_under : Stmt := topS 70
abbrev n_each_is_under : List Str := ["places", "under", "place", "spots"]
theorem sc_each_is_under : FnScope n_each_is_under ["places", "under"] (defScope s_each_is_under) := ⟨rfl, rfl, rfl, by decide +kernel, rfl, by decide +kernel, by decide +kernel⟩
abbrev sshows : Stmt := topS 69
abbrev nshows : List Str := ["one", "other", "shift", "seeds", "scale", "told", "paper", "own_form", "own", "form", "claim"]
theorem scshows : FnScope nshows ["one", "other", "shift", "seeds", "scale", "told", "paper"] (defScope sshows) := ⟨rfl, rfl, rfl, by decide +kernel, rfl, by decide +kernel, by decide +kernel⟩
abbrev s_law_next : Stmt := topS 72
abbrev n_law_next : List Str := ["_law_h", "_law_many", "_law_at", "_law_cell"]
theorem sc_law_next : FnScope n_law_next ["_law_h", "_law_many"] (defScope s_law_next) := ⟨rfl, rfl, rfl, by decide +kernel, rfl, by decide +kernel, by decide +kernel⟩
abbrev s_law_letters : Stmt := topS 73
abbrev n_law_letters : List Str := ["_law_h", "_law_turn", "_law_k"]
theorem sc_law_letters : FnScope n_law_letters ["_law_h"] (defScope s_law_letters) := ⟨rfl, rfl, rfl, by decide +kernel, rfl, by decide +kernel, by decide +kernel⟩
abbrev s_law_row : Stmt := topS 74
abbrev n_law_row : List Str := ["_law_h", "_law_letters_here", "_law_most", "_law_k"]
theorem sc_law_row : FnScope n_law_row ["_law_h", "_law_letters_here", "_law_most"] (defScope s_law_row) := ⟨rfl, rfl, rfl, by decide +kernel, rfl, by decide +kernel, by decide +kernel⟩
abbrev s_law_near : Stmt := topS 75
abbrev n_law_near : List Str := ["_law_h", "_law_row_here", "_law_letters_here", "_law_found", "_law_keep", "_law_sign", "_law_way"]
theorem sc_law_near : FnScope n_law_near ["_law_h", "_law_row_here", "_law_letters_here"] (defScope s_law_near) := ⟨rfl, rfl, rfl, by decide +kernel, rfl, by decide +kernel, by decide +kernel⟩
abbrev s_law_scale : Stmt := topS 76
abbrev n_law_scale : List Str := ["_law_h"]
theorem sc_law_scale : FnScope n_law_scale ["_law_h"] (defScope s_law_scale) := ⟨rfl, rfl, rfl, by decide +kernel, rfl, by decide +kernel, by decide +kernel⟩
abbrev s_law_seed : Stmt := topS 77
abbrev n_law_seed : List Str := ["_law_h", "_law_most", "_law_size", "_law_k"]
theorem sc_law_seed : FnScope n_law_seed ["_law_h", "_law_most"] (defScope s_law_seed) := ⟨rfl, rfl, rfl, by decide +kernel, rfl, by decide +kernel, by decide +kernel⟩
abbrev s_law_seeds : Stmt := topS 78
abbrev n_law_seeds : List Str := ["_law_h", "_law_most", "_law_k"]
theorem sc_law_seeds : FnScope n_law_seeds ["_law_h", "_law_most"] (defScope s_law_seeds) := ⟨rfl, rfl, rfl, by decide +kernel, rfl, by decide +kernel, by decide +kernel⟩
abbrev s_law_rows : Stmt := topS 79
abbrev n_law_rows : List Str := ["_law_h", "_law_letters_here", "_law_most", "_law_rows_here", "_law_k"]
theorem sc_law_rows : FnScope n_law_rows ["_law_h", "_law_letters_here", "_law_most"] (defScope s_law_rows) := ⟨rfl, rfl, rfl, by decide +kernel, rfl, by decide +kernel, by decide +kernel⟩
abbrev s_law_shelf : Stmt := topS 80
abbrev n_law_shelf : List Str := ["_law_letters_here", "_law_scale_here", "_law_seeds_here", "_law_rows_here", "_law_shelf_here", "_law_row_here"]
theorem sc_law_shelf : FnScope n_law_shelf ["_law_letters_here", "_law_scale_here", "_law_seeds_here", "_law_rows_here"] (defScope s_law_shelf) := ⟨rfl, rfl, rfl, by decide +kernel, rfl, by decide +kernel, by decide +kernel⟩
abbrev s_law_ask : Stmt := topS 81
abbrev n_law_ask : List Str := ["_law_way", "_law_shelf_here", "_law_row_here", "_law_told", "_law_seeds_here", "_law_scale_here"]
theorem sc_law_ask : FnScope n_law_ask ["_law_way", "_law_shelf_here", "_law_row_here", "_law_told", "_law_seeds_here", "_law_scale_here"] (defScope s_law_ask) := ⟨rfl, rfl, rfl, by decide +kernel, rfl, by decide +kernel, by decide +kernel⟩
abbrev s_law_bar : Stmt := topS 82
abbrev n_law_bar : List Str := ["_law_way", "_law_shelf_here", "_law_row_here", "_law_told", "_law_seeds_here", "_law_scale_here", "e"]
theorem sc_law_bar : FnScope n_law_bar ["_law_way", "_law_shelf_here", "_law_row_here", "_law_told", "_law_seeds_here", "_law_scale_here"] (defScope s_law_bar) := ⟨rfl, rfl, rfl, by decide +kernel, rfl, by decide +kernel, by decide +kernel⟩
abbrev slaw : Stmt := topS 83
abbrev nlaw : List Str := ["_law_script", "_law_h", "_law_letters_here", "_law_seeds_here", "_law_scale_here", "_law_found", "_law_rows_here", "_law_row_here", "_law_shelf_here", "_law_some", "_law_way", "_law_told"]
theorem sclaw : FnScope nlaw ["_law_script"] (defScope slaw) := ⟨rfl, rfl, rfl, by decide +kernel, rfl, by decide +kernel, by decide +kernel⟩
structure Dn (P : Program) (w : World) (K : PySem.W.Frag) (mg : Str → Option Value) (base : Heap) (x : Str) (k : Nat) (ps : List Str) (sp : Sp) (f : Addr) (fd : FuncData) : Prop where
  ok : FnOk P w K mg base CX0 k f fd ps sp
  g : mg x = some (.ref f)
  kp : PySem.W.keepIn K (.ref f) = true
  b : Binds K fd ps []
structure Dm (P : Program) (w : World) (K : PySem.W.Frag) (mg : Str → Option Value) (base : Heap) (C : Addr) (x : Str) (k : Nat) (ps : List Str) (sp : Sp) (f : Addr) (fd : FuncData) : Prop where
  ok : FnOk P w K mg base CX0 k f fd ps sp
  mt : Meth K C x f
  b : Binds K fd ps []
structure DnX (P : Program) (w : World) (K : PySem.W.Frag) (mg : Str → Option Value) (base : Heap) (x : Str) (k : Nat) (ps : List Str) (sp : Sp) (f : Addr) (fd : FuncData) : Prop where
  ok : FnOk P w K mg base (L2.CX P w) k f fd ps sp
  g : mg x = some (.ref f)
  kp : PySem.W.keepIn K (.ref f) = true
  b : Binds K fd ps []
structure DmX (P : Program) (w : World) (K : PySem.W.Frag) (mg : Str → Option Value) (base : Heap) (C : Addr) (x : Str) (k : Nat) (ps : List Str) (sp : Sp) (f : Addr) (fd : FuncData) : Prop where
  ok : FnOk P w K mg base (L2.CX P w) k f fd ps sp
  mt : Meth K C x f
  b : Binds K fd ps []
structure XcF (K : PySem.W.Frag) (mg : Str → Option Value) (x : Str) (C : Addr) : Prop where
  gP : mg x = some (.ref C)
  xP : PySem.W.excIn K C [.type "ValueError", .type "Exception", .type "BaseException", .type "object"] "ValueError.__new__" = true
  kP : PySem.W.keepIn K (.ref C) = true
  bP : PySem.W.subIn K (.ref C) (.type "BaseException") = some true
  tP : PySem.W.typeIn K (.ref C) = some (.type "type")
structure XcN (K : PySem.W.Frag) (mg : Str → Option Value) (x : Str) (C : Addr) : Prop where
  gP : mg x = some (.ref C)
structure XM (K : PySem.W.Frag) (aBadRow aBadSeed aBadText aNoPlace aNoRow aReachError aTooLow : Addr) : Prop where
  hd_BadRow : PySem.W.hasDictIn K aBadRow = true
  tp_BadRow : PySem.W.typeIn K (.ref aBadRow) = some (.type "type")
  bs_BadRow : PySem.W.subIn K (.ref aBadRow) (.type "BaseException") = some true
  hd_BadSeed : PySem.W.hasDictIn K aBadSeed = true
  tp_BadSeed : PySem.W.typeIn K (.ref aBadSeed) = some (.type "type")
  bs_BadSeed : PySem.W.subIn K (.ref aBadSeed) (.type "BaseException") = some true
  hd_BadText : PySem.W.hasDictIn K aBadText = true
  tp_BadText : PySem.W.typeIn K (.ref aBadText) = some (.type "type")
  bs_BadText : PySem.W.subIn K (.ref aBadText) (.type "BaseException") = some true
  hd_NoPlace : PySem.W.hasDictIn K aNoPlace = true
  tp_NoPlace : PySem.W.typeIn K (.ref aNoPlace) = some (.type "type")
  bs_NoPlace : PySem.W.subIn K (.ref aNoPlace) (.type "BaseException") = some true
  hd_NoRow : PySem.W.hasDictIn K aNoRow = true
  tp_NoRow : PySem.W.typeIn K (.ref aNoRow) = some (.type "type")
  bs_NoRow : PySem.W.subIn K (.ref aNoRow) (.type "BaseException") = some true
  hd_ReachError : PySem.W.hasDictIn K aReachError = true
  tp_ReachError : PySem.W.typeIn K (.ref aReachError) = some (.type "type")
  bs_ReachError : PySem.W.subIn K (.ref aReachError) (.type "BaseException") = some true
  hd_TooLow : PySem.W.hasDictIn K aTooLow = true
  tp_TooLow : PySem.W.typeIn K (.ref aTooLow) = some (.type "type")
  bs_TooLow : PySem.W.subIn K (.ref aTooLow) (.type "BaseException") = some true
  ec_TooLow : ExcC K aTooLow
  v_TooLow : PySem.W.subIn K (.ref aTooLow) (.type "ValueError") = some true
  s_TooLow_BadRow : PySem.W.subIn K (.ref aTooLow) (.ref aBadRow) = some false
  s_TooLow_BadSeed : PySem.W.subIn K (.ref aTooLow) (.ref aBadSeed) = some false
  s_TooLow_BadText : PySem.W.subIn K (.ref aTooLow) (.ref aBadText) = some false
  s_TooLow_NoPlace : PySem.W.subIn K (.ref aTooLow) (.ref aNoPlace) = some false
  s_TooLow_NoRow : PySem.W.subIn K (.ref aTooLow) (.ref aNoRow) = some false
  s_TooLow_ReachError : PySem.W.subIn K (.ref aTooLow) (.ref aReachError) = some true
  s_TooLow_TooLow : PySem.W.subIn K (.ref aTooLow) (.ref aTooLow) = some true
structure KlShelf (K : PySem.W.Frag) (mg : Str → Option Value) (c fi : Addr) : Prop where
  cl : Cls K c
  mg : mg "Shelf" = some (.ref c)
  make : Mk K c fi
  n_letters : NoAttr K c "letters"
  n_scale : NoAttr K c "scale"
  n_seeds : NoAttr K c "seeds"
  n_limit : NoAttr K c "limit"
  n_laid : NoAttr K c "laid"
structure Bl (mg : Str → Option Value) : Prop where
  m_len : mg "len" = none
  m_max : mg "max" = none
  m_min : mg "min" = none
  m_range : mg "range" = none
  m_enumerate : mg "enumerate" = none
  m_any : mg "any" = none
  m_list : mg "list" = none
  m_sorted : mg "sorted" = none
  m_set : mg "set" = none
  m_sum : mg "sum" = none
  m_all : mg "all" = none
  m_zip : mg "zip" = none
  m_isinstance : mg "isinstance" = none
  m_ValueError : mg "ValueError" = none
structure Cs (mg : Str → Option Value) (uFEWEST_LETTERS uMOST_LETTERS uALPHABET uLONGEST_ROW uLEAST_WEIGHT uMOST_WEIGHT uLIKE uUNLIKE uSHORTEST_SEED uLONGEST_SEED uPICK uGAP uFEWEST_SEEDS uMOST_SEEDS uBAR uENDLESS uLOW uREACHES uUNSEEDED : Value) : Prop where
  c_FEWEST_LETTERS : RelV (.int 2) uFEWEST_LETTERS ∧ mg "FEWEST_LETTERS" = some uFEWEST_LETTERS
  c_MOST_LETTERS : RelV (.int 6) uMOST_LETTERS ∧ mg "MOST_LETTERS" = some uMOST_LETTERS
  c_ALPHABET : RelV (.str "abcdefghijklmnopqrstuvwxyz") uALPHABET ∧ mg "ALPHABET" = some uALPHABET
  c_LONGEST_ROW : RelV (.int 60) uLONGEST_ROW ∧ mg "LONGEST_ROW" = some uLONGEST_ROW
  c_LEAST_WEIGHT : RelV (.int 1) uLEAST_WEIGHT ∧ mg "LEAST_WEIGHT" = some uLEAST_WEIGHT
  c_MOST_WEIGHT : RelV (.int 9) uMOST_WEIGHT ∧ mg "MOST_WEIGHT" = some uMOST_WEIGHT
  c_LIKE : RelV (.str "=") uLIKE ∧ mg "LIKE" = some uLIKE
  c_UNLIKE : RelV (.str "/") uUNLIKE ∧ mg "UNLIKE" = some uUNLIKE
  c_SHORTEST_SEED : RelV (.int 1) uSHORTEST_SEED ∧ mg "SHORTEST_SEED" = some uSHORTEST_SEED
  c_LONGEST_SEED : RelV (.int 8) uLONGEST_SEED ∧ mg "LONGEST_SEED" = some uLONGEST_SEED
  c_PICK : RelV (.str "#") uPICK ∧ mg "PICK" = some uPICK
  c_GAP : RelV (.str "-") uGAP ∧ mg "GAP" = some uGAP
  c_FEWEST_SEEDS : RelV (.int 1) uFEWEST_SEEDS ∧ mg "FEWEST_SEEDS" = some uFEWEST_SEEDS
  c_MOST_SEEDS : RelV (.int 3) uMOST_SEEDS ∧ mg "MOST_SEEDS" = some uMOST_SEEDS
  c_BAR : RelV (.str "bar") uBAR ∧ mg "BAR" = some uBAR
  c_ENDLESS : RelV (.str "endless") uENDLESS ∧ mg "ENDLESS" = some uENDLESS
  c_LOW : RelV (.str "low") uLOW ∧ mg "LOW" = some uLOW
  c_REACHES : RelV (.str "reaches") uREACHES ∧ mg "REACHES" = some uREACHES
  c_UNSEEDED : RelV (.str "unseeded") uUNSEEDED ∧ mg "UNSEEDED" = some uUNSEEDED
def spneed_letters (K : PySem.W.Frag) : Sp := fun vs H Q _ => ∃ (z : List Nat), vs = [.str (S z)] ∧ 2 ≤ z.length ∧ z.length ≤ 6 ∧ (∀ c ∈ z, 97 ≤ c ∧ c ≤ 122) ∧ z.Nodup ∧ Q .non H
def spneed_row (K : PySem.W.Frag) : Sp := fun vs H Q _ => ∃ (z lets : List Nat), vs = [.str (S z), .str (S lets)] ∧ z.length ≤ 60 ∧ (∀ c ∈ z, c ∈ lets) ∧ Q .non H
def spneed_scale (K : PySem.W.Frag) : Sp := fun vs H Q _ => ∃ (p : Addr) (g l : Int), vs = [.ref p] ∧ SqT K H p [.int g, .int l] ∧ 1 ≤ g ∧ g ≤ 9 ∧ 1 ≤ l ∧ l ≤ 9 ∧ ∀ H', Same H H' → Q .non H'
def splane_begin (K : PySem.W.Frag) : Sp := fun vs H Q _ => ∃ (d : Int), vs = [.int d] ∧ Q (.int (bgn d : Nat)) H
def splikes_of (K : PySem.W.Frag) : Sp := fun vs H Q _ => ∃ (o t : List Nat) (d : Int), vs = [.str (S o), .str (S t), .int d] ∧ o.length ≤ 1000 ∧ t.length ≤ 1000 ∧ -100000 ≤ d ∧ d ≤ 100000 ∧ ∀ H', Same H H' → Q (.str (S (likL o t d))) H'
def spworth_of (K : PySem.W.Frag) : Sp := fun vs H Q _ => ∃ (z : List Nat) (p : Addr) (g l : Int), vs = [.str (S z), .ref p] ∧ SqT K H p [.int g, .int l] ∧ Lk z ∧ 0 ≤ g ∧ g ≤ 1000 ∧ 0 ≤ l ∧ l ≤ 1000 ∧ Q (.int (wor g l z)) H
def spgreatest_worth (K : PySem.W.Frag) : Sp := fun vs H Q _ => ∃ (z : List Nat) (p : Addr) (g l : Int), vs = [.str (S z), .ref p] ∧ SqT K H p [.int g, .int l] ∧ Lk z ∧ 0 < z.length ∧ z.length ≤ 1000 ∧ 0 ≤ g ∧ g ≤ 1000 ∧ 0 ≤ l ∧ l ≤ 1000 ∧ ∀ H' m, Same H H' → Gw (lev g l z) z.length m → Q (.int m) H'
def sp_last_below (K : PySem.W.Frag) : Sp := fun vs H Q _ => ∃ (pp : Addr) (low : Int) (s : Nat → Int) (as : List Addr) (L : List (Nat × Nat)), vs = [.ref pp, .int low] ∧ H pp = some (.lst (as.map V.ref)) ∧ Tup (part4 s) H as L ∧
  ∀ k : Nat, k ≤ L.length → (∀ j p, k ≤ j → L[j]? = some p → low ≤ s p.1) → (∀ j p, k = j + 1 → L[j]? = some p → s p.1 < low) → Q (.int ((k : Int) - 1)) H
def sp_join (K : PySem.W.Frag) : Sp := fun vs H Q _ => ∃ (pp : Addr) (i : Nat) (s : Nat → Int) (as : List Addr) (L : List (Nat × Nat)), vs = [.ref pp, .int (i : Nat), .int (s i), .int (s (i + 1))] ∧ H pp = some (.lst (as.map V.ref)) ∧ Tup (part4 s) H as L ∧ RL s i L ∧ s i < s (i + 1) ∧ i ≤ 1000 ∧
  ∀ (H' : Hp) (as' : List Addr) (L' : List (Nat × Nat)), RL s (i + 1) L' → H' pp = some (.lst (as'.map V.ref)) → Tup (part4 s) H' as' L' → K1 pp H H' → Q .non H'
def spripe (K : PySem.W.Frag) : Sp := fun vs H Q _ => ∃ (z : List Nat) (ps : Addr) (g l : Int), vs = [.str (S z), .ref ps] ∧ SqT K H ps [.int g, .int l] ∧ 1 ≤ g ∧ g ≤ 1000 ∧ 1 ≤ l ∧ l ≤ 1000 ∧ z.length ≤ 1000 ∧
  ∀ (D : Addr) (H' : Hp) (as : List Addr) (L : List (Nat × Nat)), RL (lev g l z) z.length L → Same H H' → H D = none → H' D = some (.lst (as.map V.ref)) → Tup pair2 H' as L → Q (.ref D) H'
def splane_reaches (K : PySem.W.Frag) : Sp := fun vs H Q _ => ∃ (o t : List Nat) (d : Int) (ps : Addr) (g l told : Int), vs = [.str (S o), .str (S t), .int d, .ref ps, .int told] ∧ SqT K H ps [.int g, .int l] ∧ 1 ≤ g ∧ g ≤ 1000 ∧ 1 ≤ l ∧ l ≤ 1000 ∧ o.length ≤ 100 ∧ t.length ≤ 100 ∧ -100000 ≤ d ∧ d ≤ 100000 ∧
  ∀ (D : Addr) (H' : Hp) (as : List Addr), Same H H' → H D = none → H' D = some (.lst (as.map V.ref)) → Tup triV H' as (lrL g l told o t d) → Q (.ref D) H'
def sp_need_seed (K : PySem.W.Frag) : Sp := fun vs H Q _ => ∃ (sd : List Nat), vs = [.str (S sd)] ∧ Sd 8 sd ∧ Q .non H
def spneed_seeds (K : PySem.W.Frag) : Sp := fun vs H Q _ => ∃ (sp : Addr) (sds : List (List Nat)), vs = [.ref sp] ∧ SqL K H sp (sds.map strV) ∧ (∀ sd ∈ sds, Sd 8 sd) ∧ 1 ≤ sds.length ∧ sds.length ≤ 3 ∧ Q .non H
def spunlike_under (K : PySem.W.Frag) : Sp := fun vs H Q _ => ∃ (sd z : List Nat) (p : Nat), vs = [.str (S sd), .str (S z), .int (p : Nat)] ∧ sd.length ≤ 1000 ∧ p + sd.length ≤ z.length ∧ z.length ≤ 100000 ∧
  ∀ (D : Addr) (H' : Hp), Same H H' → H D = none → H' D = some (.lst ((ulL sd z p).map fun k => V.int ((p + k : Nat) : Int))) → Q (.ref D) H'
def spfits (K : PySem.W.Frag) : Sp := fun vs H Q _ => ∃ (sd z : List Nat) (p : Int), vs = [.str (S sd), .str (S z), .int p] ∧ Sd 8 sd ∧ Lk z ∧ z.length ≤ 1000 ∧ ∀ H', Same H H' → Q (.bl (fitsB sd z p)) H'
def spis_seeded (K : PySem.W.Frag) : Sp := fun vs H Q _ => ∃ (sp : Addr) (sds : List (List Nat)) (z : List Nat), vs = [.ref sp, .str (S z)] ∧ SqL K H sp (sds.map strV) ∧ (∀ sd ∈ sds, Sd 8 sd) ∧ 1 ≤ sds.length ∧ sds.length ≤ 3 ∧ Lk z ∧ z.length ≤ 1000 ∧ ∀ H', Same H H' → Q (.bl (seededB sds z)) H'
def sp_tail (K : PySem.W.Frag) : Sp := fun vs H Q _ => ∃ (z : List Nat) (k : Nat), vs = [.str (S z), .int (k : Nat)] ∧ z.length ≤ 1000 ∧ k ≤ 1000 ∧ Q (.str (S (tlK k z))) H
def sp_steps_from (K : PySem.W.Frag) : Sp := fun vs H Q _ => ∃ (sp : Addr) (sds : List (List Nat)) (t : List Nat), vs = [.str (S t), .ref sp] ∧ SqL K H sp (sds.map strV) ∧ (∀ sd ∈ sds, Sd 8 sd) ∧ 1 ≤ sds.length ∧ sds.length ≤ 3 ∧ Lk t ∧ t.length ≤ 100 ∧
  ∀ (d : Addr) (H' : Hp), Same H H' → H d = none → H' d = some (.dK (stepKV (stps sds (kM sds) t))) → Q (.ref d) H'
def sp_steps (K : PySem.W.Frag) : Sp := fun vs H Q _ => ∃ (sp : Addr) (sds : List (List Nat)), vs = [.ref sp] ∧ SqL K H sp (sds.map strV) ∧ (∀ sd ∈ sds, Sd 8 sd) ∧ 1 ≤ sds.length ∧ sds.length ≤ 3 ∧
  ∀ (p : Addr) (ds : List Addr) (H' : Hp), Same H H' → H p = none → H' p = some (.dK (stKV (keys sds (kM sds)) ds)) → StAt H' p sds (kM sds) (keys sds (kM sds)) ds → Q (.ref p) H'
def sp_ring (K : PySem.W.Frag) : Sp := fun vs H Q _ => ∃ (sp : Addr) (sds : List (List Nat)) (k : Nat) (ks : List (List Nat)) (ds : List Addr) (t z : List Nat), vs = [.ref sp, .str (S t), .str (S z)] ∧ StAt H sp sds k ks ds ∧ KeysI sds k ks ∧ t ∈ ks ∧ Lk z ∧ (run sds k t z).isSome = true ∧ z.length ≤ 1000 ∧
  ∀ H', Same H H' → Q (.str (S (rgo k [t] t [] z))) H'
def sp_best_behind (K : PySem.W.Frag) (PT : Addr) : Sp := fun vs H Q _ => ∃ (d bp wp : Addr) (ps : List (Nat × List Nat)) (ks : List (List Nat)) (as : List Addr) (f : List Nat → Int × List Nat) (g l : Int), vs = [.ref d, .ref bp, .ref wp] ∧
  H d = some (.dK (stepKV ps)) ∧ ps.length ≤ 2 ∧ (∀ p ∈ ps, (p.1 = 61 ∨ p.1 = 47) ∧ p.2 ∈ ks) ∧ (∀ p ∈ ps, ∀ p' ∈ ps, p.1 = p'.1 → p.2 = p'.2) ∧ BsAt H bp ks f as ∧ (∀ t ∈ ks, (f t).2.length ≤ 1000) ∧ H wp = some (.dK (wKV g l)) ∧ bp ≠ d ∧ wp ≠ d ∧ LamX.TabS H PT qL ∧
  ∀ (p : Addr) (H' : Hp), SmT PT qL H H' → MxIt H' p ((ps.map (cand g l f)).foldl pick (0, [])) → Q (.ref p) H'
def spbar (K : PySem.W.Frag) (PT : Addr) : Sp := fun vs H Q _ => ∃ (sp ps : Addr) (sds : List (List Nat)) (g l : Int), vs = [.ref sp, .ref ps] ∧ SqL K H sp (sds.map strV) ∧ SqT K H ps [.int g, .int l] ∧ (∀ sd ∈ sds, Sd 8 sd) ∧ 1 ≤ sds.length ∧ sds.length ≤ 3 ∧ 1 ≤ g ∧ g ≤ 9 ∧ 1 ≤ l ∧ l ≤ 9 ∧ LamX.TabS H PT qL ∧ ∀ (p : Addr) (H' : Hp), SmT PT qL H H' → H p = none → H' p = some (.tup (barV (barM sds g l))) → BarOk sds g l (barM sds g l) → Q (.ref p) H'
/-- what is told is more than the bar -/
def Above (r : BarR) (told : Int) : Prop := ∃ m z, r = .bar m z ∧ m < told
def spneed_above (K : PySem.W.Frag) (aTooLow : Addr) : Sp := fun vs H Q E => ∃ (told : Int) (lp : Addr) (r : BarR), vs = [.int told, .ref lp] ∧ SqT K H lp (barV r) ∧ (Above r told → Q .non H) ∧ (¬ Above r told → ∀ dd H', Same H H' → H' dd = some (.xd [("bar", .ref lp)]) → E (.ref aTooLow) (some dd) H')
def spShelf___init__ (K : PySem.W.Frag) (PT : Addr) (cShelf : Addr) : Sp := fun vs H Q _ => ∃ (p dx sc sp : Addr) (lets : List Nat) (g l : Int) (sds : List (List Nat)), vs = [.ref p, .str (S lets), .ref sc, .ref sp] ∧ H p = some (.ins cShelf dx []) ∧ Lets lets ∧ H sc = some (.tup [.int g, .int l]) ∧ 1 ≤ g ∧ g ≤ 9 ∧ 1 ≤ l ∧ l ≤ 9 ∧ H sp = some (.lst (sds.map strV)) ∧ (∀ sd ∈ sds, Sd 8 sd) ∧ 1 ≤ sds.length ∧ sds.length ≤ 3 ∧ LamX.TabS H PT qL ∧
  ∀ (foot : List Addr) (H' : Hp), ShAt cShelf H' p foot ⟨lets, g, l, sds, []⟩ → (∀ b ∈ foot, b = p ∨ H b = none) → SmX p PT qL H H' → Q .non H'
def spShelf_lay (K : PySem.W.Frag) (cShelf : Addr) : Sp := fun vs H Q _ => ∃ (p : Addr) (foot : List Addr) (s : ShS) (z : List Nat), vs = [.ref p, .str (S z)] ∧ ShAt cShelf H p foot s ∧ Lets s.lets ∧ s.rows.length ≤ 20 ∧ z.length ≤ 60 ∧ (∀ c ∈ z, c ∈ s.lets) ∧
  ∀ (foot' : List Addr) (H' : Hp), ShAt cShelf H' p foot' { s with rows := s.rows ++ [z] } → Fr foot H H' → Grow foot foot' H → Q (.int (s.rows.length : Nat)) H'
def spShelf_rows (K : PySem.W.Frag) (cShelf : Addr) : Sp := fun vs H Q _ => ∃ (p : Addr) (foot : List Addr) (s : ShS), vs = [.ref p] ∧ ShAt cShelf H p foot s ∧ s.rows.length ≤ 20 ∧
  ∀ (H' : Hp) (r : Addr), Same H H' → H r = none → H' r = some (.lst (s.rows.map strV)) → Q (.ref r) H'
def sp_picked (K : PySem.W.Frag) : Sp := fun vs H Q _ => ∃ (sd r : List Nat) (p : Nat), vs = [.str (S sd), .str (S r), .int (p : Nat)] ∧ sd.length ≤ 100 ∧ r.length ≤ 100 ∧ p + sd.length ≤ r.length ∧ ∀ H', Same H H' → Q (.str (S (pickW sd r p))) H'
def sp_windows_of (K : PySem.W.Frag) : Sp := fun vs H Q _ => ∃ (sp : Addr) (r : List Nat) (sds : List (List Nat)), vs = [.str (S r), .ref sp] ∧ SqL K H sp (sds.map strV) ∧ (∀ sd ∈ sds, Sd 8 sd) ∧ sds.length ≤ 3 ∧ r.length ≤ 60 ∧ ∀ (D : Addr) (as : List Addr) (H' : Hp), Same H H' → H D = none → H' D = some (.lst (as.map V.ref)) → Tup w3V H' as (wo r sds sds.length) → Q (.ref D) H'
def spShelf_windows (K : PySem.W.Frag) (cShelf : Addr) : Sp := fun vs H Q _ => ∃ (p : Addr) (foot : List Addr) (s : ShS), vs = [.ref p] ∧ ShAt cShelf H p foot s ∧ s.rows.length ≤ 20 ∧ (∀ z ∈ s.rows, z.length ≤ 60) ∧
  ∀ (H' : Hp) (r : Addr) (as : List Addr), Same H H' → H r = none → H' r = some (.lst (as.map V.ref)) → Tup winV H' as (winsUp s.sds s.rows) → Q (.ref r) H'
def spShelf__seeded_lanes (K : PySem.W.Frag) (cShelf : Addr) : Sp := fun vs H Q _ => ∃ (p : Addr) (foot : List Addr) (s : ShS) (o : List Nat), vs = [.ref p, .str (S o)] ∧ ShAt cShelf H p foot s ∧ s.rows.length ≤ 8 ∧ (∀ z ∈ s.rows, z.length ≤ 60) ∧ o.length ≤ 60 ∧
  ∀ (H' : Hp) (r : Addr) (as : List Addr) (LN : List (Nat × Int)), Same H H' → H r = none → H' r = some (.lst (as.map V.ref)) → Tup lnV H' as LN → LN.Pairwise LnLt → (∀ n d, (n, d) ∈ LN ↔ SdL s.sds s.rows o n d) → Q (.ref r) H'
def spShelf_find (K : PySem.W.Frag) (aTooLow : Addr) (cShelf : Addr) : Sp := fun vs H Q E => ∃ (p : Addr) (foot : List Addr) (s : ShS) (o : List Nat) (told : Int), vs = [.ref p, .str (S o), .int told] ∧ ShAt cShelf H p foot s ∧ Lets s.lets ∧ s.rows.length ≤ 8 ∧ (∀ z ∈ s.rows, z.length ≤ 60) ∧ o.length ≤ 60 ∧ (∀ c ∈ o, c ∈ s.lets) ∧ BarOk s.sds s.g s.l (barM s.sds s.g s.l) ∧
  (Above (barM s.sds s.g s.l) told → ∀ (H' : Hp) (r : Addr) (as : List Addr), Same H H' → H r = none → H' r = some (.lst (as.map V.ref)) → Tup fndV H' as (dueUp s.g s.l told o s.rows) → Q (.ref r) H') ∧
  (¬ Above (barM s.sds s.g s.l) told → ∀ (dd lp : Addr) (H' : Hp), Same H H' → H' dd = some (.xd [("bar", .ref lp)]) → H' lp = some (.tup (barV (barM s.sds s.g s.l))) → E (.ref aTooLow) (some dd) H')
def spbound (K : PySem.W.Frag) : Sp := fun vs H Q _ => ∃ (o t : List Nat) (p : Addr) (g l : Int), vs = [.str (S o), .str (S t), .ref p] ∧ SqT K H p [.int g, .int l] ∧ o.length ≤ 1000 ∧ t.length ≤ 1000 ∧ 0 ≤ g ∧ g ≤ 1000 ∧ ∀ H', Same H H' → Q (.int (g * (cm o t : Nat))) H'
def sp_greatest_worths (K : PySem.W.Frag) : Sp := fun vs H Q _ => ∃ (p : Addr) (as : List Addr) (L : List Fnd), vs = [.ref p] ∧ H p = some (.lst (as.map V.ref)) ∧ Tup fndV H as L ∧ (∀ q ∈ L, 0 ≤ q.2.2) ∧ L.length ≤ 100000 ∧
  ∀ (D : Addr) (kvs : List (Key × V)) (H' : Hp), Same H H' → H D = none → H' D = some (.dK kvs) → GW kvs L → Q (.ref D) H'
def sppairs (K : PySem.W.Frag) (aTooLow : Addr) (cShelf : Addr) : Sp := fun vs H Q E => ∃ (p : Addr) (foot : List Addr) (s : ShS) (told : Int), vs = [.ref p, .int told] ∧ ShAt cShelf H p foot s ∧ Lets s.lets ∧ s.rows.length ≤ 8 ∧ (∀ z ∈ s.rows, z.length ≤ 60 ∧ ∀ c ∈ z, c ∈ s.lets) ∧ BarOk s.sds s.g s.l (barM s.sds s.g s.l) ∧ 1 ≤ told ∧
  (Above (barM s.sds s.g s.l) told → ∀ (H' : Hp) (r : Addr), Same H H' → Q (.ref r) H') ∧
  (¬ Above (barM s.sds s.g s.l) told → ∀ (dd lp : Addr) (H' : Hp), Same H H' → H' dd = some (.xd [("bar", .ref lp)]) → H' lp = some (.tup (barV (barM s.sds s.g s.l))) → E (.ref aTooLow) (some dd) H')
def spunlike_places (K : PySem.W.Frag) : Sp := fun vs H Q _ => ∃ (sp : Addr) (sds : List (List Nat)) (z : List Nat) (f : Nat), vs = [.ref sp, .str (S z), .int (f : Nat)] ∧ SqL K H sp (sds.map strV) ∧ (∀ sd ∈ sds, Sd 8 sd) ∧ sds.length ≤ 3 ∧ z.length ≤ 1000 ∧ ∀ D bs H', Same H H' → H D = none → H' D = some (.lst (bs.map V.ref)) → Lsn H' bs (upL sds z f sds.length) → Q (.ref D) H'
def splane (K : PySem.W.Frag) (PT : Addr) (aTooLow : Addr) : Sp := fun vs H Q E => ∃ (o t : List Nat) (d : Int) (sp ps : Addr) (sds : List (List Nat)) (g l told : Int), vs = [.str (S o), .str (S t), .int d, .ref sp, .ref ps, .int told] ∧ SqL K H sp (sds.map strV) ∧ SqT K H ps [.int g, .int l] ∧ (∀ sd ∈ sds, Sd 8 sd) ∧ 1 ≤ sds.length ∧ sds.length ≤ 3 ∧ 1 ≤ g ∧ g ≤ 9 ∧ 1 ≤ l ∧ l ≤ 9 ∧ o.length ≤ 100 ∧ t.length ≤ 100 ∧ -100000 ≤ d ∧ d ≤ 100000 ∧ LamX.TabS H PT qL ∧
  (Above (barM sds g l) told → ∀ (p : Addr) (H' : Hp), SmT PT qL H H' → H p = none → PapAt H' p (papP g l told sds o t d) → (∃ x y, H' p = some (.tup [x, y]) ∧ ((∃ n, y = .int n) ∨ ∃ D xs, y = .ref D ∧ H D = none ∧ H' D = some (.lst xs) ∧ xs.length ≤ 10000)) → Q (.ref p) H') ∧
  (¬ Above (barM sds g l) told → ∀ (dd lp : Addr) (H' : Hp), SmT PT qL H H' → H' dd = some (.xd [("bar", .ref lp)]) → H' lp = some (.tup (barV (barM sds g l))) → E (.ref aTooLow) (some dd) H')
def sp_each_is_under (K : PySem.W.Frag) : Sp := fun vs H Q _ => ∃ (pp up : Addr) (P : List Int) (bs : List Addr) (U : List (List Int)), vs = [.ref pp, .ref up] ∧ H pp = some (.lst (P.map V.int)) ∧ H up = some (.lst (bs.map V.ref)) ∧ Lsn H bs U ∧ P.length ≤ 10000 ∧ U.length ≤ 10000 ∧ ∀ H', Same H H' → Q (.bl (underB P U)) H'
def spshows (K : PySem.W.Frag) (PT : Addr) (aTooLow : Addr) : Sp := fun vs H Q E => ∃ (o t : List Nat) (d : Int) (sp ps pp : Addr) (sds : List (List Nat)) (g l told : Int) (P : Pap), vs = [.str (S o), .str (S t), .int d, .ref sp, .ref ps, .int told, .ref pp] ∧ SqL K H sp (sds.map strV) ∧ SqT K H ps [.int g, .int l] ∧ (∀ sd ∈ sds, Sd 8 sd) ∧ 1 ≤ sds.length ∧ sds.length ≤ 3 ∧ 1 ≤ g ∧ g ≤ 9 ∧ 1 ≤ l ∧ l ≤ 9 ∧ o.length ≤ 100 ∧ t.length ≤ 100 ∧ -100000 ≤ d ∧ d ≤ 100000 ∧ PapAt H pp P ∧ P.few ∧ LamX.TabS H PT qL ∧
  (Above (barM sds g l) told → ∀ H', SmT PT qL H H' → Q (.bl (shB g l told sds o t d P)) H') ∧
  (¬ Above (barM sds g l) told → ∀ (dd lp : Addr) (H' : Hp), SmT PT qL H H' → H' dd = some (.xd [("bar", .ref lp)]) → H' lp = some (.tup (barV (barM sds g l))) → E (.ref aTooLow) (some dd) H')
def sp_law_next (K : PySem.W.Frag) : Sp := fun vs H Q _ => ∃ (a b : Addr) (m : Int), vs = [.ref a, .int m] ∧ Src H a b ∧ 0 < m ∧ m < 1000000 ∧ ∀ (r : Int) (H' : Hp), 0 ≤ r → r < m → Src H' a b → Kp a b H H' → Q (.int r) H'
def sp_law_letters (K : PySem.W.Frag) : Sp := fun vs H Q _ => ∃ (a b : Addr), vs = [.ref a] ∧ Src H a b ∧ ∀ (t n : Nat) (H' : Hp), t < 26 → 2 ≤ n → n ≤ 6 → Src H' a b → Kp a b H H' → Q (.str (S (letL t n))) H'
def sp_law_row (K : PySem.W.Frag) : Sp := fun vs H Q _ => ∃ (a b : Addr) (l : List Nat) (m : Int), vs = [.ref a, .str (S l), .int m] ∧ Src H a b ∧ 0 < l.length ∧ l.length ≤ 1000 ∧ 0 ≤ m ∧ m ≤ 1000 ∧ ∀ (z : List Nat) (H' : Hp), (z.length : Int) ≤ m → (∀ c ∈ z, c ∈ l) → Src H' a b → Kp a b H H' → Q (.str (S z)) H'
def sp_law_near (K : PySem.W.Frag) : Sp := fun vs H Q _ => ∃ (a b : Addr) (r l : List Nat), vs = [.ref a, .str (S r), .str (S l)] ∧ Src H a b ∧ 0 < l.length ∧ l.length ≤ 1000 ∧ r.length ≤ 1000 ∧ (∀ c ∈ r, c ∈ l) ∧ ∀ (z : List Nat) (H' : Hp), z.length ≤ 60 → (∀ c ∈ z, c ∈ l) → Src H' a b → Kp a b H H' → Q (.str (S z)) H'
def sp_law_scale (K : PySem.W.Frag) : Sp := fun vs H Q _ => ∃ (a b : Addr), vs = [.ref a] ∧ Src H a b ∧ ∀ (g l : Int) (p : Addr) (H' : Hp), 1 ≤ g → g ≤ 9 → 1 ≤ l → l ≤ 9 → H' p = some (.tup [.int g, .int l]) → p ≠ a → p ≠ b → Src H' a b → Kp a b H H' → Q (.ref p) H'
def sp_law_seed (K : PySem.W.Frag) : Sp := fun vs H Q _ => ∃ (a b : Addr) (m : Nat), vs = [.ref a, .int (m : Nat)] ∧ Src H a b ∧ 1 ≤ m ∧ m ≤ 100 ∧ ∀ (sd : List Nat) (H' : Hp), Sd m sd → Src H' a b → Kp a b H H' → Q (.str (S sd)) H'
def sp_law_seeds (K : PySem.W.Frag) : Sp := fun vs H Q _ => ∃ (a b : Addr) (m : Nat), vs = [.ref a, .int (m : Nat)] ∧ Src H a b ∧ 1 ≤ m ∧ m ≤ 100 ∧ ∀ (sp : Addr) (sds : List (List Nat)) (H' : Hp), (∀ sd ∈ sds, Sd m sd) → 1 ≤ sds.length → sds.length ≤ 3 → H' sp = some (.lst (sds.map strV)) → H sp = none → sp ≠ a → sp ≠ b → Src H' a b → Kp a b H H' → Q (.ref sp) H'
def sp_law_rows (K : PySem.W.Frag) : Sp := fun vs H Q _ => ∃ (a b : Addr) (lt : List Nat) (m : Int), vs = [.ref a, .str (S lt), .int m] ∧ Src H a b ∧ 0 < lt.length ∧ lt.length ≤ 1000 ∧ (∀ c ∈ lt, c < 1114112) ∧ 0 ≤ m ∧ m ≤ 1000 ∧ ∀ (rp : Addr) (rows : List (List Nat)) (H' : Hp), (rows.length : Int) ≤ m → (∀ z ∈ rows, z.length ≤ 60 ∧ ∀ c ∈ z, c ∈ lt) → H' rp = some (.lst (rows.map strV)) → H rp = none → rp ≠ a → rp ≠ b → Src H' a b → Kp a b H H' → Q (.ref rp) H'
def sp_law_shelf (K : PySem.W.Frag) (PT : Addr) (cShelf : Addr) : Sp := fun vs H Q _ => ∃ (sc sp rp : Addr) (lets : List Nat) (g l : Int) (sds rows : List (List Nat)), vs = [.str (S lets), .ref sc, .ref sp, .ref rp] ∧ Lets lets ∧ H sc = some (.tup [.int g, .int l]) ∧ 1 ≤ g ∧ g ≤ 9 ∧ 1 ≤ l ∧ l ≤ 9 ∧ SqL K H sp (sds.map strV) ∧ (∀ sd ∈ sds, Sd 8 sd) ∧ 1 ≤ sds.length ∧ sds.length ≤ 3 ∧ SqL K H rp (rows.map strV) ∧ rows.length ≤ 20 ∧ (∀ z ∈ rows, z.length ≤ 60 ∧ ∀ c ∈ z, c ∈ lets) ∧ LamX.TabS H PT qL ∧
  ∀ (p : Addr) (foot : List Addr) (H' : Hp), ShAt cShelf H' p foot ⟨lets, g, l, sds, rows⟩ → (∀ b ∈ foot, H b = none) → SmT PT qL H H' → Q (.ref p) H'
def sp_law_ask (K : PySem.W.Frag) (PT : Addr) (aTooLow : Addr) (cShelf : Addr) : Sp := fun vs H Q E => ∃ (way : Int) (p : Addr) (foot : List Addr) (s : ShS) (o : List Nat) (told : Int) (sp ps : Addr), vs = [.int way, .ref p, .str (S o), .int told, .ref sp, .ref ps] ∧ ShAt cShelf H p foot s ∧ Lets s.lets ∧ s.rows.length ≤ 8 ∧ (∀ z ∈ s.rows, z.length ≤ 60 ∧ ∀ c ∈ z, c ∈ s.lets) ∧ o.length ≤ 60 ∧ (∀ c ∈ o, c ∈ s.lets) ∧ SqL K H sp (s.sds.map strV) ∧ SqT K H ps [.int s.g, .int s.l] ∧ BarOk s.sds s.g s.l (barM s.sds s.g s.l) ∧ 1 ≤ told ∧ LamX.TabS H PT qL ∧
  (Above (barM s.sds s.g s.l) told → ∀ H', SmT PT qL H H' → Q .non H') ∧
  (¬ Above (barM s.sds s.g s.l) told → ∀ (dd lp : Addr) (H' : Hp), SmT PT qL H H' → H' dd = some (.xd [("bar", .ref lp)]) → H' lp = some (.tup (barV (barM s.sds s.g s.l))) → E (.ref aTooLow) (some dd) H')
def sp_law_bar (K : PySem.W.Frag) (PT : Addr) (cShelf : Addr) : Sp := fun vs H Q _ => ∃ (way : Int) (p : Addr) (foot : List Addr) (s : ShS) (o : List Nat) (told : Int) (sp ps : Addr), vs = [.int way, .ref p, .str (S o), .int told, .ref sp, .ref ps] ∧ ShAt cShelf H p foot s ∧ Lets s.lets ∧ s.rows.length ≤ 8 ∧ (∀ z ∈ s.rows, z.length ≤ 60 ∧ ∀ c ∈ z, c ∈ s.lets) ∧ o.length ≤ 60 ∧ (∀ c ∈ o, c ∈ s.lets) ∧ SqL K H sp (s.sds.map strV) ∧ SqT K H ps [.int s.g, .int s.l] ∧ BarOk s.sds s.g s.l (barM s.sds s.g s.l) ∧ 1 ≤ told ∧ LamX.TabS H PT qL ∧
  (Above (barM s.sds s.g s.l) told → ∀ H', SmT PT qL H H' → Q .non H') ∧
  (¬ Above (barM s.sds s.g s.l) told → ∀ (lp : Addr) (H' : Hp), SmT PT qL H H' → H' lp = some (.tup (barV (barM s.sds s.g s.l))) → Q (.ref lp) H')
def splaw (K : PySem.W.Frag) (PT : Addr) : Sp := fun vs H Q _ => ∃ (a : Addr) (ns : List Int), vs = [.ref a] ∧ SqL K H a (ns.map V.int) ∧ ns.length ≤ 63 ∧ LamX.TabS H PT qL ∧ ∀ H', Q (.bl true) H'
end Sr
local macro_rules | `(tactic| walk_at "hp") => `(tactic| first | assumption | exact L2.upd_same | ((with_reducible refine Eq.trans (L2.upd_ne ?hne) ?hre); (case hne => first | assumption | exact Ne.symm (by assumption) | exact L2.ne_of_none (by assumption) (by assumption)); (case hre => walk_at "hp")))
local macro_rules | `(tactic| walk_at "sql") => `(tactic| first | assumption | exact L2.SqL.of (by walk_at "hp"))
local macro_rules | `(tactic| walk_at "sqt") => `(tactic| first | assumption | exact L2.SqT.of (by walk_at "hp"))
local macro_rules | `(tactic| walk_at "vc01") => `(tactic| first
  | (with_reducible refine L2.x_seq ?_)
  | (with_reducible refine L2.x_dget ?_)
  | (with_reducible refine L2.x_dnotin ?_)
  | (with_reducible refine L2.x_din ?_)
  | (with_reducible refine L2.x_dput ?_)
  | (with_reducible refine L2.x_dc ?_)
  | (with_reducible refine L2.x_ckw ?_)
  | (with_reducible refine L2.x_iTup ?_)
  | (with_reducible refine L2.x_iKeys ?_)
  | (with_reducible refine L2.x_listVals ?_)
  | (with_reducible refine L2.x_bm0 ?_)
  | (with_reducible refine L2.x_callS ?_)
  | (with_reducible refine L2.x_revS ?_)
  | (with_reducible refine L2.x_setT ?_)
  | (with_reducible refine L2.x_dget2 ?_)
  | (with_reducible refine L2.x_dnewT ?_)
  | (with_reducible refine L2.x_zadd ?_)
  | (with_reducible refine L2.x_make ?_)
  | (with_reducible refine L2.x_meth ?_)
  | (with_reducible refine L2.x_fld ?_)
  | (with_reducible refine L2.x_sfld ?_)
  | (with_reducible refine L2.x_iEnumL ?_)
  | (with_reducible refine L2.x_asg ?_)
  | (with_reducible refine L2.x_name ?_)
  | (with_reducible refine L2.x_op ?_)
  | ((with_reducible (refine L2.x_var (v := ?v) ?hv ?_)); case hv => rfl)
  | (with_reducible refine L2.x_c ?_)
  | (with_reducible refine L2.x_rI0 ?_)
  | ((with_reducible (refine L2.x_rI ?hrI ?_)); case hrI => first | exact ⟨by omega, by omega⟩ | exact .inr ⟨by omega, by omega⟩ | exact .inl ⟨by omega, by omega⟩ | (show (0 : Int) < _; omega) | exact ⟨by omega, by omega, by omega⟩ | exact ⟨by decide, by decide, by decide⟩)
  | (with_reducible refine L2.x_rU ?_)
  | (with_reducible refine L2.x_un ?_)
  | ((with_reducible (refine L2.x_rEq ?hs ?_)); case hs => rfl)
  | ((with_reducible (refine L2.x_rNe ?hs ?_)); case hs => rfl)
  | (with_reducible refine L2.x_test ?_)
  | (with_reducible refine L2.x_b ?_)
  | (with_reducible refine L2.x_bl ?_)
  | (with_reducible refine L2.x_and ?_)
  | (with_reducible refine L2.x_or ?_)
  | (with_reducible refine L2.x_not ?_)
  | (with_reducible refine L2.x_notV ?_)
  | (with_reducible refine L2.x_andV ?_)
  | (with_reducible refine L2.x_orV ?_)
  | (with_reducible refine L2.x_cons ?_)
  | (with_reducible refine L2.x_nil ?_)
  | (with_reducible refine L2.x_tup ?_)
  | (with_reducible refine L2.x_lst ?_)
  | (with_reducible refine L2.x_cb ?_)
  | (with_reducible refine L2.x_call ?_)
  | (with_reducible refine L2.x_chain ?_)
  | (with_reducible refine L2.x_next ?_)
  | (with_reducible refine L2.x_drop ?_)
  | (with_reducible refine L2.x_ret ?_)
  | (with_reducible refine L2.x_gCons ?_)
  | (with_reducible refine L2.x_gNil ?_)
  | (with_reducible refine L2.x_gSub ?_)
  | (with_reducible refine L2.x_bm ?_)
  | (with_reducible refine L2.x_m1 ?_)
  | (with_reducible refine L2.x_m1s ?_)
  | (with_reducible refine L2.x_sl ?_)
  | (with_reducible refine L2.x_noPart ?_)
  | (with_reducible refine L2.x_part ?_)
  | (with_reducible refine L2.x_parti ?_)
  | (with_reducible refine L2.x_rng1 ?_)
  | (with_reducible refine L2.x_rng2 ?_)
  | (with_reducible refine L2.x_lcR ?_)
  | (with_reducible refine L2.x_yes ?_)
  | (with_reducible refine L2.x_iList ?_)
  | (with_reducible refine L2.x_iStr ?_)
  | (with_reducible refine L2.x_iStri ?_)
  | (with_reducible refine L2.x_for ?_)
  | ((with_reducible (refine L2.x_rng2i ?h1 ?_)); (case h1 => exact ⟨by omega, by omega, by omega, by omega⟩))
  | (with_reducible refine L2.x_two ?_)
  | (with_reducible refine L2.x_chain3 ?_)
  | (with_reducible refine L2.x_iEnumS ?_)
  | (with_reducible refine L2.x_par ?_)
  | (with_reducible refine L2.x_parv ?_)
  | ((with_reducible (refine L2.x_aug (x := ?x) ?h ?_)); (case h => rfl))
  | (with_reducible refine L2.x_ipI ?_)
  | (with_reducible refine L2.iteT ?_)
  | (with_reducible refine L2.iteF ?_)
  | (with_reducible refine L2.x_iteNT ?_)
  | (with_reducible refine L2.x_iteNF ?_)
  | (with_reducible refine L2.x_s1 ?_)
  | (with_reducible refine L2.x_rIntB ?_)
  | ((with_reducible (refine L2.x_addS ?h1 ?_)); (case h1 => first | assumption | exact L2.hp_sz (by omega)))
  | (with_reducible refine L2.x_intB ?_)
  | ((with_reducible (refine L2.x_rng1i ?h1 ?h2 ?_)); (case h1 => omega); (case h2 => omega))
  | ((with_reducible (refine L2.x_lenS ?h1 ?_)); (case h1 => first | assumption | exact L2.hp_sz (by omega)))
  | ((with_reducible (refine L2.x_lenL (ys := ?ys) ?h1 ?_)); (case h1 => first | assumption | exact .inl (by walk_at "sql") | exact .inr (by walk_at "sqt")))
  | ((with_reducible (refine L2.x_setL (xs := ?xs) (k := ?k) ?h1 ?h2 ?_)); (case h1 => walk_at "hp"); (case h2 => first | assumption | rfl | exact L2.atI_nat (j := 0) rfl))
  | ((with_reducible (refine L2.x_ixL (xs := ?xs) (v := ?v) ?h1 ?h2 ?_)); (case h1 => walk_at "sql"); (case h2 => first | assumption | rfl | exact L2.atI_nat (j := 0) rfl))
  | ((with_reducible (refine L2.x_ixT (xs := ?xs) (v := ?v) ?h1 ?h2 ?_)); (case h1 => walk_at "sqt"); (case h2 => first | assumption | rfl | exact L2.atI_nat (j := 0) rfl))
  | (with_reducible refine L2.x_enumS ?_)
  | ((with_reducible (refine L2.x_gTup (xs := ?xs) ?h1 ?h2 ?_)); (case h1 => walk_at "sqt"); (case h2 => rfl)))
local macro_rules | `(tactic| walk_at "vc1") => `(tactic| first | (walk_at "vc01") | (with_reducible refine L2.x_ifE ?_) | (with_reducible refine L2.x_ifS ?_))
local macro_rules | `(tactic| walk_at "vc0") => `(tactic| repeat (walk_at "vc01"))
local macro_rules | `(tactic| walk_at "vc") => `(tactic| repeat (walk_at "vc1"))
namespace Sr
open PySem PySem.Spec PyProof.Rows L2 Zs
section
variable {P : Program} {w : World} {K : PySem.W.Frag} {mg : Str → Option Value} {base : Heap}
theorem okneed_letters {f : Addr} {fd : FuncData} {uFEWEST_LETTERS uMOST_LETTERS uALPHABET uLONGEST_ROW uLEAST_WEIGHT uMOST_WEIGHT uLIKE uUNLIKE uSHORTEST_SEED uLONGEST_SEED uPICK uGAP uFEWEST_SEEDS uMOST_SEEDS uBAR uENDLESS uLOW uREACHES uUNSEEDED : Value} (F : Fun K "need_letters" "need_letters" sneed_letters f fd) (B : Bl mg) (C : Cs mg uFEWEST_LETTERS uMOST_LETTERS uALPHABET uLONGEST_ROW uLEAST_WEIGHT uMOST_WEIGHT uLIKE uUNLIKE uSHORTEST_SEED uLONGEST_SEED uPICK uGAP uFEWEST_SEEDS uMOST_SEEDS uBAR uENDLESS uLOW uREACHES uUNSEEDED) : FnOk P w K mg base CX0 1 f fd ["letters"] (spneed_letters K) := by
  refine F.ok scneed_letters (fun vs H Q E h => ?_) (fun cdv A outer s H vs Q E hr h => ?_)
  · first
      | (obtain ⟨_, rfl, _⟩ := h; rfl)
      | (obtain ⟨_, _, rfl, _⟩ := h; rfl)
      | (obtain ⟨_, _, _, rfl, _⟩ := h; rfl)
      | (obtain ⟨_, _, _, _, rfl, _⟩ := h; rfl)
      | (obtain ⟨_, _, _, _, _, rfl, _⟩ := h; rfl)
      | (obtain ⟨_, _, _, _, _, _, rfl, _⟩ := h; rfl)
      | (obtain ⟨_, _, _, _, _, _, _, rfl, _⟩ := h; rfl)
      | (obtain ⟨_, _, _, _, _, _, _, _, rfl, _⟩ := h; rfl)
      | (obtain ⟨_, _, _, _, _, _, _, _, _, rfl, _⟩ := h; rfl)
      | (obtain ⟨_, _, _, _, _, _, _, _, _, _, rfl, _⟩ := h; rfl)
      | (obtain ⟨_, _, _, _, _, _, _, _, _, _, _, rfl, _⟩ := h; rfl)
      | (obtain ⟨_, _, _, _, _, _, _, _, _, _, _, _, rfl, _⟩ := h; rfl)
      | (obtain ⟨_, _, _, _, _, _, _, _, _, _, _, _, _, rfl, _⟩ := h; rfl)
      | (obtain ⟨_, _, _, _, _, _, _, _, _, _, _, _, _, _, rfl, _⟩ := h; rfl)
      | (obtain ⟨_, _, _, _, _, _, _, _, _, _, _, _, _, _, _, rfl, _⟩ := h; rfl)
      | (obtain ⟨_, _, _, _, _, _, _, _, _, _, _, _, _, _, _, _, rfl, _⟩ := h; rfl)
      | (obtain ⟨_, _, _, _, _, _, _, _, _, _, _, _, _, _, _, _, _, rfl, _⟩ := h; rfl)
  · obtain ⟨z, rfl, h2, h6, hc, hn, q⟩ := h
    have ez : ((S z).length : Int) = z.length := by rw [len_S]
    have lz : (S z).length ≤ sizeLine := hp_sz (by rw [len_S]; omega)
    have habc : ("abcdefghijklmnopqrstuvwxyz" : Str).cps.toList = (List.range 26).map (97 + ·) := by decide +kernel
    refine ⟨_, 
  (pss_cons (ps_if (PW.pt (pw_or (pt_cmpR op_lt (pe_callB call_len_str (by rfl) B.m_len PySem.boot_len (pa_cons (pv 0) pa_nil)) (pe_glob rfl C.c_FEWEST_LETTERS.2 C.c_FEWEST_LETTERS.1) (nomark _)) (pw_or1 (pt_cmpR op_gt (pe_callB call_len_str (by rfl) B.m_len PySem.boot_len (pa_cons (pv 0) pa_nil)) (pe_glob rfl C.c_MOST_LETTERS.2 C.c_MOST_LETTERS.1) (nomark _))))) 
    (pss_one (ps_never)) pss_nil) 
  (pss_one (ps_for PassesOwn.never rfl (pi_str (pv 0)) (pg_name (i := 1) scneed_letters.nd rfl (.inl rfl)) 
    (pss_cons (ps_if (pt_cmpR op_notIn_sign (pv 1) (pe_glob rfl C.c_ALPHABET.2 C.c_ALPHABET.1) (by rfl)) 
      (pss_one (ps_never)) pss_nil) 
    (pss_one (ps_if (pt_cmpR op_gt (pe_m1 PySem.F.slot_str_count PySem.F.type_str_count mt_count (pv 0) (pv 1)) pe_int (nomark _)) 
      (pss_one (ps_never)) pss_nil)))))), ?_⟩
    walk_at "vc"
    rw [decide_eq_false (show ¬ ((S z).length : Int) < 2 by omega)]
    walk_at "vc"
    rw [decide_eq_false (show ¬ (6 : Int) < ((S z).length : Int) by omega)]
    walk_at "vc"
    refine for_it (walk_str (z := S z)) (fun i σ H' => (∃ y, σ = [some (.str (S z)), y]) ∧ H' = H) ⟨⟨_, rfl⟩, rfl⟩ (fun _ _ _ _ _ => trivial) ?_ ?_
    · rintro i x σ H1 H2 hi ⟨⟨y, rfl⟩, rfl⟩ ⟨rfl, c, hci, rfl⟩
      have hz : z[i]? = some c := by simpa [S] using hci
      have hm := List.mem_of_getElem? hz
      have hcc := hc c hm
      walk_at "vc"
      refine ⟨c, _, rfl, rfl, ?_⟩
      rw [show decide (c ∈ (Str.ofString "abcdefghijklmnopqrstuvwxyz").cps.toList) = true from decide_eq_true (by rw [show (Str.ofString "abcdefghijklmnopqrstuvwxyz").cps.toList = _ from habc]; exact List.mem_map.mpr ⟨c - 97, List.mem_range.mpr (by omega), by omega⟩)]
      walk_at "vc"
      rw [show Txt.count (S z) ⟨#[c]⟩ = (((TL.tl (S z)).count c : Nat) : Int) from count_sign (S z) c, tl_S]
      have h1 := List.nodup_iff_count.mp hn c
      rw [decide_eq_false (show ¬ (1 : Int) < ((z.count c : Nat) : Int) by omega)]
      walk_at "vc"
      exact ⟨⟨_, rfl⟩, rfl⟩
    · rintro σ H1 ⟨⟨y, rfl⟩, rfl⟩
      exact q


theorem okneed_row {f : Addr} {fd : FuncData} {uFEWEST_LETTERS uMOST_LETTERS uALPHABET uLONGEST_ROW uLEAST_WEIGHT uMOST_WEIGHT uLIKE uUNLIKE uSHORTEST_SEED uLONGEST_SEED uPICK uGAP uFEWEST_SEEDS uMOST_SEEDS uBAR uENDLESS uLOW uREACHES uUNSEEDED : Value} (F : Fun K "need_row" "need_row" sneed_row f fd) (B : Bl mg) (C : Cs mg uFEWEST_LETTERS uMOST_LETTERS uALPHABET uLONGEST_ROW uLEAST_WEIGHT uMOST_WEIGHT uLIKE uUNLIKE uSHORTEST_SEED uLONGEST_SEED uPICK uGAP uFEWEST_SEEDS uMOST_SEEDS uBAR uENDLESS uLOW uREACHES uUNSEEDED) : FnOk P w K mg base CX0 1 f fd ["row", "letters"] (spneed_row K) := by
  refine F.ok scneed_row (fun vs H Q E h => ?_) (fun cdv A outer s H vs Q E hr h => ?_)
  · first
      | (obtain ⟨_, rfl, _⟩ := h; rfl)
      | (obtain ⟨_, _, rfl, _⟩ := h; rfl)
      | (obtain ⟨_, _, _, rfl, _⟩ := h; rfl)
      | (obtain ⟨_, _, _, _, rfl, _⟩ := h; rfl)
      | (obtain ⟨_, _, _, _, _, rfl, _⟩ := h; rfl)
      | (obtain ⟨_, _, _, _, _, _, rfl, _⟩ := h; rfl)
      | (obtain ⟨_, _, _, _, _, _, _, rfl, _⟩ := h; rfl)
      | (obtain ⟨_, _, _, _, _, _, _, _, rfl, _⟩ := h; rfl)
      | (obtain ⟨_, _, _, _, _, _, _, _, _, rfl, _⟩ := h; rfl)
      | (obtain ⟨_, _, _, _, _, _, _, _, _, _, rfl, _⟩ := h; rfl)
      | (obtain ⟨_, _, _, _, _, _, _, _, _, _, _, rfl, _⟩ := h; rfl)
      | (obtain ⟨_, _, _, _, _, _, _, _, _, _, _, _, rfl, _⟩ := h; rfl)
      | (obtain ⟨_, _, _, _, _, _, _, _, _, _, _, _, _, rfl, _⟩ := h; rfl)
      | (obtain ⟨_, _, _, _, _, _, _, _, _, _, _, _, _, _, rfl, _⟩ := h; rfl)
      | (obtain ⟨_, _, _, _, _, _, _, _, _, _, _, _, _, _, _, rfl, _⟩ := h; rfl)
      | (obtain ⟨_, _, _, _, _, _, _, _, _, _, _, _, _, _, _, _, rfl, _⟩ := h; rfl)
      | (obtain ⟨_, _, _, _, _, _, _, _, _, _, _, _, _, _, _, _, _, rfl, _⟩ := h; rfl)
  · obtain ⟨z, lets, rfl, h60, hc, q⟩ := h
    have ez : ((S z).length : Int) = z.length := by rw [len_S]
    have lz : (S z).length ≤ sizeLine := hp_sz (by rw [len_S]; omega)
    refine ⟨_, 
  (pss_cons (ps_if (pt_cmpR op_gt (pe_callB call_len_str (by rfl) B.m_len PySem.boot_len (pa_cons (pv 0) pa_nil)) (pe_glob rfl C.c_LONGEST_ROW.2 C.c_LONGEST_ROW.1) (nomark _)) 
    (pss_one (ps_never)) pss_nil) 
  (pss_one (ps_for PassesOwn.never rfl (pi_str (pv 0)) (pg_name (i := 2) scneed_row.nd rfl (.inl rfl)) 
    (pss_one (ps_if (pt_cmpR op_notIn_sign (pv 2) (pv 1) (by rfl)) 
      (pss_one (ps_never)) pss_nil))))), ?_⟩
    walk_at "vc"
    rw [decide_eq_false (show ¬ (60 : Int) < ((S z).length : Int) by omega)]
    walk_at "vc"
    refine for_it (walk_str (z := S z)) (fun i σ H' => (∃ y, σ = [some (.str (S z)), some (.str (S lets)), y]) ∧ H' = H) ⟨⟨_, rfl⟩, rfl⟩ (fun _ _ _ _ _ => trivial) ?_ ?_
    · rintro i x σ H1 H2 hi ⟨⟨y, rfl⟩, rfl⟩ ⟨rfl, c, hci, rfl⟩
      have hz : z[i]? = some c := by simpa [S] using hci
      have hm := hc c (List.mem_of_getElem? hz)
      walk_at "vc"
      refine ⟨c, _, rfl, rfl, ?_⟩
      rw [show decide (c ∈ (S lets).cps.toList) = true from decide_eq_true hm]
      walk_at "vc"
      exact ⟨⟨_, rfl⟩, rfl⟩
    · rintro σ H1 ⟨⟨y, rfl⟩, rfl⟩
      exact q


theorem okneed_scale {f : Addr} {fd : FuncData} {uFEWEST_LETTERS uMOST_LETTERS uALPHABET uLONGEST_ROW uLEAST_WEIGHT uMOST_WEIGHT uLIKE uUNLIKE uSHORTEST_SEED uLONGEST_SEED uPICK uGAP uFEWEST_SEEDS uMOST_SEEDS uBAR uENDLESS uLOW uREACHES uUNSEEDED : Value} (F : Fun K "need_scale" "need_scale" sneed_scale f fd) (B : Bl mg) (C : Cs mg uFEWEST_LETTERS uMOST_LETTERS uALPHABET uLONGEST_ROW uLEAST_WEIGHT uMOST_WEIGHT uLIKE uUNLIKE uSHORTEST_SEED uLONGEST_SEED uPICK uGAP uFEWEST_SEEDS uMOST_SEEDS uBAR uENDLESS uLOW uREACHES uUNSEEDED) : FnOk P w K mg base CX0 1 f fd ["scale"] (spneed_scale K) := by
  refine F.ok scneed_scale (fun vs H Q E h => ?_) (fun cdv A outer s H vs Q E hr h => ?_)
  · first
      | (obtain ⟨_, rfl, _⟩ := h; rfl)
      | (obtain ⟨_, _, rfl, _⟩ := h; rfl)
      | (obtain ⟨_, _, _, rfl, _⟩ := h; rfl)
      | (obtain ⟨_, _, _, _, rfl, _⟩ := h; rfl)
      | (obtain ⟨_, _, _, _, _, rfl, _⟩ := h; rfl)
      | (obtain ⟨_, _, _, _, _, _, rfl, _⟩ := h; rfl)
      | (obtain ⟨_, _, _, _, _, _, _, rfl, _⟩ := h; rfl)
      | (obtain ⟨_, _, _, _, _, _, _, _, rfl, _⟩ := h; rfl)
      | (obtain ⟨_, _, _, _, _, _, _, _, _, rfl, _⟩ := h; rfl)
      | (obtain ⟨_, _, _, _, _, _, _, _, _, _, rfl, _⟩ := h; rfl)
      | (obtain ⟨_, _, _, _, _, _, _, _, _, _, _, rfl, _⟩ := h; rfl)
      | (obtain ⟨_, _, _, _, _, _, _, _, _, _, _, _, rfl, _⟩ := h; rfl)
      | (obtain ⟨_, _, _, _, _, _, _, _, _, _, _, _, _, rfl, _⟩ := h; rfl)
      | (obtain ⟨_, _, _, _, _, _, _, _, _, _, _, _, _, _, rfl, _⟩ := h; rfl)
      | (obtain ⟨_, _, _, _, _, _, _, _, _, _, _, _, _, _, _, rfl, _⟩ := h; rfl)
      | (obtain ⟨_, _, _, _, _, _, _, _, _, _, _, _, _, _, _, _, rfl, _⟩ := h; rfl)
      | (obtain ⟨_, _, _, _, _, _, _, _, _, _, _, _, _, _, _, _, _, rfl, _⟩ := h; rfl)
  · obtain ⟨p, g, l, rfl, hp, g1, g2, l1, l2, q⟩ := h
    refine ⟨_, 
  (pss_cons (ps_asg (pv 0) (pg_tup rfl (pgs_cons (pg_name (i := 1) scneed_scale.nd rfl (.inl rfl)) (pgs_cons (pg_name (i := 2) scneed_scale.nd rfl (.inl rfl)) pgs_nil)))) 
  (pss_one (ps_for PassesOwn.never rfl (pi_tup (pe_tup (pa_cons (pv 1) (pa_cons (pv 2) pa_nil)))) (pg_name (i := 3) scneed_scale.nd rfl (.inl rfl)) 
    (pss_one (ps_if (PW.pt (pw_or (pt_cmpR op_lt (pv 3) (pe_glob rfl C.c_LEAST_WEIGHT.2 C.c_LEAST_WEIGHT.1) (nomark _)) (pw_or1 (pt_cmpR op_gt (pv 3) (pe_glob rfl C.c_MOST_WEIGHT.2 C.c_MOST_WEIGHT.1) (nomark _))))) 
      (pss_one (ps_never)) pss_nil))))), ?_⟩
    walk_at "vc"
    refine ⟨(show 2 ≤ sizeLine by decide), fun tp htp => ?_⟩
    have sm1 : Same H (upd H tp (.tup [.int g, .int l])) := same_upd htp
    have htp1 : upd H tp (.tup [.int g, .int l]) tp = some (.tup [.int g, .int l]) := upd_same
    generalize upd H tp (.tup [.int g, .int l]) = H1 at sm1 htp1
    refine ⟨tp, rfl, ⟨_, SqT.of htp1⟩, ?_⟩
    refine for_it (walk_tup (xs := [.int g, .int l])) (fun i σ H' => (∃ y, σ = [some (.ref p), some (.int g), some (.int l), y]) ∧ H' = H1) ⟨⟨_, rfl⟩, rfl⟩ (fun i σ H' _ h => by rw [h.2]; exact SqT.of htp1) ?_ ?_
    · rintro i x σ H2 H3 hi ⟨⟨y, rfl⟩, rfl⟩ ⟨rfl, hx⟩
      obtain ⟨n, rfl, n1, n9⟩ : ∃ n : Int, x = .int n ∧ 1 ≤ n ∧ n ≤ 9 := by
        have hi2 : i < 2 := hi
        have : i = 0 ∨ i = 1 := by omega
        rcases this with e | e
        · subst e; exact ⟨g, (Option.some.inj hx).symm, g1, g2⟩
        · subst e; exact ⟨l, (Option.some.inj hx).symm, l1, l2⟩
      walk_at "vc"
      rw [decide_eq_false (show ¬ n < 1 by omega)]
      walk_at "vc"
      rw [decide_eq_false (show ¬ 9 < n by omega)]
      walk_at "vc"
      exact ⟨⟨_, rfl⟩, rfl⟩
    · rintro σ H2 ⟨⟨y, rfl⟩, rfl⟩
      exact q _ sm1


theorem oklane_begin {f : Addr} {fd : FuncData} (F : Fun K "lane_begin" "lane_begin" slane_begin f fd) (B : Bl mg) : FnOk P w K mg base CX0 1 f fd ["shift"] (splane_begin K) := by
  refine F.ok sclane_begin (fun vs H Q E h => ?_) (fun cdv A outer s H vs Q E hr h => ?_)
  · first
      | (obtain ⟨_, rfl, _⟩ := h; rfl)
      | (obtain ⟨_, _, rfl, _⟩ := h; rfl)
      | (obtain ⟨_, _, _, rfl, _⟩ := h; rfl)
      | (obtain ⟨_, _, _, _, rfl, _⟩ := h; rfl)
      | (obtain ⟨_, _, _, _, _, rfl, _⟩ := h; rfl)
      | (obtain ⟨_, _, _, _, _, _, rfl, _⟩ := h; rfl)
      | (obtain ⟨_, _, _, _, _, _, _, rfl, _⟩ := h; rfl)
      | (obtain ⟨_, _, _, _, _, _, _, _, rfl, _⟩ := h; rfl)
      | (obtain ⟨_, _, _, _, _, _, _, _, _, rfl, _⟩ := h; rfl)
      | (obtain ⟨_, _, _, _, _, _, _, _, _, _, rfl, _⟩ := h; rfl)
      | (obtain ⟨_, _, _, _, _, _, _, _, _, _, _, rfl, _⟩ := h; rfl)
      | (obtain ⟨_, _, _, _, _, _, _, _, _, _, _, _, rfl, _⟩ := h; rfl)
      | (obtain ⟨_, _, _, _, _, _, _, _, _, _, _, _, _, rfl, _⟩ := h; rfl)
      | (obtain ⟨_, _, _, _, _, _, _, _, _, _, _, _, _, _, rfl, _⟩ := h; rfl)
      | (obtain ⟨_, _, _, _, _, _, _, _, _, _, _, _, _, _, _, rfl, _⟩ := h; rfl)
      | (obtain ⟨_, _, _, _, _, _, _, _, _, _, _, _, _, _, _, _, rfl, _⟩ := h; rfl)
      | (obtain ⟨_, _, _, _, _, _, _, _, _, _, _, _, _, _, _, _, _, rfl, _⟩ := h; rfl)
  · obtain ⟨d, rfl, q⟩ := h
    refine ⟨_, 
  (pss_one (ps_ret (pe_callB (call_max2 rfl) (by rfl) B.m_max (by decide +kernel) (pa_cons pe_int (pa_cons (pe_un un_neg (pv 0)) pa_nil))))), ?_⟩
    walk_at "vc"
    have e : (if -d > 0 then -d else 0) = ((bgn d : Nat) : Int) := by unfold bgn; omega
    rw [e]
    exact q


theorem oklikes_of {f : Addr} {fd : FuncData} {uFEWEST_LETTERS uMOST_LETTERS uALPHABET uLONGEST_ROW uLEAST_WEIGHT uMOST_WEIGHT uLIKE uUNLIKE uSHORTEST_SEED uLONGEST_SEED uPICK uGAP uFEWEST_SEEDS uMOST_SEEDS uBAR uENDLESS uLOW uREACHES uUNSEEDED : Value} {flane_begin : Addr} {fdlane_begin : FuncData} (F : Fun K "likes_of" "likes_of" slikes_of f fd) (B : Bl mg) (C : Cs mg uFEWEST_LETTERS uMOST_LETTERS uALPHABET uLONGEST_ROW uLEAST_WEIGHT uMOST_WEIGHT uLIKE uUNLIKE uSHORTEST_SEED uLONGEST_SEED uPICK uGAP uFEWEST_SEEDS uMOST_SEEDS uBAR uENDLESS uLOW uREACHES uUNSEEDED) (Dlane_begin : Dn P w K mg base "lane_begin" 1 ["shift"] (splane_begin K) flane_begin fdlane_begin) : FnOk P w K mg base CX0 2 f fd ["one", "other", "shift"] (splikes_of K) := by
  refine F.ok sclikes_of (fun vs H Q E h => ?_) (fun cdv A outer s H vs Q E hr h => ?_)
  · first
      | (obtain ⟨_, rfl, _⟩ := h; rfl)
      | (obtain ⟨_, _, rfl, _⟩ := h; rfl)
      | (obtain ⟨_, _, _, rfl, _⟩ := h; rfl)
      | (obtain ⟨_, _, _, _, rfl, _⟩ := h; rfl)
      | (obtain ⟨_, _, _, _, _, rfl, _⟩ := h; rfl)
      | (obtain ⟨_, _, _, _, _, _, rfl, _⟩ := h; rfl)
      | (obtain ⟨_, _, _, _, _, _, _, rfl, _⟩ := h; rfl)
      | (obtain ⟨_, _, _, _, _, _, _, _, rfl, _⟩ := h; rfl)
      | (obtain ⟨_, _, _, _, _, _, _, _, _, rfl, _⟩ := h; rfl)
      | (obtain ⟨_, _, _, _, _, _, _, _, _, _, rfl, _⟩ := h; rfl)
      | (obtain ⟨_, _, _, _, _, _, _, _, _, _, _, rfl, _⟩ := h; rfl)
      | (obtain ⟨_, _, _, _, _, _, _, _, _, _, _, _, rfl, _⟩ := h; rfl)
      | (obtain ⟨_, _, _, _, _, _, _, _, _, _, _, _, _, rfl, _⟩ := h; rfl)
      | (obtain ⟨_, _, _, _, _, _, _, _, _, _, _, _, _, _, rfl, _⟩ := h; rfl)
      | (obtain ⟨_, _, _, _, _, _, _, _, _, _, _, _, _, _, _, rfl, _⟩ := h; rfl)
      | (obtain ⟨_, _, _, _, _, _, _, _, _, _, _, _, _, _, _, _, rfl, _⟩ := h; rfl)
      | (obtain ⟨_, _, _, _, _, _, _, _, _, _, _, _, _, _, _, _, _, rfl, _⟩ := h; rfl)
  · obtain ⟨o, t, d, rfl, ho, ht, hd1, hd2, q⟩ := h
    have eo : ((S o).length : Int) = o.length := by rw [len_S]
    have et : ((S t).length : Int) = t.length := by rw [len_S]
    have lo : (S o).length ≤ sizeLine := hp_sz (by rw [len_S]; omega)
    have lt : (S t).length ≤ sizeLine := hp_sz (by rw [len_S]; omega)
    refine ⟨_, 
  (pss_cons (ps_set (i := 3) sclikes_of.nd rfl (.inl rfl) (pe_call Dlane_begin.ok hr (by rfl) Dlane_begin.g Dlane_begin.kp Dlane_begin.b .nil pass0 (pa_cons (pv 2) pa_nil))) 
  (pss_cons (ps_set (i := 4) sclikes_of.nd rfl (.inl rfl) (pe_callB (call_min2 rfl) (by rfl) B.m_min (by decide +kernel) (pa_cons (pe_callB call_len_str (by rfl) B.m_len PySem.boot_len (pa_cons (pv 0) pa_nil)) (pa_cons (pe_op op_sub (pe_callB call_len_str (by rfl) B.m_len PySem.boot_len (pa_cons (pv 1) pa_nil)) (pv 2)) pa_nil)))) 
  (pss_one (ps_ret (pe_join pe_str (pe_lc (own := [("place", 5)]) (g := gName 5) (tt := tYes) rfl sclikes_of.nd (pi_range2 rfl B.m_range (pa_cons (pv 3) (pa_cons (pv 4) pa_nil))) (blkOk_by (N := nlikes_of) (sc := defScope slikes_of) (by decide +kernel)) (fun _ _ _ _ _ => (pg_name (i := 5) sclikes_of.nd rfl (.inl rfl))) (fun _ _ _ _ _ => pts_nil) (fun _ _ _ _ _ => (pe_ifExp (pt_cmpR op_eq (pe_ix ix_str (pv 0) (pv 5) (fun _ _ => rfl)) (pe_ix ix_str (pv 1) (pe_op op_add (pv 5) (pv 2)) (fun _ _ => rfl)) (nomark _)) (pe_glob rfl C.c_LIKE.2 C.c_LIKE.1) (pe_glob rfl C.c_UNLIKE.2 C.c_UNLIKE.1))))))))), ?_⟩
    walk_at "vc"
    refine ⟨d, rfl, ?_⟩
    walk_at "vc"
    have eb : ((bgn d : Nat) : Int) = if -d > 0 then -d else 0 := by unfold bgn; omega
    refine ⟨⟨by omega, by omega, by split <;> omega, by split <;> omega⟩, ?_⟩
    have en : ((if ((S t).length : Int) - d < ((S o).length : Int) then ((S t).length : Int) - d else ((S o).length : Int)) - ((bgn d : Nat) : Int)).toNat = lkn o.length t.length d := by
      rw [eo, et]
      unfold lkn
      omega
    rw [en]
    intro D hD
    refine lc_range (fun i H' => Same H H' ∧ H' D = some (.lst ((List.range i).map fun i => V.str (sg (lk1 o t d (bgn d + i)))))) ⟨same_upd hD, upd_same⟩ (fun i H' hi h => ?_) (fun H' h => ?_)
    · walk_at "vc"
      refine ⟨rfl, ?_⟩
      have h1 : bgn d + i < o.length := by unfold lkn at hi; omega
      have h2 : 0 ≤ ((bgn d + i : Nat) : Int) + d := by unfold bgn; omega
      have h3 : (((bgn d + i : Nat) : Int) + d).toNat < t.length := by unfold lkn at hi; omega
      walk_at "vc"
      refine x_ixS lo (c := o[bgn d + i]) (atI_of (by omega) ?_) ?_
      · have e : (((bgn d : Nat) : Int) + (i : Int)).toNat = bgn d + i := by omega
        rw [e]
        exact List.getElem?_eq_getElem h1
      walk_at "vc"
      refine x_ixS lt (c := t[(((bgn d + i : Nat) : Int) + d).toNat]) (atI_of (by omega) ?_) ?_
      · have e : ((((bgn d : Nat) : Int) + (i : Int)) + d).toNat = (((bgn d + i : Nat) : Int) + d).toNat := by omega
        rw [e]
        exact List.getElem?_eq_getElem h3
      walk_at "vc"
      have ek : ∀ c : Nat, lk1 o t d (bgn d + i) = c → ∃ acc, H' D = some (.lst acc) ∧ acc.length < sizeLine ∧ (Same H (upd H' D (.lst (acc ++ [V.str (sg c)]))) ∧ upd H' D (.lst (acc ++ [V.str (sg c)])) D = some (.lst ((List.range (i + 1)).map fun i => V.str (sg (lk1 o t d (bgn d + i)))))) :=
        fun c hc => pv_step hD h.1 h.2 (by unfold lkn at hi; omega) (by rw [hc])
      have el : lk1 o t d (bgn d + i) = if o[bgn d + i] = t[(((bgn d + i : Nat) : Int) + d).toNat] then 61 else 47 := by
        unfold lk1
        rw [List.getElem?_eq_getElem h1, List.getElem?_eq_getElem h3]
        simp only [Option.some.injEq]
      refine ite2 (fun e => ?_) (fun e => ?_)
      · walk_at "vc"
        refine ek 61 ?_
        have e' := of_decide_eq_true e
        rw [el, if_pos]
        simpa using e'
      · walk_at "vc"
        refine ek 47 ?_
        rw [el, if_neg]
        intro e'
        exact e (decide_eq_true (by rw [e']))
    · refine join_end (cs := likL o t d) ?_ (by have := likL_le o t d; omega) ?_
      · rw [h.2, likL_eq, List.map_map]
        rfl
      · exact q H' h.1


theorem okworth_of {f : Addr} {fd : FuncData} {uFEWEST_LETTERS uMOST_LETTERS uALPHABET uLONGEST_ROW uLEAST_WEIGHT uMOST_WEIGHT uLIKE uUNLIKE uSHORTEST_SEED uLONGEST_SEED uPICK uGAP uFEWEST_SEEDS uMOST_SEEDS uBAR uENDLESS uLOW uREACHES uUNSEEDED : Value} (F : Fun K "worth_of" "worth_of" sworth_of f fd) (B : Bl mg) (C : Cs mg uFEWEST_LETTERS uMOST_LETTERS uALPHABET uLONGEST_ROW uLEAST_WEIGHT uMOST_WEIGHT uLIKE uUNLIKE uSHORTEST_SEED uLONGEST_SEED uPICK uGAP uFEWEST_SEEDS uMOST_SEEDS uBAR uENDLESS uLOW uREACHES uUNSEEDED) : FnOk P w K mg base CX0 1 f fd ["likes", "scale"] (spworth_of K) := by
  refine F.ok scworth_of (fun vs H Q E h => ?_) (fun cdv A outer s H vs Q E hr h => ?_)
  · first
      | (obtain ⟨_, rfl, _⟩ := h; rfl)
      | (obtain ⟨_, _, rfl, _⟩ := h; rfl)
      | (obtain ⟨_, _, _, rfl, _⟩ := h; rfl)
      | (obtain ⟨_, _, _, _, rfl, _⟩ := h; rfl)
      | (obtain ⟨_, _, _, _, _, rfl, _⟩ := h; rfl)
      | (obtain ⟨_, _, _, _, _, _, rfl, _⟩ := h; rfl)
      | (obtain ⟨_, _, _, _, _, _, _, rfl, _⟩ := h; rfl)
      | (obtain ⟨_, _, _, _, _, _, _, _, rfl, _⟩ := h; rfl)
      | (obtain ⟨_, _, _, _, _, _, _, _, _, rfl, _⟩ := h; rfl)
      | (obtain ⟨_, _, _, _, _, _, _, _, _, _, rfl, _⟩ := h; rfl)
      | (obtain ⟨_, _, _, _, _, _, _, _, _, _, _, rfl, _⟩ := h; rfl)
      | (obtain ⟨_, _, _, _, _, _, _, _, _, _, _, _, rfl, _⟩ := h; rfl)
      | (obtain ⟨_, _, _, _, _, _, _, _, _, _, _, _, _, rfl, _⟩ := h; rfl)
      | (obtain ⟨_, _, _, _, _, _, _, _, _, _, _, _, _, _, rfl, _⟩ := h; rfl)
      | (obtain ⟨_, _, _, _, _, _, _, _, _, _, _, _, _, _, _, rfl, _⟩ := h; rfl)
      | (obtain ⟨_, _, _, _, _, _, _, _, _, _, _, _, _, _, _, _, rfl, _⟩ := h; rfl)
      | (obtain ⟨_, _, _, _, _, _, _, _, _, _, _, _, _, _, _, _, _, rfl, _⟩ := h; rfl)
  · obtain ⟨z, p, g, l, rfl, hT, hz, hg1, hg2, hl1, hl2, q⟩ := h
    refine ⟨_, 
  (pss_cons (ps_asg (pv 1) (pg_tup rfl (pgs_cons (pg_name (i := 2) scworth_of.nd rfl (.inl rfl)) (pgs_cons (pg_name (i := 3) scworth_of.nd rfl (.inl rfl)) pgs_nil)))) 
  (pss_one (ps_ret (pe_op op_sub (pe_op op_mul (pv 2) (pe_m1 PySem.F.slot_str_count PySem.F.type_str_count mt_count (pv 0) (pe_glob rfl C.c_LIKE.2 C.c_LIKE.1))) (pe_op op_mul (pv 3) (pe_m1 PySem.F.slot_str_count PySem.F.type_str_count mt_count (pv 0) (pe_glob rfl C.c_UNLIKE.2 C.c_UNLIKE.1))))))), ?_⟩
    walk_at "vc"
    have e1 := count_sign (S z) 61
    have e2 := count_sign (S z) 47
    have e3 := wor_count g l hz
    rw [tl_S] at e1 e2
    show Q (V.int (g * Txt.count (S z) (sg 61) - l * Txt.count (S z) (sg 47))) H
    rw [e1, e2, e3]
    exact q


theorem okgreatest_worth {f : Addr} {fd : FuncData} {fworth_of : Addr} {fdworth_of : FuncData} (F : Fun K "greatest_worth" "greatest_worth" sgreatest_worth f fd) (B : Bl mg) (Dworth_of : Dn P w K mg base "worth_of" 1 ["likes", "scale"] (spworth_of K) fworth_of fdworth_of) : FnOk P w K mg base CX0 2 f fd ["likes", "scale"] (spgreatest_worth K) := by
  refine F.ok scgreatest_worth (fun vs H Q E h => ?_) (fun cdv A outer s H vs Q E hr h => ?_)
  · first
      | (obtain ⟨_, rfl, _⟩ := h; rfl)
      | (obtain ⟨_, _, rfl, _⟩ := h; rfl)
      | (obtain ⟨_, _, _, rfl, _⟩ := h; rfl)
      | (obtain ⟨_, _, _, _, rfl, _⟩ := h; rfl)
      | (obtain ⟨_, _, _, _, _, rfl, _⟩ := h; rfl)
      | (obtain ⟨_, _, _, _, _, _, rfl, _⟩ := h; rfl)
      | (obtain ⟨_, _, _, _, _, _, _, rfl, _⟩ := h; rfl)
      | (obtain ⟨_, _, _, _, _, _, _, _, rfl, _⟩ := h; rfl)
      | (obtain ⟨_, _, _, _, _, _, _, _, _, rfl, _⟩ := h; rfl)
      | (obtain ⟨_, _, _, _, _, _, _, _, _, _, rfl, _⟩ := h; rfl)
      | (obtain ⟨_, _, _, _, _, _, _, _, _, _, _, rfl, _⟩ := h; rfl)
      | (obtain ⟨_, _, _, _, _, _, _, _, _, _, _, _, rfl, _⟩ := h; rfl)
      | (obtain ⟨_, _, _, _, _, _, _, _, _, _, _, _, _, rfl, _⟩ := h; rfl)
      | (obtain ⟨_, _, _, _, _, _, _, _, _, _, _, _, _, _, rfl, _⟩ := h; rfl)
      | (obtain ⟨_, _, _, _, _, _, _, _, _, _, _, _, _, _, _, rfl, _⟩ := h; rfl)
      | (obtain ⟨_, _, _, _, _, _, _, _, _, _, _, _, _, _, _, _, rfl, _⟩ := h; rfl)
      | (obtain ⟨_, _, _, _, _, _, _, _, _, _, _, _, _, _, _, _, _, rfl, _⟩ := h; rfl)
  · obtain ⟨z, p, g, l, rfl, hp, hz, h0, h1, g0, g1, l0, l1, q⟩ := h
    refine ⟨_, 
  (pss_cons (ps_set (i := 2) scgreatest_worth.nd rfl (.inl rfl) pe_int) 
  (pss_cons (ps_set (i := 3) scgreatest_worth.nd rfl (.inl rfl) (pe_lst pa_nil)) 
  (pss_cons (ps_for PassesOwn.never rfl (pi_str (pv 0)) (pg_name (i := 4) scgreatest_worth.nd rfl (.inl rfl)) 
    (pss_cons (ps_set (i := 2) scgreatest_worth.nd rfl (.inl rfl) (pe_op op_add (pe_callB (call_max2 rfl) (by rfl) B.m_max (by decide +kernel) (pa_cons pe_int (pa_cons (pv 2) pa_nil))) (pe_call Dworth_of.ok hr (by rfl) Dworth_of.g Dworth_of.kp Dworth_of.b .nil pass0 (pa_cons (pv 4) (pa_cons (pv 1) pa_nil))))) 
    (pss_one (ps_expr (pe_bm PySem.F.plainAttrs_list PySem.F.slot_list_append PySem.F.type_list_append mt_append (pv 3) (pa_cons (pv 2) pa_nil)))))) 
  (pss_one (ps_ret (pe_callB (cr_max rfl) (by rfl) B.m_max (by decide +kernel) (pa_cons (pv 3) pa_nil))))))), ?_⟩
    walk_at "vc"
    refine ⟨by decide, fun fp hfp => ?_⟩
    have sm1 : Same H (upd H fp (.lst [])) := same_upd hfp
    have hfp1 : upd H fp (.lst []) fp = some (.lst []) := upd_same
    generalize upd H fp (.lst []) = H1 at sm1 hfp1
    walk_at "vc"
    refine for_it (walk_str (z := S z)) (fun i σ H' => ∃ (e : Int) (ws : List Int) (y4 : Option V), σ = [some (.str (S z)), some (.ref p), some (.int e), some (.ref fp), y4] ∧ Same H H' ∧ H' fp = some (.lst (ws.map V.int)) ∧ ws.length = i ∧ (∀ k m, ws[k]? = some m → En (lev g l z) (k + 1) m) ∧ (i = 0 → e = 0) ∧ (0 < i → En (lev g l z) i e)) ⟨0, [], _, rfl, sm1, hfp1, rfl, (fun k m h => by simp at h), fun _ => rfl, fun h => by omega⟩ (fun _ _ _ _ _ => trivial) ?_ ?_
    · rintro i x σ H2 H3 hi ⟨e, ws, y4, rfl, sm2, hfp2, hwl, hws, e0, e1⟩ ⟨rfl, c, hci, rfl⟩
      have hzc : z[i]? = some c := by simpa [S] using hci
      have hil : i < z.length := (List.getElem?_eq_some_iff.mp hzc).1
      have hc : z[i] = c := Option.some.inj ((List.getElem?_eq_getElem hil).symm.trans hzc)
      have hcl := hz c (List.mem_of_getElem? hzc)
      walk_at "vc"
      refine ⟨[c], p, g, l, rfl, SqT_same sm2 hp, fun c' h => by rw [List.mem_singleton.mp h]; exact hcl, g0, g1, l0, l1, ?_⟩
      rw [← hc, lev_add g l hil]
      have hE : En (lev g l z) (i + 1) ((if e > 0 then e else 0) + (lev g l z (i + 1) - lev g l z i)) := by
        by_cases hi0 : i = 0
        · subst hi0
          rw [e0 rfl]
          exact En.one _
        · exact (e1 (by omega)).step (by omega)
      obtain ⟨e', he'⟩ : ∃ e', e' = (if e > 0 then e else 0) + (lev g l z (i + 1) - lev g l z i) := ⟨_, rfl⟩
      rw [← he'] at hE
      walk_at "vc"
      refine ⟨.inl ⟨rfl, _, SqL.of hfp2⟩, ?_⟩
      walk_at "vc"
      refine x_append hfp2 (by rw [List.length_map, hwl]; exact Nat.lt_of_le_of_lt (by omega : _ ≤ 1000) (by decide)) ?_
      rw [← he']
      refine ⟨e', ws ++ [e'], _, rfl, sm2.putN hfp, by rw [upd_same, List.map_append]; rfl, by rw [List.length_append, hwl]; rfl, fun k m hk => ?_, fun h => by omega, fun _ => hE⟩
      by_cases hki : k < i
      · rw [List.getElem?_append_left (by omega)] at hk
        exact hws k m hk
      · have hk2 := (List.getElem?_eq_some_iff.mp hk).1
        rw [List.length_append, hwl] at hk2
        have : k = i := by
          have : k < i + 1 := hk2
          omega
        subst this
        rw [List.getElem?_append_right (by omega), hwl, Nat.sub_self] at hk
        rw [← Option.some.inj hk]
        exact hE
    · rintro σ H2 ⟨e, ws, y4, rfl, sm2, hfp2, hwl, hws, e0, e1⟩
      walk_at "vc"
      refine ⟨fp, ws, rfl, SqL.of hfp2, by rw [hwl]; exact h0, fun m hm hx => ?_⟩
      exact q _ m sm2 (Gw.of hwl hws hm hx)


theorem ok_last_below {f : Addr} {fd : FuncData} (F : Fun K "_last_below" "_last_below" s_last_below f fd) (B : Bl mg) : FnOk P w K mg base CX0 1 f fd ["parts", "low"] (sp_last_below K) := by
  refine F.ok sc_last_below (fun vs H Q E h => ?_) (fun cdv A outer s H vs Q E hr h => ?_)
  · first
      | (obtain ⟨_, rfl, _⟩ := h; rfl)
      | (obtain ⟨_, _, rfl, _⟩ := h; rfl)
      | (obtain ⟨_, _, _, rfl, _⟩ := h; rfl)
      | (obtain ⟨_, _, _, _, rfl, _⟩ := h; rfl)
      | (obtain ⟨_, _, _, _, _, rfl, _⟩ := h; rfl)
      | (obtain ⟨_, _, _, _, _, _, rfl, _⟩ := h; rfl)
      | (obtain ⟨_, _, _, _, _, _, _, rfl, _⟩ := h; rfl)
      | (obtain ⟨_, _, _, _, _, _, _, _, rfl, _⟩ := h; rfl)
      | (obtain ⟨_, _, _, _, _, _, _, _, _, rfl, _⟩ := h; rfl)
      | (obtain ⟨_, _, _, _, _, _, _, _, _, _, rfl, _⟩ := h; rfl)
      | (obtain ⟨_, _, _, _, _, _, _, _, _, _, _, rfl, _⟩ := h; rfl)
      | (obtain ⟨_, _, _, _, _, _, _, _, _, _, _, _, rfl, _⟩ := h; rfl)
      | (obtain ⟨_, _, _, _, _, _, _, _, _, _, _, _, _, rfl, _⟩ := h; rfl)
      | (obtain ⟨_, _, _, _, _, _, _, _, _, _, _, _, _, _, rfl, _⟩ := h; rfl)
      | (obtain ⟨_, _, _, _, _, _, _, _, _, _, _, _, _, _, _, rfl, _⟩ := h; rfl)
      | (obtain ⟨_, _, _, _, _, _, _, _, _, _, _, _, _, _, _, _, rfl, _⟩ := h; rfl)
      | (obtain ⟨_, _, _, _, _, _, _, _, _, _, _, _, _, _, _, _, _, rfl, _⟩ := h; rfl)
  · obtain ⟨pp, low, s, as, L, rfl, hpp, hT, q⟩ := h
    refine ⟨_, 
  (pss_cons (ps_set (i := 2) sc_last_below.nd rfl (.inl rfl) (pe_op op_sub (pe_callB call_len_seq (by rfl) B.m_len PySem.boot_len (pa_cons (pv 0) pa_nil)) pe_int)) 
  (pss_cons (ps_while PassesOwn.never (PW.pt (pw_and (pt_cmpR op_ge (pv 2) pe_int (nomark _)) (pw_and1 (pt_cmpR op_ge (pe_ix ix_tup (pe_ix ix_list (pv 0) (pv 2) (fun _ _ => rfl)) pe_int (fun _ _ => rfl)) (pv 1) (nomark _))))) 
    (pss_one (ps_aug (i := 2) sc_last_below.nd rfl (.inl rfl) pe_int ip_sub))) 
  (pss_one (ps_ret (pv 2))))), ?_⟩
    walk_at "vc"
    rw [hT.len]
    refine ⟨fun m σ H' => σ = [some (.ref pp), some (.int low), some (.int ((m : Int) - 1))] ∧ H' = H ∧ m ≤ L.length ∧ ∀ j p, m ≤ j → L[j]? = some p → low ≤ s p.1, ⟨L.length, rfl, rfl, Nat.le_refl _, fun j p h1 h2 => ?_⟩, ?_⟩
    · have := (List.getElem?_eq_some_iff.mp h2).1
      omega
    · rintro m σ H' ⟨rfl, rfl, hm, hall⟩
      walk_at "vc"
      refine ite2 (fun e => ?_) (fun e => ?_)
      · have e0 := of_decide_eq_true e
        obtain ⟨k, rfl⟩ : ∃ k, m = k + 1 := ⟨m - 1, by omega⟩
        obtain ⟨p, hp⟩ : ∃ p, L[k]? = some p := ⟨L[k], List.getElem?_eq_getElem (by omega)⟩
        obtain ⟨a, ha1, ha2, ha3⟩ := hT.get hp
        have hat : atI (as.map V.ref) (((k + 1 : Nat) : Int) - 1) = some (.ref a) := by
          have e1 : ((k + 1 : Nat) : Int) - 1 = ((k : Nat) : Int) := by omega
          rw [e1]
          exact atI_nat ha2
        walk_at "vc"
        refine ite2 (fun e2 => ?_) (fun e2 => ?_)
        · have e3 : low ≤ s p.1 := of_decide_eq_true e2
          refine ⟨fun σ' H2 => σ' = [some (.ref pp), some (.int low), some (.int ((k : Int) - 1))] ∧ H2 = H', fun σ' H2 h => ⟨k, by omega, h.1, h.2, by omega, fun j q h1 h2 => ?_⟩, ?_⟩
          · by_cases hj : j = k
            · subst hj
              have : q = p := Option.some.inj (h2.symm.trans hp)
              rw [this]
              exact e3
            · exact hall j q (by omega) h2
          · walk_at "vc"
            refine ⟨?_, rfl⟩
            have e1 : ((k + 1 : Nat) : Int) - 1 - 1 = (k : Int) - 1 := by omega
            rw [e1]
            rfl
        · walk_at "vc"
          refine q (k + 1) hm hall fun j p' h1 h2 => ?_
          have : j = k := by omega
          subst this
          have : p' = p := Option.some.inj (h2.symm.trans hp)
          rw [this]
          have e3 : ¬ low ≤ s p.1 := fun h => e2 (decide_eq_true h)
          omega
      · walk_at "vc"
        refine q m hm hall fun j p h1 h2 => ?_
        have e0 : ¬ (0 : Int) ≤ (m : Int) - 1 := fun h => e (decide_eq_true h)
        omega


theorem ok_join {f : Addr} {fd : FuncData} {f_last_below : Addr} {fd_last_below : FuncData} (F : Fun K "_join" "_join" s_join f fd) (B : Bl mg) (D_last_below : Dn P w K mg base "_last_below" 1 ["parts", "low"] (sp_last_below K) f_last_below fd_last_below) : FnOk P w K mg base CX0 2 f fd ["parts", "place", "low", "high"] (sp_join K) := by
  refine F.ok sc_join (fun vs H Q E h => ?_) (fun cdv A outer s H vs Q E hr h => ?_)
  · first
      | (obtain ⟨_, rfl, _⟩ := h; rfl)
      | (obtain ⟨_, _, rfl, _⟩ := h; rfl)
      | (obtain ⟨_, _, _, rfl, _⟩ := h; rfl)
      | (obtain ⟨_, _, _, _, rfl, _⟩ := h; rfl)
      | (obtain ⟨_, _, _, _, _, rfl, _⟩ := h; rfl)
      | (obtain ⟨_, _, _, _, _, _, rfl, _⟩ := h; rfl)
      | (obtain ⟨_, _, _, _, _, _, _, rfl, _⟩ := h; rfl)
      | (obtain ⟨_, _, _, _, _, _, _, _, rfl, _⟩ := h; rfl)
      | (obtain ⟨_, _, _, _, _, _, _, _, _, rfl, _⟩ := h; rfl)
      | (obtain ⟨_, _, _, _, _, _, _, _, _, _, rfl, _⟩ := h; rfl)
      | (obtain ⟨_, _, _, _, _, _, _, _, _, _, _, rfl, _⟩ := h; rfl)
      | (obtain ⟨_, _, _, _, _, _, _, _, _, _, _, _, rfl, _⟩ := h; rfl)
      | (obtain ⟨_, _, _, _, _, _, _, _, _, _, _, _, _, rfl, _⟩ := h; rfl)
      | (obtain ⟨_, _, _, _, _, _, _, _, _, _, _, _, _, _, rfl, _⟩ := h; rfl)
      | (obtain ⟨_, _, _, _, _, _, _, _, _, _, _, _, _, _, _, rfl, _⟩ := h; rfl)
      | (obtain ⟨_, _, _, _, _, _, _, _, _, _, _, _, _, _, _, _, rfl, _⟩ := h; rfl)
      | (obtain ⟨_, _, _, _, _, _, _, _, _, _, _, _, _, _, _, _, _, rfl, _⟩ := h; rfl)
  · obtain ⟨pp, i, s, as, L, rfl, hpp, hT, hRL, hlt, hi, q⟩ := h
    refine ⟨_, 
  (pss_cons (ps_set (i := 4) sc_join.nd rfl (.inl rfl) (pv 1)) 
  (pss_cons (ps_set (i := 5) sc_join.nd rfl (.inl rfl) (pe_call D_last_below.ok hr (by rfl) D_last_below.g D_last_below.kp D_last_below.b .nil pass0 (pa_cons (pv 0) (pa_cons (pv 2) pa_nil)))) 
  (pss_cons (ps_while PassesOwn.never (PW.pt (pw_and (pt_cmpR op_ge (pv 5) pe_int (nomark _)) (pw_and1 (pt_cmpR op_lt (pe_ix ix_tup (pe_ix ix_list (pv 0) (pv 5) (fun _ _ => rfl)) pe_int (fun _ _ => rfl)) (pv 3) (nomark _))))) 
    (pss_cons (ps_par (i := 4) (j := 2) (by rfl) sc_join.nd rfl rfl (by decide) rfl rfl (pa_cons (pe_ix ix_tup (pe_ix ix_list (pv 0) (pv 5) (fun _ _ => rfl)) pe_int (fun _ _ => rfl)) (pa_cons (pe_ix ix_tup (pe_ix ix_list (pv 0) (pv 5) (fun _ _ => rfl)) pe_int (fun _ _ => rfl)) pa_nil)) (by rfl)) 
    (pss_cons (ps_delFrom (pv 0) (pv 5)) 
    (pss_one (ps_set (i := 5) sc_join.nd rfl (.inl rfl) (pe_call D_last_below.ok hr (by rfl) D_last_below.g D_last_below.kp D_last_below.b .nil pass0 (pa_cons (pv 0) (pa_cons (pv 2) pa_nil)))))))) 
  (pss_one (ps_expr (pe_bm PySem.F.plainAttrs_list PySem.F.slot_list_append PySem.F.type_list_append mt_append (pv 0) (pa_cons (pe_tup (pa_cons (pv 4) (pa_cons (pe_op op_add (pv 1) pe_int) (pa_cons (pv 2) (pa_cons (pv 3) pa_nil))))) pa_nil))))))), ?_⟩
    walk_at "vc"
    refine ⟨pp, s i, s, as, L, rfl, hpp, hT, fun k hk hk1 hk2 => ?_⟩
    walk_at "vc"
    refine ⟨fun m σ H' => ∃ (b : Nat) (as : List Addr) (L : List (Nat × Nat)), σ = [some (.ref pp), some (.int (i : Nat)), some (.int (s b)), some (.int (s (i + 1))), some (.int (b : Nat)), some (.int ((m : Int) - 1))] ∧ H' pp = some (.lst (as.map V.ref)) ∧ Tup (part4 s) H' as L ∧ K1 pp H H' ∧ Cand s i b L ∧ m ≤ L.length ∧ L.length ≤ i ∧ (∀ j p, m ≤ j → L[j]? = some p → s b ≤ s p.1) ∧ (∀ j p, m = j + 1 → L[j]? = some p → s p.1 < s b),
      ⟨k, i, as, L, rfl, hpp, hT, K1.refl _, Cand.start hRL hlt, hk, hRL.len, hk1, hk2⟩, ?_⟩
    rintro m σ H1 ⟨b, as, L, rfl, hpp, hT, k1, hC, hm, hL, hall, hlast⟩
    have fin : (∀ p ∈ L, s b ≤ s p.1) ∨ (∃ R1 R2 bk ek, L = R1 ++ (bk, ek) :: R2 ∧ (∀ p ∈ R2, s b ≤ s p.1) ∧ s (i + 1) ≤ s ek) → ∀ (t : Addr), H1 t = none → Q .non (upd (upd H1 t (.tup [.int (b : Nat), .int ((i : Int) + 1), .int (s b), .int (s (i + 1))])) pp (.lst (as.map V.ref ++ [.ref t]))) := by
      intro hc t ht
      have hne : pp ≠ t := ne_of_none hpp ht
      refine q _ (as ++ [t]) (L ++ [(b, i + 1)]) (hC.done (hC.leftmost hc)) ?_ ?_ (k1.trans (K1.trans (K1.of (same_upd ht)) K1.at))
      · rw [upd_same, List.map_append]
        rfl
      · refine Tup.snoc ?_ ?_
        · exact (hT.same (same_upd ht)).k1 K1.at (by rw [upd_ne hne]; exact hpp)
        · rw [upd_ne hne.symm, upd_same]
          rfl
    walk_at "vc"
    refine ite2 (fun e => ?_) (fun e => ?_)
    · have e0 := of_decide_eq_true e
      obtain ⟨k, rfl⟩ : ∃ k, m = k + 1 := ⟨m - 1, by omega⟩
      have hk : k < L.length := by omega
      have hp : L[k]? = some L[k] := List.getElem?_eq_getElem hk
      obtain ⟨a, ha1, ha2, ha3⟩ := hT.get hp
      have hat : atI (as.map V.ref) (((k + 1 : Nat) : Int) - 1) = some (.ref a) := by
        have e1 : ((k + 1 : Nat) : Int) - 1 = ((k : Nat) : Int) := by omega
        rw [e1]
        exact atI_nat ha2
      have hsp : L = L.take k ++ (L[k].1, L[k].2) :: L.drop (k + 1) := by
        show L = L.take k ++ L[k] :: L.drop (k + 1)
        rw [← List.drop_eq_getElem_cons hk, List.take_append_drop]
      have hR2 : ∀ p ∈ L.drop (k + 1), s b ≤ s p.1 := fun p hp => by
        obtain ⟨j, hj⟩ := List.getElem?_of_mem hp
        rw [List.getElem?_drop] at hj
        exact hall (k + 1 + j) p (by omega) hj
      have hlo : s L[k].1 < s b := hlast k L[k] rfl hp
      walk_at "vc"
      refine ite2 (fun e2 => ?_) (fun e2 => ?_)
      · have e3 : s L[k].2 < s (i + 1) := of_decide_eq_true e2
        refine ⟨_, fun _ _ h => h, ?_⟩
        walk_at "vc"
        refine x_del ?_
        walk_at "vc"
        refine x_delFrom (k := k) hpp (by omega) (by rw [hT.len]; omega) ?_
        have hpp' : upd H1 pp (.lst ((as.map V.ref).take k)) pp = some (.lst ((as.take k).map V.ref)) := by rw [upd_same, List.map_take]
        have hT' : Tup (part4 s) (upd H1 pp (.lst ((as.map V.ref).take k))) (as.take k) (L.take k) := (hT.k1 K1.at hpp).take k
        have k1' : K1 pp H (upd H1 pp (.lst ((as.map V.ref).take k))) := k1.trans K1.at
        generalize upd H1 pp (.lst ((as.map V.ref).take k)) = H2 at hpp' hT' k1'
        have hC' : Cand s i L[k].1 (L.take k) := Cand.step (R2 := L.drop (k + 1)) (ek := L[k].2) (by rw [← hsp]; exact hC) hR2 hlo e3
        have hl' : (L.take k).length = k := by rw [List.length_take]; omega
        walk_at "vc"
        refine ⟨pp, s L[k].1, s, as.take k, L.take k, rfl, hpp', hT', fun k2 hk2 hk21 hk22 => ?_⟩
        walk_at "vc"
        exact ⟨k2, by omega, L[k].1, as.take k, L.take k, rfl, hpp', hT', k1', hC', hk2, by omega, hk21, hk22⟩
      · have e3 : ¬ s L[k].2 < s (i + 1) := fun h => e2 (decide_eq_true h)
        walk_at "vc"
        refine ⟨.inl ⟨rfl, _, SqL.of hpp⟩, ?_⟩
        walk_at "vc"
        refine ⟨show 4 ≤ sizeLine by decide, fun t ht => ?_⟩
        walk_at "vc"
        refine x_append (by rw [upd_ne (ne_of_none hpp ht)]; exact hpp) (by rw [hT.len]; exact Nat.lt_of_le_of_lt (by omega : L.length ≤ 1000) (by decide)) ?_
        exact fin (.inr ⟨_, _, _, _, hsp, hR2, by omega⟩) t ht
    · have e0 : ¬ (0 : Int) ≤ (m : Int) - 1 := fun h => e (decide_eq_true h)
      have hm0 : m = 0 := by omega
      walk_at "vc"
      refine ⟨.inl ⟨rfl, _, SqL.of hpp⟩, ?_⟩
      walk_at "vc"
      refine ⟨show 4 ≤ sizeLine by decide, fun t ht => ?_⟩
      walk_at "vc"
      refine x_append (by rw [upd_ne (ne_of_none hpp ht)]; exact hpp) (by rw [hT.len]; exact Nat.lt_of_le_of_lt (by omega : L.length ≤ 1000) (by decide)) ?_
      refine fin (.inl fun p hp => ?_) t ht
      obtain ⟨j, hj⟩ := List.getElem?_of_mem hp
      exact hall j p (by omega) hj


theorem okripe {f : Addr} {fd : FuncData} {uFEWEST_LETTERS uMOST_LETTERS uALPHABET uLONGEST_ROW uLEAST_WEIGHT uMOST_WEIGHT uLIKE uUNLIKE uSHORTEST_SEED uLONGEST_SEED uPICK uGAP uFEWEST_SEEDS uMOST_SEEDS uBAR uENDLESS uLOW uREACHES uUNSEEDED : Value} {f_join : Addr} {fd_join : FuncData} (F : Fun K "ripe" "ripe" sripe f fd) (B : Bl mg) (C : Cs mg uFEWEST_LETTERS uMOST_LETTERS uALPHABET uLONGEST_ROW uLEAST_WEIGHT uMOST_WEIGHT uLIKE uUNLIKE uSHORTEST_SEED uLONGEST_SEED uPICK uGAP uFEWEST_SEEDS uMOST_SEEDS uBAR uENDLESS uLOW uREACHES uUNSEEDED) (D_join : Dn P w K mg base "_join" 2 ["parts", "place", "low", "high"] (sp_join K) f_join fd_join) : FnOk P w K mg base CX0 3 f fd ["likes", "scale"] (spripe K) := by
  refine F.ok scripe (fun vs H Q E h => ?_) (fun cdv A outer s H vs Q E hr h => ?_)
  · first
      | (obtain ⟨_, rfl, _⟩ := h; rfl)
      | (obtain ⟨_, _, rfl, _⟩ := h; rfl)
      | (obtain ⟨_, _, _, rfl, _⟩ := h; rfl)
      | (obtain ⟨_, _, _, _, rfl, _⟩ := h; rfl)
      | (obtain ⟨_, _, _, _, _, rfl, _⟩ := h; rfl)
      | (obtain ⟨_, _, _, _, _, _, rfl, _⟩ := h; rfl)
      | (obtain ⟨_, _, _, _, _, _, _, rfl, _⟩ := h; rfl)
      | (obtain ⟨_, _, _, _, _, _, _, _, rfl, _⟩ := h; rfl)
      | (obtain ⟨_, _, _, _, _, _, _, _, _, rfl, _⟩ := h; rfl)
      | (obtain ⟨_, _, _, _, _, _, _, _, _, _, rfl, _⟩ := h; rfl)
      | (obtain ⟨_, _, _, _, _, _, _, _, _, _, _, rfl, _⟩ := h; rfl)
      | (obtain ⟨_, _, _, _, _, _, _, _, _, _, _, _, rfl, _⟩ := h; rfl)
      | (obtain ⟨_, _, _, _, _, _, _, _, _, _, _, _, _, rfl, _⟩ := h; rfl)
      | (obtain ⟨_, _, _, _, _, _, _, _, _, _, _, _, _, _, rfl, _⟩ := h; rfl)
      | (obtain ⟨_, _, _, _, _, _, _, _, _, _, _, _, _, _, _, rfl, _⟩ := h; rfl)
      | (obtain ⟨_, _, _, _, _, _, _, _, _, _, _, _, _, _, _, _, rfl, _⟩ := h; rfl)
      | (obtain ⟨_, _, _, _, _, _, _, _, _, _, _, _, _, _, _, _, _, rfl, _⟩ := h; rfl)
  · obtain ⟨z, ps, g, l, rfl, hS, hg1, hg2, hl1, hl2, hz, q⟩ := h
    refine ⟨_, 
  (pss_cons (ps_asg (pv 1) (pg_tup rfl (pgs_cons (pg_name (i := 2) scripe.nd rfl (.inl rfl)) (pgs_cons (pg_name (i := 3) scripe.nd rfl (.inl rfl)) pgs_nil)))) 
  (pss_cons (ps_set (i := 4) scripe.nd rfl (.inl rfl) (pe_lst pa_nil)) 
  (pss_cons (ps_set (i := 5) scripe.nd rfl (.inl rfl) pe_int) 
  (pss_cons (ps_for PassesOwn.never rfl (pi_enumS (by rfl) B.m_enumerate (pa_cons (pv 0) pa_nil)) (pg_tup rfl (pgs_cons (pg_name (i := 6) scripe.nd rfl (.inl rfl)) (pgs_cons (pg_name (i := 7) scripe.nd rfl (.inl rfl)) pgs_nil))) 
    (pss_one (ps_if (pt_cmpR op_eq (pv 7) (pe_glob rfl C.c_LIKE.2 C.c_LIKE.1) (nomark _)) 
      (pss_cons (ps_expr (pe_call D_join.ok hr (by rfl) D_join.g D_join.kp D_join.b .nil pass0 (pa_cons (pv 4) (pa_cons (pv 6) (pa_cons (pv 5) (pa_cons (pe_op op_add (pv 5) (pv 2)) pa_nil)))))) 
      (pss_one (ps_aug (i := 5) scripe.nd rfl (.inl rfl) (pv 2) ip_add))) 
      (pss_one (ps_aug (i := 5) scripe.nd rfl (.inl rfl) (pv 3) ip_sub))))) 
  (pss_one (ps_ret (pe_lc (own := [("part", 8)]) (g := gName 8) (tt := tYes) rfl scripe.nd (pi_list (pv 4)) (blkOk_by (N := nripe) (sc := defScope sripe) (by decide +kernel)) (fun _ _ _ _ _ => (pg_name (i := 8) scripe.nd rfl (.inl rfl))) (fun _ _ _ _ _ => pts_nil) (fun _ _ _ _ _ => (pe_slice (show SlR _ (rSlT K) from sl_tup) (pv 8) po_none (po_some pe_int)))))))))), ?_⟩
    walk_at "vc"
    refine ⟨by decide, fun pp hpp => ?_⟩
    walk_at "vc"
    refine for_it (walk_enumS (x := S z)) (fun i σ H' => ∃ (as : List Addr) (L : List (Nat × Nat)) (y6 y7 y8 : Option V), σ = [some (.str (S z)), some (.ref ps), some (.int g), some (.int l), some (.ref pp), some (.int (lev g l z i)), y6, y7, y8] ∧ Same H H' ∧ H' pp = some (.lst (as.map V.ref)) ∧ Tup (part4 (lev g l z)) H' as L ∧ RL (lev g l z) i L)
      ⟨[], [], none, none, none, by rw [lev_zero]; rfl, same_upd hpp, upd_same, Tup.nil, RL.zero _⟩ (fun _ _ _ _ _ => trivial) ?_ ?_
    · rintro i x σ H1 H2 hi ⟨as, L, y6, y7, y8, rfl, sm, hp, hT, hRL⟩ ⟨T, c, rfl, hTn, hc, rfl⟩
      have hi' : i < z.length := hi
      have ec : z[i] = c := by
        have : z[i]? = some c := by simpa [S] using hc
        rw [List.getElem?_eq_getElem hi'] at this
        exact Option.some.inj this
      have els := lev_succ g l hi'
      rw [ec] at els
      have sm1 : Same H1 (upd H1 T (.tup [.int (i : Nat), .str ⟨#[c]⟩])) := same_upd hTn
      have hTT : upd H1 T (.tup [.int (i : Nat), .str ⟨#[c]⟩]) T = some (.tup [.int (i : Nat), .str ⟨#[c]⟩]) := upd_same
      have hp1 := sm1 _ _ hp
      have hT1 := hT.same sm1
      have sm2 := sm.trans sm1
      generalize upd H1 T (.tup [.int (i : Nat), .str ⟨#[c]⟩]) = H3 at sm1 hTT hp1 hT1 sm2
      refine x_gTup (SqT.of hTT) rfl ?_
      walk_at "vc"
      rw [show (⟨#[c]⟩ : Str) = sg c from rfl, eq_like]
      refine ite2 (fun e => ?_) (fun e => ?_)
      · have hc61 : c = 61 := of_decide_eq_true e
        rw [if_pos hc61] at els
        walk_at "vc"
        refine ⟨pp, i, lev g l z, as, L, by rw [els]; rfl, hp1, hT1, hRL, by omega, by omega, fun H4 as' L' hRL' hp' hT' k1 => ?_⟩
        walk_at "vc"
        exact ⟨as', L', _, _, _, by rw [els]; rfl, k1.same hpp sm2, hp', hT', hRL'⟩
      · have hc61 : ¬ c = 61 := fun h => e (decide_eq_true h)
        rw [if_neg hc61] at els
        walk_at "vc"
        exact ⟨as, L, _, _, _, by rw [els]; rfl, sm2, hp1, hT1, hRL.unlike (by omega)⟩
    · rintro σ H1 ⟨as, L, y6, y7, y8, rfl, sm, hp, hT, hRL⟩
      have hsz : (S z).cps.size = z.length := len_S z
      rw [hsz] at hRL
      walk_at "vc"
      refine x_iListi (SqL.of hp) ?_
      intro D hD
      refine lc_list (K := K) (a := pp) (xs := as.map V.ref) (fun i H2 => ∃ as', Same H1 H2 ∧ H2 D = some (.lst (as'.map V.ref)) ∧ Tup pair2 H2 as' (L.take i)) ⟨[], same_upd hD, upd_same, Tup.nil⟩ (fun i H2 _ ⟨_, h, _⟩ => h.seq (SqL.of hp)) (fun i x H2 hx h => ?_) (fun H2 h => ?_)
      · obtain ⟨as', sm2, hD2, hT2⟩ := h
        have hi : i < L.length := by
          have := (List.getElem?_eq_some_iff.mp hx).1
          rw [hT.len] at this
          exact this
        have hLi : L[i]? = some L[i] := List.getElem?_eq_getElem hi
        obtain ⟨a, ha1, ha2, ha3⟩ := hT.get hLi
        have ex : x = .ref a := Option.some.inj (hx.symm.trans ha2)
        subst ex
        walk_at "vc"
        refine ⟨rfl, ?_⟩
        walk_at "vc"
        refine x_slT (SqT.of (sm2 _ _ ha3)) (show ¬ (HT.sIx 4 0 none = 0 ∧ HT.sIx 4 4 (some 2) = 4) by decide) fun t ht => ?_
        have hL := hRL.len
        refine ⟨_, by rw [upd_ne (ne_of_none hD2 ht)]; exact hD2, by rw [hT2.len, List.length_take]; exact Nat.lt_of_le_of_lt (by omega : _ ≤ 1000) (by decide), ?_⟩
        have hpush := tup_push (p := L[i]) hD sm2 hD2 hT2 ht
        refine ⟨as' ++ [t], hpush.1, hpush.2.1, ?_⟩
        rw [List.take_succ_eq_append_getElem hi]
        exact hpush.2.2
      · obtain ⟨as', sm2, hD2, hT2⟩ := h
        rw [hT.len, List.take_of_length_le (Nat.le_refl _)] at hT2
        have hD0 : H D = none := sm.free hD
        exact q D H2 as' L hRL (sm.trans sm2) hD0 hD2 hT2


theorem oklane_reaches {f : Addr} {fd : FuncData} {flikes_of : Addr} {fdlikes_of : FuncData} {flane_begin : Addr} {fdlane_begin : FuncData} {fripe : Addr} {fdripe : FuncData} {fworth_of : Addr} {fdworth_of : FuncData} (F : Fun K "lane_reaches" "lane_reaches" slane_reaches f fd) (B : Bl mg) (Dlikes_of : Dn P w K mg base "likes_of" 2 ["one", "other", "shift"] (splikes_of K) flikes_of fdlikes_of) (Dlane_begin : Dn P w K mg base "lane_begin" 1 ["shift"] (splane_begin K) flane_begin fdlane_begin) (Dripe : Dn P w K mg base "ripe" 3 ["likes", "scale"] (spripe K) fripe fdripe) (Dworth_of : Dn P w K mg base "worth_of" 1 ["likes", "scale"] (spworth_of K) fworth_of fdworth_of) : FnOk P w K mg base CX0 4 f fd ["one", "other", "shift", "scale", "told"] (splane_reaches K) := by
  refine F.ok sclane_reaches (fun vs H Q E h => ?_) (fun cdv A outer s H vs Q E hr h => ?_)
  · first
      | (obtain ⟨_, rfl, _⟩ := h; rfl)
      | (obtain ⟨_, _, rfl, _⟩ := h; rfl)
      | (obtain ⟨_, _, _, rfl, _⟩ := h; rfl)
      | (obtain ⟨_, _, _, _, rfl, _⟩ := h; rfl)
      | (obtain ⟨_, _, _, _, _, rfl, _⟩ := h; rfl)
      | (obtain ⟨_, _, _, _, _, _, rfl, _⟩ := h; rfl)
      | (obtain ⟨_, _, _, _, _, _, _, rfl, _⟩ := h; rfl)
      | (obtain ⟨_, _, _, _, _, _, _, _, rfl, _⟩ := h; rfl)
      | (obtain ⟨_, _, _, _, _, _, _, _, _, rfl, _⟩ := h; rfl)
      | (obtain ⟨_, _, _, _, _, _, _, _, _, _, rfl, _⟩ := h; rfl)
      | (obtain ⟨_, _, _, _, _, _, _, _, _, _, _, rfl, _⟩ := h; rfl)
      | (obtain ⟨_, _, _, _, _, _, _, _, _, _, _, _, rfl, _⟩ := h; rfl)
      | (obtain ⟨_, _, _, _, _, _, _, _, _, _, _, _, _, rfl, _⟩ := h; rfl)
      | (obtain ⟨_, _, _, _, _, _, _, _, _, _, _, _, _, _, rfl, _⟩ := h; rfl)
      | (obtain ⟨_, _, _, _, _, _, _, _, _, _, _, _, _, _, _, rfl, _⟩ := h; rfl)
      | (obtain ⟨_, _, _, _, _, _, _, _, _, _, _, _, _, _, _, _, rfl, _⟩ := h; rfl)
      | (obtain ⟨_, _, _, _, _, _, _, _, _, _, _, _, _, _, _, _, _, rfl, _⟩ := h; rfl)
  · obtain ⟨o, t, d, ps, g, l, told, rfl, hS, hg1, hg2, hl1, hl2, ho, ht, hd1, hd2, q⟩ := h
    have eo : ((S o).length : Int) = o.length := by rw [len_S]
    have et : ((S t).length : Int) = t.length := by rw [len_S]
    have lo : (S o).length ≤ sizeLine := hp_sz (by rw [len_S]; omega)
    have lt : (S t).length ≤ sizeLine := hp_sz (by rw [len_S]; omega)
    refine ⟨_, 
  (pss_cons (ps_set (i := 5) sclane_reaches.nd rfl (.inl rfl) (pe_call Dlikes_of.ok (hr.mono (by decide)) (by rfl) Dlikes_of.g Dlikes_of.kp Dlikes_of.b .nil pass0 (pa_cons (pv 0) (pa_cons (pv 1) (pa_cons (pv 2) pa_nil))))) 
  (pss_cons (ps_set (i := 6) sclane_reaches.nd rfl (.inl rfl) (pe_call Dlane_begin.ok (hr.mono (by decide)) (by rfl) Dlane_begin.g Dlane_begin.kp Dlane_begin.b .nil pass0 (pa_cons (pv 2) pa_nil))) 
  (pss_cons (ps_set (i := 7) sclane_reaches.nd rfl (.inl rfl) (pe_lst pa_nil)) 
  (pss_cons (ps_for PassesOwn.never rfl (pi_list (pe_call Dripe.ok hr (by rfl) Dripe.g Dripe.kp Dripe.b .nil pass0 (pa_cons (pv 5) (pa_cons (pv 3) pa_nil)))) (pg_tup rfl (pgs_cons (pg_name (i := 8) sclane_reaches.nd rfl (.inl rfl)) (pgs_cons (pg_name (i := 9) sclane_reaches.nd rfl (.inl rfl)) pgs_nil))) 
    (pss_cons (ps_set (i := 10) sclane_reaches.nd rfl (.inl rfl) (pe_call Dworth_of.ok (hr.mono (by decide)) (by rfl) Dworth_of.g Dworth_of.kp Dworth_of.b .nil pass0 (pa_cons (pe_slice sl_str (pv 5) (po_some (pv 8)) (po_some (pv 9))) (pa_cons (pv 3) pa_nil)))) 
    (pss_one (ps_if (pt_cmpR op_ge (pv 10) (pv 4) (nomark _)) 
      (pss_one (ps_expr (pe_bm PySem.F.plainAttrs_list PySem.F.slot_list_append PySem.F.type_list_append mt_append (pv 7) (pa_cons (pe_tup (pa_cons (pe_op op_add (pv 6) (pv 8)) (pa_cons (pe_op op_add (pv 6) (pv 9)) (pa_cons (pv 10) pa_nil)))) pa_nil)))) pss_nil)))) 
  (pss_one (ps_ret (pv 7))))))), ?_⟩
    walk_at "vc"
    refine ⟨o, t, d, rfl, by omega, by omega, hd1, hd2, fun H3 sm3 => ?_⟩
    walk_at "vc"
    refine ⟨d, rfl, ?_⟩
    have hll := likL_le o t d
    walk_at "vc"
    refine ⟨by decide, fun sp hsp => ?_⟩
    have nsp : H sp = none := sm3.free hsp
    have sm1 : Same H (upd H3 sp (.lst [])) := sm3.trans (same_upd hsp)
    have hsp1 : upd H3 sp (.lst []) sp = some (.lst []) := upd_same
    generalize upd H3 sp (.lst []) = H1 at sm1 hsp1
    walk_at "vc"
    refine ⟨_, ps, g, l, rfl, SqT_same sm1 hS, hg1, hg2, hl1, hl2, by omega, fun D H4 as4 L hRL sm4 hD0 hD hT4 => ?_⟩
    have smA : Same H H4 := sm1.trans sm4
    have hsp4 := sm4 _ _ hsp1
    have hLl := hRL.len
    walk_at "vc"
    refine x_iListi (SqL.of hD) ?_
    refine for_list (K := K) (a := D) (xs := as4.map V.ref) (fun j σ H5 => ∃ (as : List Addr) (y8 y9 y10 : Option V), σ = [some (.str (S o)), some (.str (S t)), some (.int d), some (.ref ps), some (.int told), some (.str (S (likL o t d))), some (.int (bgn d : Nat)), some (.ref sp), y8, y9, y10] ∧ Same H H5 ∧ K1 sp H4 H5 ∧ H5 sp = some (.lst (as.map V.ref)) ∧ Tup triV H5 as (lrP g l told o t d (L.take j)))
      ⟨[], _, _, _, rfl, smA, K1.refl _, hsp4, Tup.nil⟩ (fun j σ H5 _ ⟨_, _, _, _, _, _, k, _⟩ => SqL.of (k _ _ (fun e => by rw [e] at hD0; rw [hsp1] at hD0; cases hD0) hD)) ?_ ?_
    · rintro j x σ H5 hx ⟨as, y8, y9, y10, rfl, sm5, k5, hsp5, hT5⟩
      have hj : j < L.length := by
        have := (List.getElem?_eq_some_iff.mp hx).1
        rw [hT4.len] at this
        exact this
      have hLj : L[j]? = some L[j] := List.getElem?_eq_getElem hj
      obtain ⟨aj, ha1, ha2, ha3⟩ := hT4.get hLj
      have ex : x = .ref aj := Option.some.inj (hx.symm.trans ha2)
      subst ex
      have hr := hRL.ripe _ (List.getElem_mem hj)
      have haj : H5 aj = some (.tup (pair2 L[j])) := k5 _ _ (ne_of ha3 hsp4 (by intro q; cases q)) ha3
      have hPl := lrP_len g l told o t d (L.take j)
      rw [List.length_take] at hPl
      rw [List.take_succ_eq_append_getElem hj, lrP_snoc]
      refine x_gTup (xs := [.int (L[j].1 : Nat), .int (L[j].2 : Nat)]) (SqT.of haj) rfl ?_
      generalize L[j] = pe at hr
      obtain ⟨pb, pn⟩ := pe
      have hbn : pb < pn := hr.1.1
      have hnz : pn ≤ (likL o t d).length := hr.2.1
      walk_at "vc"
      refine x_slS (hp_sz (by rw [len_S]; omega)) ?_
      rw [cutS_cut _ pb pn hnz]
      walk_at "vc"
      refine ⟨_, ps, g, l, rfl, SqT_same sm5 hS, fun c hc => likL_Lk o t d c (List.mem_of_mem_drop (List.mem_of_mem_take hc)), by omega, by omega, by omega, by omega, ?_⟩
      rw [wor_cut g l _ (Nat.le_of_lt hbn)]
      walk_at "vc"
      refine ite2 (fun e => ?_) (fun e => ?_)
      · have e1 : told ≤ lev g l (likL o t d) pn - lev g l (likL o t d) pb := of_decide_eq_true e
        walk_at "vc"
        refine ⟨.inl ⟨rfl, _, SqL.of hsp5⟩, ?_⟩
        walk_at "vc"
        refine ⟨show 3 ≤ sizeLine by decide, fun u hu => ?_⟩
        walk_at "vc"
        refine x_append (by rw [upd_ne (ne_of_none hsp5 hu)]; exact hsp5) (by rw [hT5.len]; exact Nat.lt_of_le_of_lt (by omega : _ ≤ 100000) (by decide)) ?_
        have hpush := tup_push (f := triV) (p := (((bgn d + pb : Nat) : Int), ((bgn d + pn : Nat) : Int), lev g l (likL o t d) pn - lev g l (likL o t d) pb)) nsp sm5 hsp5 hT5 hu
        refine ⟨as ++ [u], _, _, _, rfl, hpush.1, k5.trans ((K1.of (same_upd hu)).trans K1.at), hpush.2.1, ?_⟩
        rw [if_pos e1]
        exact hpush.2.2
      · have e1 : ¬ told ≤ lev g l (likL o t d) pn - lev g l (likL o t d) pb := fun h => e (decide_eq_true h)
        walk_at "vc"
        refine ⟨as, _, _, _, rfl, sm5, k5, hsp5, ?_⟩
        rw [if_neg e1, List.append_nil]
        exact hT5
    · rintro σ H5 ⟨as, y8, y9, y10, rfl, sm5, k5, hsp5, hT5⟩
      rw [hT4.len, List.take_of_length_le (Nat.le_refl _), lrP_all hRL] at hT5
      walk_at "vc"
      exact q sp H5 as sm5 nsp hsp5 hT5


theorem ok_need_seed {f : Addr} {fd : FuncData} {uFEWEST_LETTERS uMOST_LETTERS uALPHABET uLONGEST_ROW uLEAST_WEIGHT uMOST_WEIGHT uLIKE uUNLIKE uSHORTEST_SEED uLONGEST_SEED uPICK uGAP uFEWEST_SEEDS uMOST_SEEDS uBAR uENDLESS uLOW uREACHES uUNSEEDED : Value} (F : Fun K "_need_seed" "_need_seed" s_need_seed f fd) (B : Bl mg) (C : Cs mg uFEWEST_LETTERS uMOST_LETTERS uALPHABET uLONGEST_ROW uLEAST_WEIGHT uMOST_WEIGHT uLIKE uUNLIKE uSHORTEST_SEED uLONGEST_SEED uPICK uGAP uFEWEST_SEEDS uMOST_SEEDS uBAR uENDLESS uLOW uREACHES uUNSEEDED) : FnOk P w K mg base CX0 1 f fd ["seed"] (sp_need_seed K) := by
  refine F.ok sc_need_seed (fun vs H Q E h => ?_) (fun cdv A outer s H vs Q E hr h => ?_)
  · first
      | (obtain ⟨_, rfl, _⟩ := h; rfl)
      | (obtain ⟨_, _, rfl, _⟩ := h; rfl)
      | (obtain ⟨_, _, _, rfl, _⟩ := h; rfl)
      | (obtain ⟨_, _, _, _, rfl, _⟩ := h; rfl)
      | (obtain ⟨_, _, _, _, _, rfl, _⟩ := h; rfl)
      | (obtain ⟨_, _, _, _, _, _, rfl, _⟩ := h; rfl)
      | (obtain ⟨_, _, _, _, _, _, _, rfl, _⟩ := h; rfl)
      | (obtain ⟨_, _, _, _, _, _, _, _, rfl, _⟩ := h; rfl)
      | (obtain ⟨_, _, _, _, _, _, _, _, _, rfl, _⟩ := h; rfl)
      | (obtain ⟨_, _, _, _, _, _, _, _, _, _, rfl, _⟩ := h; rfl)
      | (obtain ⟨_, _, _, _, _, _, _, _, _, _, _, rfl, _⟩ := h; rfl)
      | (obtain ⟨_, _, _, _, _, _, _, _, _, _, _, _, rfl, _⟩ := h; rfl)
      | (obtain ⟨_, _, _, _, _, _, _, _, _, _, _, _, _, rfl, _⟩ := h; rfl)
      | (obtain ⟨_, _, _, _, _, _, _, _, _, _, _, _, _, _, rfl, _⟩ := h; rfl)
      | (obtain ⟨_, _, _, _, _, _, _, _, _, _, _, _, _, _, _, rfl, _⟩ := h; rfl)
      | (obtain ⟨_, _, _, _, _, _, _, _, _, _, _, _, _, _, _, _, rfl, _⟩ := h; rfl)
      | (obtain ⟨_, _, _, _, _, _, _, _, _, _, _, _, _, _, _, _, _, rfl, _⟩ := h; rfl)
  · obtain ⟨sd, rfl, hsd, q⟩ := h
    have h1 := hsd.one
    have h8 := hsd.most
    have ez : ((S sd).length : Int) = sd.length := by rw [len_S]
    have lz : (S sd).length ≤ sizeLine := hp_sz (by rw [len_S]; omega)
    refine ⟨_, 
  (pss_cons (ps_if (PW.pt (pw_or (pt_cmpR op_lt (pe_callB call_len_str (by rfl) B.m_len PySem.boot_len (pa_cons (pv 0) pa_nil)) (pe_glob rfl C.c_SHORTEST_SEED.2 C.c_SHORTEST_SEED.1) (nomark _)) (pw_or1 (pt_cmpR op_gt (pe_callB call_len_str (by rfl) B.m_len PySem.boot_len (pa_cons (pv 0) pa_nil)) (pe_glob rfl C.c_LONGEST_SEED.2 C.c_LONGEST_SEED.1) (nomark _))))) 
    (pss_one (ps_never)) pss_nil) 
  (pss_cons (ps_if (PW.pt (pw_or (pt_cmpR op_ne (pe_ix ix_str (pv 0) pe_int (fun _ _ => rfl)) (pe_glob rfl C.c_PICK.2 C.c_PICK.1) (nomark _)) (pw_or1 (pt_cmpR op_ne (pe_ix ix_str (pv 0) (pe_un un_neg pe_int) (fun _ _ => rfl)) (pe_glob rfl C.c_PICK.2 C.c_PICK.1) (nomark _))))) 
    (pss_one (ps_never)) pss_nil) 
  (pss_one (ps_for PassesOwn.never rfl (pi_str (pv 0)) (pg_name (i := 1) sc_need_seed.nd rfl (.inl rfl)) 
    (pss_one (ps_if (PW.pt (pw_and (pt_cmpR op_ne (pv 1) (pe_glob rfl C.c_PICK.2 C.c_PICK.1) (nomark _)) (pw_and1 (pt_cmpR op_ne (pv 1) (pe_glob rfl C.c_GAP.2 C.c_GAP.1) (nomark _))))) 
      (pss_one (ps_never)) pss_nil)))))), ?_⟩
    walk_at "vc"
    rw [decide_eq_false (show ¬ ((S sd).length : Int) < 1 by omega)]
    walk_at "vc"
    rw [decide_eq_false (show ¬ (8 : Int) < ((S sd).length : Int) by omega)]
    walk_at "vc"
    refine x_ixS lz (c := 35) (atI_nat (j := 0) hsd.first) ?_
    walk_at "vc"
    rw [show (⟨#[35]⟩ : Str) = sg 35 from rfl, eq_sign 35 35 (Str.ofString "#") rfl, decide_eq_true rfl]
    walk_at "vc"
    refine x_ixS lz (c := 35) ?_ ?_
    · unfold atI ixN
      rw [show (S sd).cps.toList = sd from tl_S sd, if_neg (by omega), if_pos (by omega), show (-1 + (sd.length : Int)).toNat = sd.length - 1 by omega]
      exact hsd.last
    walk_at "vc"
    rw [show (⟨#[35]⟩ : Str) = sg 35 from rfl, eq_sign 35 35 (Str.ofString "#") rfl, decide_eq_true rfl]
    walk_at "vc"
    refine for_it (walk_str (z := S sd)) (fun i σ H' => (∃ y, σ = [some (.str (S sd)), y]) ∧ H' = H) ⟨⟨_, rfl⟩, rfl⟩ (fun _ _ _ _ _ => trivial) ?_ ?_
    · rintro i x σ H1 H2 hi ⟨⟨y, rfl⟩, rfl⟩ ⟨rfl, c, hci, rfl⟩
      have hz : sd[i]? = some c := by simpa [S] using hci
      have hm := hsd.all c (List.mem_of_getElem? hz)
      walk_at "vc"
      rw [show (⟨#[c]⟩ : Str) = sg c from rfl, eq_sign c 35 (Str.ofString "#") rfl]
      rcases hm with e | e
      · rw [decide_eq_true e]
        walk_at "vc"
        exact ⟨⟨_, rfl⟩, rfl⟩
      · rw [decide_eq_false (show ¬ c = 35 by omega)]
        walk_at "vc"
        rw [eq_sign c 45 (Str.ofString "-") rfl, decide_eq_true e]
        walk_at "vc"
        exact ⟨⟨_, rfl⟩, rfl⟩
    · rintro σ H1 ⟨⟨y, rfl⟩, rfl⟩
      exact q


theorem okneed_seeds {f : Addr} {fd : FuncData} {uFEWEST_LETTERS uMOST_LETTERS uALPHABET uLONGEST_ROW uLEAST_WEIGHT uMOST_WEIGHT uLIKE uUNLIKE uSHORTEST_SEED uLONGEST_SEED uPICK uGAP uFEWEST_SEEDS uMOST_SEEDS uBAR uENDLESS uLOW uREACHES uUNSEEDED : Value} {f_need_seed : Addr} {fd_need_seed : FuncData} (F : Fun K "need_seeds" "need_seeds" sneed_seeds f fd) (B : Bl mg) (C : Cs mg uFEWEST_LETTERS uMOST_LETTERS uALPHABET uLONGEST_ROW uLEAST_WEIGHT uMOST_WEIGHT uLIKE uUNLIKE uSHORTEST_SEED uLONGEST_SEED uPICK uGAP uFEWEST_SEEDS uMOST_SEEDS uBAR uENDLESS uLOW uREACHES uUNSEEDED) (D_need_seed : Dn P w K mg base "_need_seed" 1 ["seed"] (sp_need_seed K) f_need_seed fd_need_seed) : FnOk P w K mg base CX0 2 f fd ["seeds"] (spneed_seeds K) := by
  refine F.ok scneed_seeds (fun vs H Q E h => ?_) (fun cdv A outer s H vs Q E hr h => ?_)
  · first
      | (obtain ⟨_, rfl, _⟩ := h; rfl)
      | (obtain ⟨_, _, rfl, _⟩ := h; rfl)
      | (obtain ⟨_, _, _, rfl, _⟩ := h; rfl)
      | (obtain ⟨_, _, _, _, rfl, _⟩ := h; rfl)
      | (obtain ⟨_, _, _, _, _, rfl, _⟩ := h; rfl)
      | (obtain ⟨_, _, _, _, _, _, rfl, _⟩ := h; rfl)
      | (obtain ⟨_, _, _, _, _, _, _, rfl, _⟩ := h; rfl)
      | (obtain ⟨_, _, _, _, _, _, _, _, rfl, _⟩ := h; rfl)
      | (obtain ⟨_, _, _, _, _, _, _, _, _, rfl, _⟩ := h; rfl)
      | (obtain ⟨_, _, _, _, _, _, _, _, _, _, rfl, _⟩ := h; rfl)
      | (obtain ⟨_, _, _, _, _, _, _, _, _, _, _, rfl, _⟩ := h; rfl)
      | (obtain ⟨_, _, _, _, _, _, _, _, _, _, _, _, rfl, _⟩ := h; rfl)
      | (obtain ⟨_, _, _, _, _, _, _, _, _, _, _, _, _, rfl, _⟩ := h; rfl)
      | (obtain ⟨_, _, _, _, _, _, _, _, _, _, _, _, _, _, rfl, _⟩ := h; rfl)
      | (obtain ⟨_, _, _, _, _, _, _, _, _, _, _, _, _, _, _, rfl, _⟩ := h; rfl)
      | (obtain ⟨_, _, _, _, _, _, _, _, _, _, _, _, _, _, _, _, rfl, _⟩ := h; rfl)
      | (obtain ⟨_, _, _, _, _, _, _, _, _, _, _, _, _, _, _, _, _, rfl, _⟩ := h; rfl)
  · obtain ⟨sp, sds, rfl, hsp, hsd, h1, h3, q⟩ := h
    have el : (sds.map strV).length = sds.length := List.length_map _
    refine ⟨_, 
  (pss_cons (ps_if (PW.pt (pw_or (pt_cmpR op_lt (pe_callB call_len_seq (by rfl) B.m_len PySem.boot_len (pa_cons (pv 0) pa_nil)) (pe_glob rfl C.c_FEWEST_SEEDS.2 C.c_FEWEST_SEEDS.1) (nomark _)) (pw_or1 (pt_cmpR op_gt (pe_callB call_len_seq (by rfl) B.m_len PySem.boot_len (pa_cons (pv 0) pa_nil)) (pe_glob rfl C.c_MOST_SEEDS.2 C.c_MOST_SEEDS.1) (nomark _))))) 
    (pss_one (ps_never)) pss_nil) 
  (pss_one (ps_for PassesOwn.never rfl (pi_list (pv 0)) (pg_name (i := 1) scneed_seeds.nd rfl (.inl rfl)) 
    (pss_one (ps_expr (pe_call D_need_seed.ok hr (by rfl) D_need_seed.g D_need_seed.kp D_need_seed.b .nil pass0 (pa_cons (pv 1) pa_nil))))))), ?_⟩
    walk_at "vc"
    rw [decide_eq_false (show ¬ (((sds.map strV).length : Nat) : Int) < 1 by omega)]
    walk_at "vc"
    rw [decide_eq_false (show ¬ (3 : Int) < (((sds.map strV).length : Nat) : Int) by omega)]
    walk_at "vc"
    refine x_iListi hsp ?_
    refine for_list (K := K) (a := sp) (xs := sds.map strV) (fun i σ H' => (∃ y, σ = [some (.ref sp), y]) ∧ H' = H) ⟨⟨_, rfl⟩, rfl⟩ (fun i σ H' _ h => by rw [h.2]; exact hsp) ?_ ?_
    · rintro i x σ H1 hx ⟨⟨y, rfl⟩, rfl⟩
      have hi : i < sds.length := by
        have := (List.getElem?_eq_some_iff.mp hx).1
        rw [List.length_map] at this
        exact this
      have ex : x = V.str (S sds[i]) := by
        rw [List.getElem?_map, List.getElem?_eq_getElem hi] at hx
        exact (Option.some.inj hx).symm
      subst ex
      walk_at "vc"
      refine ⟨sds[i], rfl, hsd _ (List.getElem_mem hi), ?_⟩
      exact ⟨⟨_, rfl⟩, rfl⟩
    · rintro σ H1 ⟨⟨y, rfl⟩, rfl⟩
      exact q


theorem okunlike_under {f : Addr} {fd : FuncData} {uFEWEST_LETTERS uMOST_LETTERS uALPHABET uLONGEST_ROW uLEAST_WEIGHT uMOST_WEIGHT uLIKE uUNLIKE uSHORTEST_SEED uLONGEST_SEED uPICK uGAP uFEWEST_SEEDS uMOST_SEEDS uBAR uENDLESS uLOW uREACHES uUNSEEDED : Value} (F : Fun K "unlike_under" "unlike_under" sunlike_under f fd) (B : Bl mg) (C : Cs mg uFEWEST_LETTERS uMOST_LETTERS uALPHABET uLONGEST_ROW uLEAST_WEIGHT uMOST_WEIGHT uLIKE uUNLIKE uSHORTEST_SEED uLONGEST_SEED uPICK uGAP uFEWEST_SEEDS uMOST_SEEDS uBAR uENDLESS uLOW uREACHES uUNSEEDED) : FnOk P w K mg base CX0 1 f fd ["seed", "likes", "place"] (spunlike_under K) := by
  refine F.ok scunlike_under (fun vs H Q E h => ?_) (fun cdv A outer s H vs Q E hr h => ?_)
  · first
      | (obtain ⟨_, rfl, _⟩ := h; rfl)
      | (obtain ⟨_, _, rfl, _⟩ := h; rfl)
      | (obtain ⟨_, _, _, rfl, _⟩ := h; rfl)
      | (obtain ⟨_, _, _, _, rfl, _⟩ := h; rfl)
      | (obtain ⟨_, _, _, _, _, rfl, _⟩ := h; rfl)
      | (obtain ⟨_, _, _, _, _, _, rfl, _⟩ := h; rfl)
      | (obtain ⟨_, _, _, _, _, _, _, rfl, _⟩ := h; rfl)
      | (obtain ⟨_, _, _, _, _, _, _, _, rfl, _⟩ := h; rfl)
      | (obtain ⟨_, _, _, _, _, _, _, _, _, rfl, _⟩ := h; rfl)
      | (obtain ⟨_, _, _, _, _, _, _, _, _, _, rfl, _⟩ := h; rfl)
      | (obtain ⟨_, _, _, _, _, _, _, _, _, _, _, rfl, _⟩ := h; rfl)
      | (obtain ⟨_, _, _, _, _, _, _, _, _, _, _, _, rfl, _⟩ := h; rfl)
      | (obtain ⟨_, _, _, _, _, _, _, _, _, _, _, _, _, rfl, _⟩ := h; rfl)
      | (obtain ⟨_, _, _, _, _, _, _, _, _, _, _, _, _, _, rfl, _⟩ := h; rfl)
      | (obtain ⟨_, _, _, _, _, _, _, _, _, _, _, _, _, _, _, rfl, _⟩ := h; rfl)
      | (obtain ⟨_, _, _, _, _, _, _, _, _, _, _, _, _, _, _, _, rfl, _⟩ := h; rfl)
      | (obtain ⟨_, _, _, _, _, _, _, _, _, _, _, _, _, _, _, _, _, rfl, _⟩ := h; rfl)
  · obtain ⟨sd, z, p, rfl, h1, h2, h3, q⟩ := h
    have ls : (S sd).length ≤ sizeLine := hp_sz (by rw [len_S]; omega)
    have lz : (S z).length ≤ sizeLine := hp_sz (by rw [len_S]; omega)
    refine ⟨_, 
  (pss_one (ps_ret (pe_lc (own := [("at", 3), ("sign", 4)]) (g := gTup K 2 (gCons (gName 3) (gCons (gName 4) gNil))) rfl scunlike_under.nd (pi_enumS (by rfl) B.m_enumerate (pa_cons (pv 0) pa_nil)) (blkOk_by (N := nunlike_under) (sc := defScope sunlike_under) (by decide +kernel)) (fun _ _ _ _ _ => (pg_tup rfl (pgs_cons (pg_name (i := 3) scunlike_under.nd rfl (.inl rfl)) (pgs_cons (pg_name (i := 4) scunlike_under.nd rfl (.inl rfl)) pgs_nil)))) (fun _ _ _ _ _ => pts_one (PW.pt (pw_and (pt_cmpR op_eq (pv 4) (pe_glob rfl C.c_PICK.2 C.c_PICK.1) (nomark _)) (pw_and1 (pt_cmpR op_eq (pe_ix ix_str (pv 1) (pe_op op_add (pv 2) (pv 3)) (fun _ _ => rfl)) (pe_glob rfl C.c_UNLIKE.2 C.c_UNLIKE.1) (nomark _)))))) (fun _ _ _ _ _ => (pe_op op_add (pv 2) (pv 3)))))), ?_⟩
    walk_at "vc"
    intro D hD
    refine lc_it (walk_enumS (x := S sd)) (fun i H' => Same H H' ∧ H' D = some (.lst (((List.range i).filter (ulK sd z p)).map fun k => V.int ((p + k : Nat) : Int)))) ⟨same_upd hD, upd_same⟩ (fun _ _ _ _ => trivial) ?_ ?_
    · rintro i x H1 H2 hi ⟨sm, hD1⟩ ⟨T, c, rfl, hTn, hc, rfl⟩
      have hi' : i < sd.length := hi
      have ec : sd[i]? = some c := by simpa [S] using hc
      have hz : p + i < z.length := by omega
      have sm1 : Same H1 (upd H1 T (.tup [.int (i : Nat), .str ⟨#[c]⟩])) := same_upd hTn
      have hTT : upd H1 T (.tup [.int (i : Nat), .str ⟨#[c]⟩]) T = some (.tup [.int (i : Nat), .str ⟨#[c]⟩]) := upd_same
      have hD2 := sm1 _ _ hD1
      have sm2 := sm.trans sm1
      generalize upd H1 T (.tup [.int (i : Nat), .str ⟨#[c]⟩]) = H3 at sm1 hTT hD2 sm2
      refine x_gTup (SqT.of hTT) rfl ?_
      walk_at "vc"
      refine ⟨rfl, ?_⟩
      walk_at "vc"
      rw [show (⟨#[c]⟩ : Str) = sg c from rfl, eq_sign c 35 (Str.ofString "#") rfl]
      refine ite2 (fun e => ?_) (fun e => ?_)
      · have e35 : c = 35 := of_decide_eq_true e
        walk_at "vc"
        refine x_ixS lz (c := z[p + i]) (atI_of (by omega) (by rw [show (((p : Nat) : Int) + ((i : Nat) : Int)).toNat = p + i by omega]; exact List.getElem?_eq_getElem hz)) ?_
        walk_at "vc"
        rw [show (⟨#[z[p + i]]⟩ : Str) = sg z[p + i] from rfl, eq_sign z[p + i] 47 (Str.ofString "/") rfl]
        refine ite2 (fun e => ?_) (fun e => ?_)
        · have e47 : z[p + i] = 47 := of_decide_eq_true e
          walk_at "vc"
          refine ⟨_, hD2, ?_, fun b o e => ?_, ?_⟩
          · rw [List.length_map]
            exact Nat.lt_of_le_of_lt (filter_len_le _ i) (Nat.lt_of_le_of_lt (by omega : i ≤ 1000) (by decide))
          · rw [upd_ne (ne_of_none e hD)]
            exact sm2 b o e
          · rw [upd_same, range_filter_snoc, if_pos (by unfold ulK; rw [ec, List.getElem?_eq_getElem hz, e35, e47]; rfl), List.map_append]
            rfl
        · have e47 : ¬ z[p + i] = 47 := fun h => e (decide_eq_true h)
          refine ⟨sm2, ?_⟩
          rw [range_filter_snoc, if_neg (by unfold ulK; rw [List.getElem?_eq_getElem hz]; simp [e47]), List.append_nil]
          exact hD2
      · have e35 : ¬ c = 35 := fun h => e (decide_eq_true h)
        walk_at "vc"
        refine ⟨sm2, ?_⟩
        rw [range_filter_snoc, if_neg (by unfold ulK; rw [ec]; simp [e35]), List.append_nil]
        exact hD2
    · rintro H1 ⟨sm, hD1⟩
      rw [show (S sd).cps.size = sd.length from len_S sd] at hD1
      exact q D H1 sm hD hD1


theorem ulL_fits {sd z : List Nat} {p : Int} (h1 : 1 ≤ sd.length) (h0 : 0 ≤ p) (h2 : p + sd.length ≤ z.length) : (ulL sd z p.toNat).isEmpty = fitsB sd z p := by
  have hiff : (ulL sd z p.toNat).isEmpty = true ↔ fitsB sd z p = true := by
    unfold ulL
    rw [range_filter_empty, fitsB_iff h1]
    refine ⟨fun hh => ⟨by omega, by omega, fun k hk hc => hh k hk ?_⟩, fun hh k hk hc => hh.2.2 k hk ?_⟩
    · unfold ulK
      rw [decide_eq_true hc.1, decide_eq_true hc.2]
      rfl
    · unfold ulK at hc
      simpa using hc
  cases hb : fitsB sd z p with
  | true => exact hiff.mpr hb
  | false =>
    cases hc : (ulL sd z p.toNat).isEmpty with
    | false => rfl
    | true =>
      rw [hiff.mp hc] at hb
      cases hb
theorem okfits {f : Addr} {fd : FuncData} {funlike_under : Addr} {fdunlike_under : FuncData} (F : Fun K "fits" "fits" sfits f fd) (B : Bl mg) (Dunlike_under : Dn P w K mg base "unlike_under" 1 ["seed", "likes", "place"] (spunlike_under K) funlike_under fdunlike_under) : FnOk P w K mg base CX0 2 f fd ["seed", "likes", "place"] (spfits K) := by
  refine F.ok scfits (fun vs H Q E h => ?_) (fun cdv A outer s H vs Q E hr h => ?_)
  · first
      | (obtain ⟨_, rfl, _⟩ := h; rfl)
      | (obtain ⟨_, _, rfl, _⟩ := h; rfl)
      | (obtain ⟨_, _, _, rfl, _⟩ := h; rfl)
      | (obtain ⟨_, _, _, _, rfl, _⟩ := h; rfl)
      | (obtain ⟨_, _, _, _, _, rfl, _⟩ := h; rfl)
      | (obtain ⟨_, _, _, _, _, _, rfl, _⟩ := h; rfl)
      | (obtain ⟨_, _, _, _, _, _, _, rfl, _⟩ := h; rfl)
      | (obtain ⟨_, _, _, _, _, _, _, _, rfl, _⟩ := h; rfl)
      | (obtain ⟨_, _, _, _, _, _, _, _, _, rfl, _⟩ := h; rfl)
      | (obtain ⟨_, _, _, _, _, _, _, _, _, _, rfl, _⟩ := h; rfl)
      | (obtain ⟨_, _, _, _, _, _, _, _, _, _, _, rfl, _⟩ := h; rfl)
      | (obtain ⟨_, _, _, _, _, _, _, _, _, _, _, _, rfl, _⟩ := h; rfl)
      | (obtain ⟨_, _, _, _, _, _, _, _, _, _, _, _, _, rfl, _⟩ := h; rfl)
      | (obtain ⟨_, _, _, _, _, _, _, _, _, _, _, _, _, _, rfl, _⟩ := h; rfl)
      | (obtain ⟨_, _, _, _, _, _, _, _, _, _, _, _, _, _, _, rfl, _⟩ := h; rfl)
      | (obtain ⟨_, _, _, _, _, _, _, _, _, _, _, _, _, _, _, _, rfl, _⟩ := h; rfl)
      | (obtain ⟨_, _, _, _, _, _, _, _, _, _, _, _, _, _, _, _, _, rfl, _⟩ := h; rfl)
  · obtain ⟨sd, z, p, rfl, hsd, hLk, h3, q⟩ := h
    have h1 := hsd.one
    have h8 := hsd.most
    have es : ((S sd).length : Int) = sd.length := by rw [len_S]
    have ez : ((S z).length : Int) = z.length := by rw [len_S]
    have ls : (S sd).length ≤ sizeLine := hp_sz (by rw [len_S]; omega)
    have lz : (S z).length ≤ sizeLine := hp_sz (by rw [len_S]; omega)
    refine ⟨_, 
  (pss_cons (ps_if (PW.pt (pw_or (pt_cmpR op_lt (pv 2) pe_int (nomark _)) (pw_or1 (pt_cmpR op_gt (pe_op op_add (pv 2) (pe_callB call_len_str (by rfl) B.m_len PySem.boot_len (pa_cons (pv 0) pa_nil))) (pe_callB call_len_str (by rfl) B.m_len PySem.boot_len (pa_cons (pv 1) pa_nil)) (nomark _))))) 
    (pss_one (ps_ret pe_bl)) pss_nil) 
  (pss_one (ps_ret (pe_notT (pe_call Dunlike_under.ok hr (by rfl) Dunlike_under.g Dunlike_under.kp Dunlike_under.b .nil pass0 (pa_cons (pv 0) (pa_cons (pv 1) (pa_cons (pv 2) pa_nil)))))))), ?_⟩
    walk_at "vc"
    have no : ¬ (0 ≤ p ∧ p + sd.length ≤ z.length) → fitsB sd z p = false := fun hn => by
      cases hb : fitsB sd z p with
      | false => rfl
      | true =>
        have := (fitsB_iff h1).mp hb
        omega
    by_cases hp0 : p < 0
    · rw [decide_eq_true hp0]
      walk_at "vc"
      have := q H (Same.refl _)
      rw [no (by omega)] at this
      exact this
    rw [decide_eq_false hp0]
    walk_at "vc"
    by_cases hp1 : ((S z).length : Int) < p + ((S sd).length : Int)
    · rw [decide_eq_true hp1]
      walk_at "vc"
      have := q H (Same.refl _)
      rw [no (by omega)] at this
      exact this
    rw [decide_eq_false hp1]
    walk_at "vc"
    have ep : p = ((p.toNat : Nat) : Int) := by omega
    refine x_notT ?_
    walk_at "vc"
    refine ⟨sd, z, p.toNat, by rw [← ep]; rfl, by omega, by omega, by omega, fun D H' sm _ hD => ?_⟩
    refine ⟨!(ulL sd z p.toNat).isEmpty, .inl ⟨_, SqL.of hD, by rw [isEmpty_map]⟩, ?_⟩
    rw [Bool.not_not, ulL_fits h1 (by omega) (by omega)]
    exact q _ sm


/-- past the last place at which it lies within it doesn't fit -/
theorem any_short {sd z : List Nat} (h1 : 1 ≤ sd.length) : (List.range ((z.length : Int) - (sd.length : Int) + 1).toNat).any (fun p : Nat => fitsB sd z (p : Int)) = (List.range z.length).any (fun p : Nat => fitsB sd z (p : Int)) := by
  rw [Bool.eq_iff_iff, List.any_eq_true, List.any_eq_true]
  constructor
  · rintro ⟨p, hp, hf⟩
    have := List.mem_range.mp hp
    exact ⟨p, List.mem_range.mpr (by omega), hf⟩
  · rintro ⟨p, hp, hf⟩
    have := (fitsB_iff h1).mp hf
    exact ⟨p, List.mem_range.mpr (by omega), hf⟩
theorem okis_seeded {f : Addr} {fd : FuncData} {ffits : Addr} {fdfits : FuncData} (F : Fun K "is_seeded" "is_seeded" sis_seeded f fd) (B : Bl mg) (Dfits : Dn P w K mg base "fits" 2 ["seed", "likes", "place"] (spfits K) ffits fdfits) : FnOk P w K mg base CX0 3 f fd ["seeds", "likes"] (spis_seeded K) := by
  refine F.ok scis_seeded (fun vs H Q E h => ?_) (fun cdv A outer s H vs Q E hr h => ?_)
  · first
      | (obtain ⟨_, rfl, _⟩ := h; rfl)
      | (obtain ⟨_, _, rfl, _⟩ := h; rfl)
      | (obtain ⟨_, _, _, rfl, _⟩ := h; rfl)
      | (obtain ⟨_, _, _, _, rfl, _⟩ := h; rfl)
      | (obtain ⟨_, _, _, _, _, rfl, _⟩ := h; rfl)
      | (obtain ⟨_, _, _, _, _, _, rfl, _⟩ := h; rfl)
      | (obtain ⟨_, _, _, _, _, _, _, rfl, _⟩ := h; rfl)
      | (obtain ⟨_, _, _, _, _, _, _, _, rfl, _⟩ := h; rfl)
      | (obtain ⟨_, _, _, _, _, _, _, _, _, rfl, _⟩ := h; rfl)
      | (obtain ⟨_, _, _, _, _, _, _, _, _, _, rfl, _⟩ := h; rfl)
      | (obtain ⟨_, _, _, _, _, _, _, _, _, _, _, rfl, _⟩ := h; rfl)
      | (obtain ⟨_, _, _, _, _, _, _, _, _, _, _, _, rfl, _⟩ := h; rfl)
      | (obtain ⟨_, _, _, _, _, _, _, _, _, _, _, _, _, rfl, _⟩ := h; rfl)
      | (obtain ⟨_, _, _, _, _, _, _, _, _, _, _, _, _, _, rfl, _⟩ := h; rfl)
      | (obtain ⟨_, _, _, _, _, _, _, _, _, _, _, _, _, _, _, rfl, _⟩ := h; rfl)
      | (obtain ⟨_, _, _, _, _, _, _, _, _, _, _, _, _, _, _, _, rfl, _⟩ := h; rfl)
      | (obtain ⟨_, _, _, _, _, _, _, _, _, _, _, _, _, _, _, _, _, rfl, _⟩ := h; rfl)
  · obtain ⟨sp, sds, z, rfl, hsp, hsd, h1, h3, hLk, hz, q⟩ := h
    have ez : ((S z).length : Int) = z.length := by rw [len_S]
    have lz : (S z).length ≤ sizeLine := hp_sz (by rw [len_S]; omega)
    refine ⟨_, 
  (pss_cons (ps_for PassesOwn.never rfl (pi_list (pv 0)) (pg_name (i := 2) scis_seeded.nd rfl (.inl rfl)) 
    (pss_one (ps_for PassesOwn.never rfl (pi_range1 rfl B.m_range (pa_cons (pe_op op_add (pe_op op_sub (pe_callB call_len_str (by rfl) B.m_len PySem.boot_len (pa_cons (pv 1) pa_nil)) (pe_callB call_len_str (by rfl) B.m_len PySem.boot_len (pa_cons (pv 2) pa_nil))) pe_int) pa_nil)) (pg_name (i := 3) scis_seeded.nd rfl (.inl rfl)) 
      (pss_one (ps_if (pt_val (pe_call Dfits.ok hr (by rfl) Dfits.g Dfits.kp Dfits.b .nil pass0 (pa_cons (pv 2) (pa_cons (pv 1) (pa_cons (pv 3) pa_nil))))) 
        (pss_one (ps_ret pe_bl)) pss_nil))))) 
  (pss_one (ps_ret pe_bl))), ?_⟩
    walk_at "vc"
    refine x_iListi hsp ?_
    refine for_list (K := K) (a := sp) (xs := sds.map strV) (fun i σ H' => (∃ y2 y3, σ = [some (.ref sp), some (.str (S z)), y2, y3]) ∧ Same H H' ∧ ∀ j sd, j < i → sds[j]? = some sd → (List.range z.length).any (fun p : Nat => fitsB sd z (p : Int)) = false) ⟨⟨_, _, rfl⟩, Same.refl _, fun j sd h => by omega⟩ (fun i σ H' _ h => h.2.1.seq hsp) ?_ ?_
    · rintro i x σ H1 hx ⟨⟨y2, y3, rfl⟩, sm, hall⟩
      have hi : i < sds.length := by
        have := (List.getElem?_eq_some_iff.mp hx).1
        rw [List.length_map] at this
        exact this
      have ex : x = V.str (S sds[i]) := by
        rw [List.getElem?_map, List.getElem?_eq_getElem hi] at hx
        exact (Option.some.inj hx).symm
      subst ex
      have hm : sds[i] ∈ sds := List.getElem_mem hi
      have hsi : sds[i]? = some sds[i] := List.getElem?_eq_getElem hi
      have hl := hsd _ hm
      generalize hsde : sds[i] = sd at hm hsi hl
      have l1 := hl.one
      have l8 := hl.most
      have es : ((S sd).length : Int) = sd.length := by rw [len_S]
      have lsd : (S sd).length ≤ sizeLine := hp_sz (by rw [len_S]; omega)
      walk_at "vc"
      have en : (((S z).length : Int) - ((S sd).length : Int) + 1).toNat = ((z.length : Int) - (sd.length : Int) + 1).toNat := by rw [es, ez]
      rw [en]
      refine for_range (fun j σ H' => (∃ y3, σ = [some (.ref sp), some (.str (S z)), some (.str (S sd)), y3]) ∧ Same H H' ∧ ∀ p : Nat, p < j → fitsB sd z (p : Int) = false) ⟨⟨_, rfl⟩, sm, fun p h => by omega⟩ ?_ ?_
      · rintro j σ H2 hj ⟨⟨y3, rfl⟩, sm2, hall2⟩
        walk_at "vc"
        have e0 : (0 : Int) + (j : Int) = ((j : Nat) : Int) := Int.zero_add _
        refine ⟨sd, z, (j : Nat), by rw [e0]; rfl, hl, hLk, hz, fun H3 sm3 => ?_⟩
        walk_at "vc"
        refine ite2 (fun e => ?_) (fun e => ?_)
        · walk_at "vc"
          have := q _ (sm2.trans sm3)
          have et : seededB sds z = true := by
            unfold seededB
            exact List.any_eq_true.mpr ⟨sd, hm, by rw [← any_short l1]; exact List.any_eq_true.mpr ⟨j, List.mem_range.mpr hj, e⟩⟩
          rw [et] at this
          exact this
        · walk_at "vc"
          refine ⟨⟨_, rfl⟩, sm2.trans sm3, fun p hp => ?_⟩
          by_cases hpj : p = j
          · rw [hpj]; exact Bool.eq_false_iff.mpr e
          · exact hall2 p (by omega)
      · rintro σ H2 ⟨⟨y3, rfl⟩, sm2, hall2⟩
        walk_at "vc"
        refine ⟨⟨_, _, rfl⟩, sm2, fun k s hk hs => ?_⟩
        by_cases hki : k = i
        · subst hki
          have : s = sd := Option.some.inj (hs.symm.trans hsi)
          rw [this, ← any_short l1, List.any_eq_false]
          intro p hp he
          rw [hall2 p (List.mem_range.mp hp)] at he
          cases he
        · exact hall k s (by omega) hs
    · rintro σ H1 ⟨⟨y2, y3, rfl⟩, sm, hall⟩
      walk_at "vc"
      have := q _ sm
      have ef : seededB sds z = false := by
        unfold seededB
        rw [List.any_eq_false]
        intro sd hm he
        obtain ⟨j, hj⟩ := List.getElem?_of_mem hm
        have hjl := (List.getElem?_eq_some_iff.mp hj).1
        rw [hall j sd (by rw [List.length_map]; exact hjl) hj] at he
        cases he
      rw [ef] at this
      exact this


theorem ok_tail {f : Addr} {fd : FuncData} {uFEWEST_LETTERS uMOST_LETTERS uALPHABET uLONGEST_ROW uLEAST_WEIGHT uMOST_WEIGHT uLIKE uUNLIKE uSHORTEST_SEED uLONGEST_SEED uPICK uGAP uFEWEST_SEEDS uMOST_SEEDS uBAR uENDLESS uLOW uREACHES uUNSEEDED : Value} (F : Fun K "_tail" "_tail" s_tail f fd) (B : Bl mg) (C : Cs mg uFEWEST_LETTERS uMOST_LETTERS uALPHABET uLONGEST_ROW uLEAST_WEIGHT uMOST_WEIGHT uLIKE uUNLIKE uSHORTEST_SEED uLONGEST_SEED uPICK uGAP uFEWEST_SEEDS uMOST_SEEDS uBAR uENDLESS uLOW uREACHES uUNSEEDED) : FnOk P w K mg base CX0 1 f fd ["likes", "keep"] (sp_tail K) := by
  refine F.ok sc_tail (fun vs H Q E h => ?_) (fun cdv A outer s H vs Q E hr h => ?_)
  · first
      | (obtain ⟨_, rfl, _⟩ := h; rfl)
      | (obtain ⟨_, _, rfl, _⟩ := h; rfl)
      | (obtain ⟨_, _, _, rfl, _⟩ := h; rfl)
      | (obtain ⟨_, _, _, _, rfl, _⟩ := h; rfl)
      | (obtain ⟨_, _, _, _, _, rfl, _⟩ := h; rfl)
      | (obtain ⟨_, _, _, _, _, _, rfl, _⟩ := h; rfl)
      | (obtain ⟨_, _, _, _, _, _, _, rfl, _⟩ := h; rfl)
      | (obtain ⟨_, _, _, _, _, _, _, _, rfl, _⟩ := h; rfl)
      | (obtain ⟨_, _, _, _, _, _, _, _, _, rfl, _⟩ := h; rfl)
      | (obtain ⟨_, _, _, _, _, _, _, _, _, _, rfl, _⟩ := h; rfl)
      | (obtain ⟨_, _, _, _, _, _, _, _, _, _, _, rfl, _⟩ := h; rfl)
      | (obtain ⟨_, _, _, _, _, _, _, _, _, _, _, _, rfl, _⟩ := h; rfl)
      | (obtain ⟨_, _, _, _, _, _, _, _, _, _, _, _, _, rfl, _⟩ := h; rfl)
      | (obtain ⟨_, _, _, _, _, _, _, _, _, _, _, _, _, _, rfl, _⟩ := h; rfl)
      | (obtain ⟨_, _, _, _, _, _, _, _, _, _, _, _, _, _, _, rfl, _⟩ := h; rfl)
      | (obtain ⟨_, _, _, _, _, _, _, _, _, _, _, _, _, _, _, _, rfl, _⟩ := h; rfl)
      | (obtain ⟨_, _, _, _, _, _, _, _, _, _, _, _, _, _, _, _, _, rfl, _⟩ := h; rfl)
  · obtain ⟨z, k, rfl, h1, h2, q⟩ := h
    have ez : ((S z).length : Int) = z.length := by rw [len_S]
    have lz : (S z).length ≤ sizeLine := hp_sz (by rw [len_S]; omega)
    refine ⟨_, 
  (pss_one (ps_ret (pe_m1 PySem.F.slot_str_lstrip PySem.F.type_str_lstrip mt_lstripChars (pe_slice sl_str (pv 0) (po_some (pe_callB (call_max2 rfl) (by rfl) B.m_max (by decide +kernel) (pa_cons pe_int (pa_cons (pe_op op_sub (pe_callB call_len_str (by rfl) B.m_len PySem.boot_len (pa_cons (pv 0) pa_nil)) (pv 1)) pa_nil)))) po_none) (pe_glob rfl C.c_UNLIKE.2 C.c_UNLIKE.1)))), ?_⟩
    walk_at "vc"
    refine x_slS lz ?_
    have e : (if ((S z).length : Int) - (k : Int) > 0 then ((S z).length : Int) - (k : Int) else 0) = ((z.length - k : Nat) : Int) := by rw [ez]; split <;> omega
    rw [e, cutS_drop]
    walk_at "vc"
    refine ⟨hp_sz (by rw [len_S, List.length_drop]; omega), ?_⟩
    show Q (.str (Txt.lstripChars (S (z.drop (z.length - k))) (S [47]))) H
    rw [lstrip_S]
    exact q


def stpsU (sds : List (List Nat)) (k : Nat) (t : List Nat) (i : Nat) : List (Nat × List Nat) := ((([61, 47] : List Nat).take i).filter fun c => okS sds t c).map fun c => (c, tlK k (t ++ [c]))
theorem stpsU_yes {sds : List (List Nat)} {k : Nat} {t : List Nat} {i c : Nat} (hi : i < 2) (hc : c = if i = 0 then 61 else 47) (h : okS sds t c = true) : stpsU sds k t (i + 1) = stpsU sds k t i ++ [(c, tlK k (t ++ [c]))] := by
  unfold stpsU
  have : ([61, 47] : List Nat).take (i + 1) = ([61, 47] : List Nat).take i ++ [c] := by
    have : i = 0 ∨ i = 1 := by omega
    rcases this with e | e <;> subst e <;> subst hc <;> rfl
  rw [this, List.filter_append, List.filter_cons, if_pos h, List.map_append]
  rfl
theorem stpsU_no {sds : List (List Nat)} {k : Nat} {t : List Nat} {i c : Nat} (hi : i < 2) (hc : c = if i = 0 then 61 else 47) (h : ¬ okS sds t c = true) : stpsU sds k t (i + 1) = stpsU sds k t i := by
  unfold stpsU
  have : ([61, 47] : List Nat).take (i + 1) = ([61, 47] : List Nat).take i ++ [c] := by
    have : i = 0 ∨ i = 1 := by omega
    rcases this with e | e <;> subst e <;> subst hc <;> rfl
  rw [this, List.filter_append, List.filter_cons, if_neg h, List.filter_nil, List.append_nil]
theorem stpsU_new {sds : List (List Nat)} {k : Nat} {t : List Nat} {i c : Nat} (hi : i < 2) (hc : c = if i = 0 then 61 else 47) : valV (stepKV (stpsU sds k t i)) (Sum.inr (S [c])) = none := by
  have : i = 0 ∨ i = 1 := by omega
  rcases this with e | e
  · subst e
    rfl
  · subst e
    subst hc
    unfold stpsU
    show valV (stepKV ((([61] : List Nat).filter fun c => okS sds t c).map _)) (Sum.inr (S [47])) = none
    rw [List.filter_cons]
    split
    · show valV [(Sum.inr (S [61]), _)] _ = none
      rw [valV_neg (fun q => by have := (List.cons.inj (inr_S q)).1; omega)]
      rfl
    · rfl
theorem stpsU_len (sds : List (List Nat)) (k : Nat) (t : List Nat) (i : Nat) : (stepKV (stpsU sds k t i)).length ≤ 2 := by
  unfold stepKV stpsU
  rw [List.length_map, List.length_map]
  refine Nat.le_trans (List.length_filter_le _ _) ?_
  rw [List.length_take]
  exact Nat.min_le_right _ _
theorem take_map_succ {α β : Type} (f : α → β) {l : List α} {j : Nat} (h : j < l.length) : (l.take (j + 1)).map f = (l.take j).map f ++ [f l[j]] := by
  rw [List.take_succ_eq_append_getElem h, List.map_append]
  rfl
theorem ok_steps_from {f : Addr} {fd : FuncData} {uFEWEST_LETTERS uMOST_LETTERS uALPHABET uLONGEST_ROW uLEAST_WEIGHT uMOST_WEIGHT uLIKE uUNLIKE uSHORTEST_SEED uLONGEST_SEED uPICK uGAP uFEWEST_SEEDS uMOST_SEEDS uBAR uENDLESS uLOW uREACHES uUNSEEDED : Value} {f_tail : Addr} {fd_tail : FuncData} {ffits : Addr} {fdfits : FuncData} (F : Fun K "_steps_from" "_steps_from" s_steps_from f fd) (B : Bl mg) (C : Cs mg uFEWEST_LETTERS uMOST_LETTERS uALPHABET uLONGEST_ROW uLEAST_WEIGHT uMOST_WEIGHT uLIKE uUNLIKE uSHORTEST_SEED uLONGEST_SEED uPICK uGAP uFEWEST_SEEDS uMOST_SEEDS uBAR uENDLESS uLOW uREACHES uUNSEEDED) (D_tail : Dn P w K mg base "_tail" 1 ["likes", "keep"] (sp_tail K) f_tail fd_tail) (Dfits : Dn P w K mg base "fits" 2 ["seed", "likes", "place"] (spfits K) ffits fdfits) : FnOk P w K mg base CX0 3 f fd ["tail", "seeds"] (sp_steps_from K) := by
  refine F.ok sc_steps_from (fun vs H Q E h => ?_) (fun cdv A outer s H vs Q E hr h => ?_)
  · first
      | (obtain ⟨_, rfl, _⟩ := h; rfl)
      | (obtain ⟨_, _, rfl, _⟩ := h; rfl)
      | (obtain ⟨_, _, _, rfl, _⟩ := h; rfl)
      | (obtain ⟨_, _, _, _, rfl, _⟩ := h; rfl)
      | (obtain ⟨_, _, _, _, _, rfl, _⟩ := h; rfl)
      | (obtain ⟨_, _, _, _, _, _, rfl, _⟩ := h; rfl)
      | (obtain ⟨_, _, _, _, _, _, _, rfl, _⟩ := h; rfl)
      | (obtain ⟨_, _, _, _, _, _, _, _, rfl, _⟩ := h; rfl)
      | (obtain ⟨_, _, _, _, _, _, _, _, _, rfl, _⟩ := h; rfl)
      | (obtain ⟨_, _, _, _, _, _, _, _, _, _, rfl, _⟩ := h; rfl)
      | (obtain ⟨_, _, _, _, _, _, _, _, _, _, _, rfl, _⟩ := h; rfl)
      | (obtain ⟨_, _, _, _, _, _, _, _, _, _, _, _, rfl, _⟩ := h; rfl)
      | (obtain ⟨_, _, _, _, _, _, _, _, _, _, _, _, _, rfl, _⟩ := h; rfl)
      | (obtain ⟨_, _, _, _, _, _, _, _, _, _, _, _, _, _, rfl, _⟩ := h; rfl)
      | (obtain ⟨_, _, _, _, _, _, _, _, _, _, _, _, _, _, _, rfl, _⟩ := h; rfl)
      | (obtain ⟨_, _, _, _, _, _, _, _, _, _, _, _, _, _, _, _, rfl, _⟩ := h; rfl)
      | (obtain ⟨_, _, _, _, _, _, _, _, _, _, _, _, _, _, _, _, _, rfl, _⟩ := h; rfl)
  · obtain ⟨sp, sds, t, rfl, hsp, hsd, l1, l3, hLk, ht, q⟩ := h
    have hl : ∀ sd ∈ sds, (S sd).length ≤ sizeLine := fun sd hs => hp_sz (by rw [len_S]; have := (hsd sd hs).most; omega)
    refine ⟨_, 
  (pss_cons (ps_set (i := 2) sc_steps_from.nd rfl (.inl rfl) (pe_op op_sub (pe_callBK (cr_maxD rfl hr.units) (by rfl) B.m_max (by decide +kernel) (pa_cons (pe_lc (own := [("seed", 6)]) (g := gName 6) (tt := tYes) rfl sc_steps_from.nd (pi_list (pv 1)) (blkOk_by (N := n_steps_from) (sc := defScope s_steps_from) (by decide +kernel)) (fun _ _ _ _ _ => (pg_name (i := 6) sc_steps_from.nd rfl (.inl rfl))) (fun _ _ _ _ _ => pts_nil) (fun _ _ _ _ _ => (pe_callB call_len_str (by rfl) B.m_len PySem.boot_len (pa_cons (pv 6) pa_nil)))) pa_nil) (pk_cons pe_int pk_nil)) pe_int)) 
  (pss_cons (ps_set (i := 3) sc_steps_from.nd rfl (.inl rfl) pe_dnewK) 
  (pss_cons (ps_for PassesOwn.never rfl (pi_tup (pe_tup (pa_cons (pe_glob rfl C.c_LIKE.2 C.c_LIKE.1) (pa_cons (pe_glob rfl C.c_UNLIKE.2 C.c_UNLIKE.1) pa_nil)))) (pg_name (i := 4) sc_steps_from.nd rfl (.inl rfl)) 
    (pss_cons (ps_set (i := 5) sc_steps_from.nd rfl (.inr rfl) (pe_op op_add_str (pv 0) (pv 4))) 
    (pss_one (ps_if (pt_not (pt_val (pe_callB (cr_any rfl) (by rfl) B.m_any (by decide +kernel) (pa_cons (pe_lc (own := [("seed", 6)]) (g := gName 6) (tt := tYes) rfl sc_steps_from.nd (pi_list (pv 1)) (blkOk_by (N := n_steps_from) (sc := defScope s_steps_from) (by decide +kernel)) (fun _ _ _ _ _ => (pg_name (i := 6) sc_steps_from.nd rfl (.inl rfl))) (fun _ _ _ _ _ => pts_nil) (fun _ _ _ _ _ => (pe_call Dfits.ok hr (by rfl) Dfits.g Dfits.kp Dfits.b .nil pass0 (pa_cons (pv 6) (pa_cons (pv 5) (pa_cons (pe_op op_sub (pe_callB call_len_str (by rfl) B.m_len PySem.boot_len (pa_cons (pv 5) pa_nil)) (pe_callB call_len_str (by rfl) B.m_len PySem.boot_len (pa_cons (pv 6) pa_nil))) pa_nil)))))) pa_nil)))) 
      (pss_one (ps_dput (hu_of hr) (pv 3) (pv 4) (pe_call D_tail.ok (hr.mono (by decide)) (by rfl) D_tail.g D_tail.kp D_tail.b .nil pass0 (pa_cons (pv 5) (pa_cons (pv 2) pa_nil))) rfl)) pss_nil)))) 
  (pss_one (ps_ret (pv 3)))))), ?_⟩
    walk_at "vc"
    refine x_iListi hsp ?_
    intro D hD
    refine lc_list (K := K) (a := sp) (xs := sds.map strV) (fun j H' => Same H H' ∧ H' D = some (.lst ((sds.take j).map fun sd => V.int ((sd.length : Nat) : Int)))) ⟨same_upd hD, upd_same⟩ (fun j H' _ h => h.1.seq hsp) (fun j x H' hx h => ?_) (fun H1 h => ?_)
    · have hj : j < sds.length := by
        have := (List.getElem?_eq_some_iff.mp hx).1
        rw [List.length_map] at this
        exact this
      have ex : x = V.str (S sds[j]) := by
        rw [List.getElem?_map, List.getElem?_eq_getElem hj] at hx
        exact (Option.some.inj hx).symm
      subst ex
      have hlj := hl _ (List.getElem_mem hj)
      walk_at "vc"
      refine ⟨rfl, ?_⟩
      walk_at "vc"
      refine ⟨_, h.2, by rw [List.length_map, List.length_take]; exact Nat.lt_of_le_of_lt (by omega : _ ≤ 1000) (by decide), h.1.putN hD, ?_⟩
      rw [upd_same, take_map_succ _ hj, len_S]
    · obtain ⟨sm1, hD1⟩ := h
      rw [List.length_map, List.take_length] at hD1
      walk_at "vc"
      refine ⟨D, (sds.map List.length).map fun n => ((n : Nat) : Int), 1, rfl, rfl, SqL.of (by rw [hD1, List.map_map, List.map_map]; rfl), fun z => ?_, fun m hm hge => ?_⟩
      · have := congrArg List.length z
        rw [List.length_map, List.length_map] at this
        have : sds.length = 0 := this
        omega
      have em := mxL_of hm hge
      subst em
      have h1 : 1 ≤ mxL (sds.map List.length) := by
        cases sds with
        | nil => simp at l1
        | cons sd r => exact Nat.le_trans (hsd sd List.mem_cons_self).one (mxL_ge (List.mem_map.mpr ⟨sd, List.mem_cons_self, rfl⟩))
      have hk7 := kM_le hsd
      have ek : ((mxL (sds.map List.length) : Nat) : Int) - 1 = ((kM sds : Nat) : Int) := by
        show _ = ((mxL (sds.map List.length) - 1 : Nat) : Int)
        omega
      walk_at "vc"
      rw [ek]
      intro d hd
      have nd : H d = none := sm1.free hd
      have sm2 : Same H (upd H1 d (.dK [])) := sm1.trans (same_upd hd)
      have hd2 : upd H1 d (.dK []) d = some (.dK []) := upd_same
      generalize upd H1 d (.dK []) = H2 at sm2 hd2
      walk_at "vc"
      refine ⟨by decide, fun tp htp => ?_⟩
      have sm3 := sm2.trans (same_upd (o := .tup [.str (Str.ofString "="), .str (Str.ofString "/")]) htp)
      have hd3 : upd H2 tp (.tup [.str (Str.ofString "="), .str (Str.ofString "/")]) d = _ := (upd_ne (ne_of_none hd2 htp)).trans hd2
      have htp3 : upd H2 tp (.tup [.str (Str.ofString "="), .str (Str.ofString "/")]) tp = _ := upd_same
      generalize upd H2 tp (.tup [.str (Str.ofString "="), .str (Str.ofString "/")]) = H3 at sm3 hd3 htp3
      refine ⟨tp, rfl, ⟨_, SqT.of htp3⟩, ?_⟩
      refine for_it (walk_tup (xs := [.str (Str.ofString "="), .str (Str.ofString "/")])) (fun i σ H' => (∃ y4 y5 y6, σ = [some (.str (S t)), some (.ref sp), some (.int ((kM sds : Nat) : Int)), some (.ref d), y4, y5, y6]) ∧ Same H H' ∧ H' tp = some (.tup [.str (Str.ofString "="), .str (Str.ofString "/")]) ∧ H' d = some (.dK (stepKV (stpsU sds (kM sds) t i)))) ⟨⟨_, _, _, rfl⟩, sm3, htp3, hd3⟩ (fun i σ H' _ h => SqT.of h.2.2.1) ?_ ?_
      · rintro i x σ H4 H4' hi ⟨⟨y4, y5, y6, rfl⟩, sm4, htp4, hd4⟩ ⟨rfl, hx⟩
        have hi2 : i < 2 := hi
        obtain ⟨c, ec, ex⟩ : ∃ c : Nat, (c = if i = 0 then 61 else 47) ∧ x = .str (S [c]) := by
          have : i = 0 ∨ i = 1 := by omega
          rcases this with e | e
          · subst e; exact ⟨61, rfl, (Option.some.inj hx).symm⟩
          · subst e; exact ⟨47, rfl, (Option.some.inj hx).symm⟩
        subst ex
        have hcc : c = 61 ∨ c = 47 := by rw [ec]; split <;> simp
        have hlk' : Lk (t ++ [c]) := hLk.app fun d hd => by rw [List.mem_singleton.mp hd]; exact hcc
        have hyl : (t ++ [c]).length = t.length + 1 := by rw [List.length_append]; rfl
        have lS : (S (t ++ [c])).length ≤ sizeLine := hp_sz (by rw [len_S]; omega)
        walk_at "vc"
        refine ⟨S t, S [c], rfl, rfl, hp_sz (by rw [len_S, len_S]; show t.length + 1 ≤ _; omega), ?_⟩
        rw [S_app]
        walk_at "vc"
        refine x_iListi (sm4.seq hsp) ?_
        intro E hE
        refine lc_list (K := K) (a := sp) (xs := sds.map strV) (fun j H' => Same H4' H' ∧ H' E = some (.lst ((sds.take j).map fun sd => V.bl (fitsB sd (t ++ [c]) (((t ++ [c]).length : Int) - (sd.length : Int)))))) ⟨same_upd hE, upd_same⟩ (fun j H' _ h => (sm4.trans h.1).seq hsp) (fun j x H' hx h => ?_) (fun H5 h => ?_)
        · have hj : j < sds.length := by
            have := (List.getElem?_eq_some_iff.mp hx).1
            rw [List.length_map] at this
            exact this
          have ex : x = V.str (S sds[j]) := by
            rw [List.getElem?_map, List.getElem?_eq_getElem hj] at hx
            exact (Option.some.inj hx).symm
          subst ex
          have hlj := hl _ (List.getElem_mem hj)
          walk_at "vc"
          refine ⟨rfl, ?_⟩
          walk_at "vc"
          have ep : ((S (t ++ [c])).length : Int) - ((S sds[j]).length : Int) = ((t ++ [c]).length : Int) - (sds[j].length : Int) := by rw [len_S, len_S]
          rw [ep]
          refine ⟨sds[j], t ++ [c], _, rfl, hsd _ (List.getElem_mem hj), hlk', by omega, fun H6 sm6 => ?_⟩
          refine ⟨_, sm6 _ _ h.2, by rw [List.length_map, List.length_take]; exact Nat.lt_of_le_of_lt (by omega : _ ≤ 1000) (by decide), (h.1.trans sm6).putN hE, ?_⟩
          rw [upd_same, take_map_succ _ hj]
        · obtain ⟨sm5, hE5⟩ := h
          rw [List.length_map, List.take_length] at hE5
          walk_at "vc"
          refine ⟨E, sds.map fun sd => fitsB sd (t ++ [c]) (((t ++ [c]).length : Int) - (sd.length : Int)), rfl, SqL.of (by rw [hE5, List.map_map]; rfl), ?_⟩
          have ea : ((sds.map fun sd => fitsB sd (t ++ [c]) (((t ++ [c]).length : Int) - (sd.length : Int))).any id) = !okS sds t c := by
            unfold okS
            rw [Bool.not_not, List.any_map]
            rfl
          rw [ea]
          have hd5 := sm5 _ _ hd4
          walk_at "vc"
          rw [Bool.not_not]
          refine ite2 (fun e => ?_) (fun e => ?_)
          · walk_at "vc"
            refine ⟨t ++ [c], kM sds, rfl, by omega, by omega, ?_⟩
            walk_at "vc"
            refine x_putS hd5 (Nat.lt_of_le_of_lt (stpsU_len sds (kM sds) t i) (by decide)) ?_
            rw [putK_new _ (stpsU_new hi2 ec)]
            refine ⟨⟨_, _, _, rfl⟩, (sm4.trans sm5).putN nd, ?_, ?_⟩
            · rw [upd_ne (ne_of (sm5 _ _ htp4) hd5 (fun z => nomatch z))]
              exact sm5 _ _ htp4
            · rw [upd_same, stpsU_yes hi2 ec e]
              unfold stepKV
              rw [List.map_append]
              rfl
          · walk_at "vc"
            refine ⟨⟨_, _, _, rfl⟩, sm4.trans sm5, sm5 _ _ htp4, ?_⟩
            rw [stpsU_no hi2 ec e]
            exact hd5
      · rintro σ H4 ⟨⟨y4, y5, y6, rfl⟩, sm4, htp4, hd4⟩
        walk_at "vc"
        exact q d H4 sm4 nd hd4


theorem map_dropLast' {α β : Type} (f : α → β) (l : List α) : (l.map f).dropLast = l.dropLast.map f := by rw [List.map_dropLast]
theorem getLast_strV {w : List (List Nat)} {t : List Nat} (h : w.getLast? = some t) : (w.map strV)[(w.map strV).length - 1]? = some (V.str (S t)) := by
  rw [← List.getLast?_eq_getElem?, List.getLast?_map, h]
  rfl
theorem ok_steps {f : Addr} {fd : FuncData} {f_steps_from : Addr} {fd_steps_from : FuncData} (F : Fun K "_steps" "_steps" s_steps f fd) (B : Bl mg) (D_steps_from : Dn P w K mg base "_steps_from" 3 ["tail", "seeds"] (sp_steps_from K) f_steps_from fd_steps_from) : FnOk P w K mg base CX0 4 f fd ["seeds"] (sp_steps K) := by
  refine F.ok sc_steps (fun vs H Q E h => ?_) (fun cdv A outer s H vs Q E hr h => ?_)
  · first
      | (obtain ⟨_, rfl, _⟩ := h; rfl)
      | (obtain ⟨_, _, rfl, _⟩ := h; rfl)
      | (obtain ⟨_, _, _, rfl, _⟩ := h; rfl)
      | (obtain ⟨_, _, _, _, rfl, _⟩ := h; rfl)
      | (obtain ⟨_, _, _, _, _, rfl, _⟩ := h; rfl)
      | (obtain ⟨_, _, _, _, _, _, rfl, _⟩ := h; rfl)
      | (obtain ⟨_, _, _, _, _, _, _, rfl, _⟩ := h; rfl)
      | (obtain ⟨_, _, _, _, _, _, _, _, rfl, _⟩ := h; rfl)
      | (obtain ⟨_, _, _, _, _, _, _, _, _, rfl, _⟩ := h; rfl)
      | (obtain ⟨_, _, _, _, _, _, _, _, _, _, rfl, _⟩ := h; rfl)
      | (obtain ⟨_, _, _, _, _, _, _, _, _, _, _, rfl, _⟩ := h; rfl)
      | (obtain ⟨_, _, _, _, _, _, _, _, _, _, _, _, rfl, _⟩ := h; rfl)
      | (obtain ⟨_, _, _, _, _, _, _, _, _, _, _, _, _, rfl, _⟩ := h; rfl)
      | (obtain ⟨_, _, _, _, _, _, _, _, _, _, _, _, _, _, rfl, _⟩ := h; rfl)
      | (obtain ⟨_, _, _, _, _, _, _, _, _, _, _, _, _, _, _, rfl, _⟩ := h; rfl)
      | (obtain ⟨_, _, _, _, _, _, _, _, _, _, _, _, _, _, _, _, rfl, _⟩ := h; rfl)
      | (obtain ⟨_, _, _, _, _, _, _, _, _, _, _, _, _, _, _, _, _, rfl, _⟩ := h; rfl)
  · obtain ⟨sp, sds, rfl, hsp, hsd, l1, l3, q⟩ := h
    have hk7 := kM_le hsd
    refine ⟨_, 
  (pss_cons (ps_set (i := 1) sc_steps.nd rfl (.inl rfl) pe_dnewK) 
  (pss_cons (ps_set (i := 2) sc_steps.nd rfl (.inl rfl) (pe_lst (pa_cons pe_str pa_nil))) 
  (pss_cons (ps_while PassesOwn.never (pt_truth (pv 2) (by intro _; rfl)) 
    (pss_cons (ps_set (i := 3) sc_steps.nd rfl (.inl rfl) (pe_bm0 PySem.F.plainAttrs_list PySem.F.slot_list_pop PySem.F.type_list_pop mt_pop (pv 2))) 
    (pss_one (ps_if (pt_cmp (pc_dnotin (hu_of hr) (pv 3) (pv 1))) 
      (pss_cons (ps_dput (hu_of hr) (pv 1) (pv 3) (pe_call D_steps_from.ok hr (by rfl) D_steps_from.g D_steps_from.kp D_steps_from.b .nil pass0 (pa_cons (pv 3) (pa_cons (pv 0) pa_nil))) rfl) 
      (pss_one (ps_expr (pe_bm PySem.F.plainAttrs_list PySem.F.slot_list_extend PySem.F.type_list_extend mt_extend (pv 2) (pa_cons (pe_listVals rfl (pe_dget (hu_of hr) (pv 1) (pv 3) (fun _ _ => rfl)) (by rfl) B.m_list (by decide +kernel)) pa_nil))))) pss_nil)))) 
  (pss_one (ps_ret (pv 1)))))), ?_⟩
    walk_at "vc"
    intro d hd
    have sm1 : Same H (upd H d (.dK [])) := same_upd hd
    have hd1 : upd H d (.dK []) d = some (.dK []) := upd_same
    generalize upd H d (.dK []) = H1 at sm1 hd1
    walk_at "vc"
    refine ⟨by decide, fun wp hwp => ?_⟩
    have nwp : H wp = none := sm1.free hwp
    have sm2 : Same H (upd H1 wp (.lst [.str (Str.ofString "")])) := sm1.trans (same_upd hwp)
    have hwp2 : upd H1 wp (.lst [.str (Str.ofString "")]) wp = some (.lst (([[]] : List (List Nat)).map strV)) := upd_same
    have hd2 : upd H1 wp (.lst [.str (Str.ofString "")]) d = some (.dK (stKV [] [])) := (upd_ne (ne_of_none hd1 hwp)).trans hd1
    generalize upd H1 wp (.lst [.str (Str.ofString "")]) = H2 at sm2 hwp2 hd2
    walk_at "vc"
    refine ⟨fun m σ H' => ∃ (ks w : List (List Nat)) (ds : List Addr) (y : Option V) (n : Nat), m = msr ks w ∧ σ = [some (.ref sp), some (.ref d), some (.ref wp), y] ∧ Same H H' ∧ StAt H' d sds (kM sds) ks ds ∧ H' d = some (.dK (stKV ks ds)) ∧ H' wp = some (.lst (w.map strV)) ∧ StpI sds (kM sds) ks w ∧ msr ks w < n ∧ msr ks w ≤ 513 ∧ stp sds (kM sds) n ks w = keys sds (kM sds),
      ⟨_, [], [[]], [], none, 1000, rfl, rfl, sm2, ⟨rfl, .inl hd2, fun i t d h => by simp at h⟩, hd2, hwp2, StpI.start _ _, by decide, by decide, rfl⟩, ?_⟩
    rintro m σ H3 ⟨ks, w, ds, y, n, rfl, rfl, sm3, hSt, hd3, hwp3, hI, hm, hmm, hstp⟩
    obtain ⟨n, rfl⟩ : ∃ n', n = n' + 1 := ⟨n - 1, by omega⟩
    walk_at "vc"
    refine ⟨!(w.map strV).isEmpty, .inl ⟨_, SqL.of hwp3, rfl⟩, ?_⟩
    cases hl : w.getLast? with
    | none =>
      have ew : w = [] := List.getLast?_eq_none_iff.mp hl
      subst ew
      have ek : ks = keys sds (kM sds) := by
        rw [← hstp]
        rfl
      walk_at "vc"
      show if (!true) = true then _ else _
      walk_at "vc"
      rw [ek] at hSt hd3
      exact q d ds H3 sm3 hd hd3 hSt
    | some t =>
      have ew := snoc_of hl
      have hne : (!(w.map strV).isEmpty) = true := by
        rw [ew]
        simp
      rw [hne]
      have ht0 : t ∈ w := by rw [ew]; exact List.mem_append_right _ (List.mem_singleton.mpr rfl)
      have hTl := hI.wtl t ht0
      have hwl : w.length ≤ 513 := by
        unfold msr at hmm
        omega
      unfold stp at hstp
      rw [hl] at hstp
      have hstp : (if t ∈ ks then stp sds (kM sds) n ks w.dropLast else stp sds (kM sds) n (ks ++ [t]) (w.dropLast ++ goals sds (kM sds) t)) = keys sds (kM sds) := hstp
      have hdl : (w.map strV).dropLast = w.dropLast.map strV := by rw [List.map_dropLast]
      have nwd : wp ≠ d := ne_of hwp3 hd3 (fun z => nomatch z)
      walk_at "vc"
      by_cases ht : t ∈ ks
      · rw [if_pos ht] at hstp
        refine ⟨fun σ' H' => σ' = [some (.ref sp), some (.ref d), some (.ref wp), some (.str (S t))] ∧ H' = upd H3 wp (.lst (w.dropLast.map strV)), fun σ' H' h => ?_, ?_⟩
        · obtain ⟨rfl, rfl⟩ := h
          have hlt := msr_old (ks := ks) hl
          have sm4 : Same H (upd H3 wp (.lst (w.dropLast.map strV))) := sm3.putN nwp
          refine ⟨_, hlt, ks, w.dropLast, ds, _, n, rfl, rfl, sm4, ⟨hSt.len, .inl ((upd_ne nwd.symm).trans hd3), fun i u e h1 h2 => ?_⟩, (upd_ne nwd.symm).trans hd3, upd_same, hI.old hl ht, by omega, by omega, hstp⟩
          have := hSt.each i u e h1 h2
          rw [upd_ne (ne_of this hwp3 (fun z => nomatch z))]
          exact this
        · walk_at "vc"
          refine ⟨.inl ⟨rfl, _, SqL.of hwp3⟩, ?_⟩
          refine ⟨wp, w.map strV, V.str (S t), rfl, rfl, hwp3, getLast_strV hl, ?_⟩
          rw [hdl]
          walk_at "vc"
          refine x_askS (.inl ((upd_ne nwd.symm).trans hd3)) ?_
          obtain ⟨i, e, h1, h2, h3⟩ := stKV_in hSt.len ht
          rw [h3]
          refine ⟨false, rfl, ?_⟩
          walk_at "vc"
          exact ⟨rfl, rfl⟩
      · rw [if_neg ht] at hstp
        have hlt := msr_new hk7 hI hl ht
        have hI2 := hI.new hl ht
        have htl7 := hTl.len
        have hkl := tails_le hk7 hI2.nodup hI2.tl
        rw [List.length_append] at hkl
        have hgl := goals_len sds (kM sds) t
        refine ⟨fun σ' H' => ∃ e : Addr, σ' = [some (.ref sp), some (.ref d), some (.ref wp), some (.str (S t))] ∧ Same H H' ∧ H' d = some (.dK (stKV (ks ++ [t]) (ds ++ [e]))) ∧ StAt H' d sds (kM sds) (ks ++ [t]) (ds ++ [e]) ∧ H' wp = some (.lst ((w.dropLast ++ goals sds (kM sds) t).map strV)), fun σ' H' h => ?_, ?_⟩
        · obtain ⟨e, rfl, sm4, hd4, hSt4, hwp4⟩ := h
          exact ⟨_, hlt, ks ++ [t], w.dropLast ++ goals sds (kM sds) t, ds ++ [e], _, n, rfl, rfl, sm4, hSt4, hd4, hwp4, hI2, by omega, by omega, hstp⟩
        · walk_at "vc"
          refine ⟨.inl ⟨rfl, _, SqL.of hwp3⟩, ?_⟩
          refine ⟨wp, w.map strV, V.str (S t), rfl, rfl, hwp3, getLast_strV hl, ?_⟩
          rw [hdl]
          have sm4 : Same H (upd H3 wp (.lst (w.dropLast.map strV))) := sm3.putN nwp
          have hd4 : upd H3 wp (.lst (w.dropLast.map strV)) d = _ := (upd_ne nwd.symm).trans hd3
          have hwp4 : upd H3 wp (.lst (w.dropLast.map strV)) wp = some (.lst (w.dropLast.map strV)) := upd_same
          have each4 : ∀ (i : Nat) u e, ks[i]? = some u → ds[i]? = some e → upd H3 wp (.lst (w.dropLast.map strV)) e = some (.dK (stepKV (stps sds (kM sds) u))) := fun i u e h1 h2 => by
            have := hSt.each i u e h1 h2
            rw [upd_ne (ne_of this hwp3 (fun z => nomatch z))]
            exact this
          generalize upd H3 wp (.lst (w.dropLast.map strV)) = H4 at sm4 hd4 hwp4 each4
          walk_at "vc"
          refine x_askS (.inl hd4) ?_
          rw [stKV_out ht]
          refine ⟨true, rfl, ?_⟩
          walk_at "vc"
          refine ⟨sp, sds, t, rfl, sm4.seq hsp, hsd, l1, l3, hTl.lk, by omega, fun e H5 sm5 ne5 he5 => ?_⟩
          have hd5 := sm5 _ _ hd4
          have hwp5 := sm5 _ _ hwp4
          have ned : e ≠ d := fun z => by rw [z, hd4] at ne5; cases ne5
          walk_at "vc"
          refine x_putS hd5 (by rw [stKV_len hSt.len]; exact Nat.lt_of_le_of_lt (by omega : _ ≤ 1000) (by decide)) ?_
          rw [putK_new _ (stKV_out ht), ← stKV_snoc hSt.len]
          have sm6 : Same H (upd H5 d (.dK (stKV (ks ++ [t]) (ds ++ [e])))) := (sm4.trans sm5).putN hd
          have hd6 : upd H5 d (.dK (stKV (ks ++ [t]) (ds ++ [e]))) d = some (.dK (stKV (ks ++ [t]) (ds ++ [e]))) := upd_same
          have hwp6 : upd H5 d (.dK (stKV (ks ++ [t]) (ds ++ [e]))) wp = some (.lst (w.dropLast.map strV)) := (upd_ne nwd).trans hwp5
          have he6 : upd H5 d (.dK (stKV (ks ++ [t]) (ds ++ [e]))) e = some (.dK (stepKV (stps sds (kM sds) t))) := (upd_ne ned).trans he5
          have hlen' : (ds ++ [e]).length = (ks ++ [t]).length := by rw [List.length_append, List.length_append, hSt.len]; rfl
          have each6 : ∀ (i : Nat) u e', (ks ++ [t])[i]? = some u → (ds ++ [e])[i]? = some e' → upd H5 d (.dK (stKV (ks ++ [t]) (ds ++ [e]))) e' = some (.dK (stepKV (stps sds (kM sds) u))) := fun i u e' h1 h2 => by
            by_cases hi : i < ks.length
            · rw [List.getElem?_append_left hi] at h1
              rw [List.getElem?_append_left (by rw [hSt.len]; exact hi)] at h2
              have h4 := each4 i u e' h1 h2
              have h5 := sm5 _ _ h4
              rw [upd_ne (fun z => ?_)]
              · exact h5
              · rw [z] at h4
                have h6 := hSt.each i u e' h1 h2
                rw [z, hd3] at h6
                exact step_ne h1 h2 (HO.dK.inj (Option.some.inj h6)).symm
            · have hi2 := (List.getElem?_eq_some_iff.mp h1).1
              rw [List.length_append] at hi2
              have hi3 : i = ks.length := by simp only [List.length_cons, List.length_nil] at hi2; omega
              subst hi3
              rw [List.getElem?_append_right (Nat.le_refl _), Nat.sub_self] at h1
              rw [List.getElem?_append_right (by rw [hSt.len]; exact Nat.le_refl _), hSt.len, Nat.sub_self] at h2
              cases h1
              cases h2
              exact he6
          generalize upd H5 d (.dK (stKV (ks ++ [t]) (ds ++ [e]))) = H6 at sm6 hd6 hwp6 he6 each6
          walk_at "vc"
          refine ⟨.inl ⟨rfl, _, SqL.of hwp6⟩, ?_⟩
          walk_at "vc"
          obtain ⟨i0, e0, h1, h2, h3⟩ := stKV_in (t := t) hlen' (List.mem_append_right _ (List.mem_singleton.mpr rfl))
          refine x_getS (.inl hd6) h3 ?_
          refine x_valsD (each6 i0 t e0 h1 h2) fun vp hvp => ?_
          rw [stepKV_vals]
          have nvw : vp ≠ wp := fun z => by rw [z, hwp6] at hvp; cases hvp
          walk_at "vc"
          refine ⟨wp, vp, w.dropLast.map strV, (goals sds (kM sds) t).map strV, rfl, rfl, (upd_ne nvw.symm).trans hwp6, upd_same, ?_, ?_⟩
          · rw [List.length_map, List.length_map, List.length_dropLast]
            exact hp_sz (by omega)
          · have nvp : H vp = none := sm6.free hvp
            refine ⟨e, rfl, ?_, ?_, ⟨hlen', .inl ?_, fun i u e' h1 h2 => ?_⟩, ?_⟩
            · exact (sm6.putN nvp).putN nwp
            · rw [upd_ne nwd.symm, upd_ne (ne_of_none hd6 hvp)]
              exact hd6
            · rw [upd_ne nwd.symm, upd_ne (ne_of_none hd6 hvp)]
              exact hd6
            · have h6 := each6 i u e' h1 h2
              rw [upd_ne (ne_of h6 hwp6 (fun z => nomatch z)), upd_ne (ne_of_none h6 hvp)]
              exact h6
            · rw [upd_same, List.map_append]


/-- the dict of the tails come by, each with its place -/
def viKV (vis : List (List Nat)) : List (Key × V) := vis.zipIdx.map fun p => (Sum.inr (S p.1), V.int ((p.2 : Nat) : Int))
theorem viKV_len (vis : List (List Nat)) : (viKV vis).length = vis.length := by unfold viKV; rw [List.length_map, List.length_zipIdx]
theorem viKV_snoc (vis : List (List Nat)) (t : List Nat) : viKV (vis ++ [t]) = viKV vis ++ [(Sum.inr (S t), V.int ((vis.length : Nat) : Int))] := by
  unfold viKV
  rw [List.zipIdx_append, List.map_append]
  simp
theorem viKV_aux {t : List Nat} : ∀ (vis : List (List Nat)) (n : Nat), valV ((vis.zipIdx n).map fun p => ((Sum.inr (S p.1) : Key), V.int ((p.2 : Nat) : Int))) (Sum.inr (S t)) = if t ∈ vis then some (V.int ((n + vis.idxOf t : Nat) : Int)) else none
  | [], n => rfl
  | u :: vis, n => by
    rw [List.zipIdx_cons, List.map_cons]
    by_cases h : u = t
    · subst h
      rw [valV_pos rfl, if_pos List.mem_cons_self, List.idxOf_cons_self]
      rfl
    · rw [valV_neg (fun q => h (inr_S q)), viKV_aux vis (n + 1)]
      by_cases hm : t ∈ vis
      · have e : (u :: vis).idxOf t = vis.idxOf t + 1 := by
          rw [List.idxOf_cons, show (u == t) = false by simpa using h]
          rfl
        rw [if_pos hm, if_pos (List.mem_cons_of_mem _ hm), e]
        congr 2
        omega
      · rw [if_neg hm, if_neg (fun q => by
          rcases List.mem_cons.mp q with q | q
          · exact h q.symm
          · exact hm q)]
theorem rgo_cons (k : Nat) (vis : List (List Nat)) (t don : List Nat) (c : Nat) (z : List Nat) : rgo k vis t don (c :: z) = if tlK k (t ++ [c]) ∈ vis then (don ++ [c]).drop (vis.idxOf (tlK k (t ++ [c]))) else rgo k (vis ++ [tlK k (t ++ [c])]) (tlK k (t ++ [c])) (don ++ [c]) z := rfl
theorem viKV_get (vis : List (List Nat)) (t : List Nat) : valV (viKV vis) (Sum.inr (S t)) = if t ∈ vis then some (V.int ((vis.idxOf t : Nat) : Int)) else none := by
  have := viKV_aux (t := t) vis 0
  rw [Nat.zero_add] at this
  exact this
theorem ok_ring {f : Addr} {fd : FuncData} (F : Fun K "_ring" "_ring" s_ring f fd) (B : Bl mg) : FnOk P w K mg base CX0 1 f fd ["steps", "tail", "likes"] (sp_ring K) := by
  refine F.ok sc_ring (fun vs H Q E h => ?_) (fun cdv A outer s H vs Q E hr h => ?_)
  · first
      | (obtain ⟨_, rfl, _⟩ := h; rfl)
      | (obtain ⟨_, _, rfl, _⟩ := h; rfl)
      | (obtain ⟨_, _, _, rfl, _⟩ := h; rfl)
      | (obtain ⟨_, _, _, _, rfl, _⟩ := h; rfl)
      | (obtain ⟨_, _, _, _, _, rfl, _⟩ := h; rfl)
      | (obtain ⟨_, _, _, _, _, _, rfl, _⟩ := h; rfl)
      | (obtain ⟨_, _, _, _, _, _, _, rfl, _⟩ := h; rfl)
      | (obtain ⟨_, _, _, _, _, _, _, _, rfl, _⟩ := h; rfl)
      | (obtain ⟨_, _, _, _, _, _, _, _, _, rfl, _⟩ := h; rfl)
      | (obtain ⟨_, _, _, _, _, _, _, _, _, _, rfl, _⟩ := h; rfl)
      | (obtain ⟨_, _, _, _, _, _, _, _, _, _, _, rfl, _⟩ := h; rfl)
      | (obtain ⟨_, _, _, _, _, _, _, _, _, _, _, _, rfl, _⟩ := h; rfl)
      | (obtain ⟨_, _, _, _, _, _, _, _, _, _, _, _, _, rfl, _⟩ := h; rfl)
      | (obtain ⟨_, _, _, _, _, _, _, _, _, _, _, _, _, _, rfl, _⟩ := h; rfl)
      | (obtain ⟨_, _, _, _, _, _, _, _, _, _, _, _, _, _, _, rfl, _⟩ := h; rfl)
      | (obtain ⟨_, _, _, _, _, _, _, _, _, _, _, _, _, _, _, _, rfl, _⟩ := h; rfl)
      | (obtain ⟨_, _, _, _, _, _, _, _, _, _, _, _, _, _, _, _, _, rfl, _⟩ := h; rfl)
  · obtain ⟨sp, sds, k, ks, ds, t0, z0, rfl, hSt, hKI, ht0, hz0, hr0, hl0, q⟩ := h
    have lz : (S z0).length ≤ sizeLine := hp_sz (by rw [len_S]; omega)
    have hk255 := hKI.len
    refine ⟨_, 
  (pss_cons (ps_set (i := 3) sc_ring.nd rfl (.inl rfl) (pe_disp (pps_cons (pv 1) pe_int pps_nil) (by rfl) (by rfl) (fun z => by cases z) (by decide))) 
  (pss_cons (ps_for PassesOwn.never rfl (pi_enumS (by rfl) B.m_enumerate (pa_cons (pv 2) pa_nil)) (pg_tup rfl (pgs_cons (pg_name (i := 4) sc_ring.nd rfl (.inl rfl)) (pgs_cons (pg_name (i := 5) sc_ring.nd rfl (.inl rfl)) pgs_nil))) 
    (pss_cons (ps_set (i := 1) sc_ring.nd rfl (.inl rfl) (pe_dget (hu_of hr) (pe_dget (hu_of hr) (pv 0) (pv 1) (fun _ _ => rfl)) (pv 5) (fun _ _ => rfl))) 
    (pss_cons (ps_if (pt_cmp (pc_din (hu_of hr) (pv 1) (pv 3))) 
      (pss_one (ps_ret (pe_slice sl_str (pv 2) (po_some (pe_dget (hu_of hr) (pv 3) (pv 1) (fun _ _ => rfl))) (po_some (pe_op op_add (pv 4) pe_int))))) pss_nil) 
    (pss_one (ps_dput (hu_of hr) (pv 3) (pv 1) (pe_op op_add (pv 4) pe_int) rfl))))) 
  (pss_one (ps_ret pe_str)))), ?_⟩
    walk_at "vc"
    intro vp hvp
    show tVar 1 _ _ _
    walk_at "vc"
    refine ⟨upd_same, [(Sum.inr (S t0), .int 0)], rfl, (show 1 ≤ 15 by decide), ?_⟩
    walk_at "vc"
    have sm1 : Same H (upd (upd H vp (.dK [])) vp (.dK (mergeK [] [(Sum.inr (S t0), .int 0)]))) := by rw [upd_upd]; exact same_upd hvp
    have hvp1 : upd (upd H vp (.dK [])) vp (.dK (mergeK [] [(Sum.inr (S t0), .int 0)])) vp = some (.dK (viKV [t0])) := upd_same
    generalize upd (upd H vp (.dK [])) vp (.dK (mergeK [] [(Sum.inr (S t0), .int 0)])) = H1 at sm1 hvp1
    walk_at "vc"
    refine for_it (walk_enumS (x := S z0)) (fun i σ H' => ∃ (vis : List (List Nat)) (t : List Nat) (y4 y5 : Option V), σ = [some (.ref sp), some (.str (S t)), some (.str (S z0)), some (.ref vp), y4, y5] ∧ Same H H' ∧ H' vp = some (.dK (viKV vis)) ∧ RgI sds k ks t0 vis t (z0.take i) ∧ rgo k vis t (z0.take i) (z0.drop i) = rgo k [t0] t0 [] z0)
      ⟨[t0], t0, none, none, rfl, sm1, hvp1, by rw [List.take_zero]; exact RgI.start ht0, by rw [List.take_zero, List.drop_zero]⟩ (fun _ _ _ _ _ => trivial) ?_ ?_
    · rintro i x σ H2 H3 hi ⟨vis, t, y4, y5, rfl, sm2, hvp2, hR, hg⟩ ⟨T, c, rfl, hTn, hc, rfl⟩
      have hi' : i < z0.length := hi
      have ec : z0[i] = c := by
        have : z0[i]? = some c := by simpa [S] using hc
        rw [List.getElem?_eq_getElem hi'] at this
        exact Option.some.inj this
      have hcc : c = 61 ∨ c = 47 := by rw [← ec]; exact hz0 _ (List.getElem_mem hi')
      have ed : z0.drop i = c :: z0.drop (i + 1) := by rw [List.drop_eq_getElem_cons hi', ec]
      have et : z0.take (i + 1) = z0.take i ++ [c] := by rw [List.take_succ_eq_append_getElem hi', ec]
      have hok : okS sds t c = true := by
        have h2 := hr0
        rw [← List.take_append_drop i z0, run_app, hR.here, ed] at h2
        have h3 : (run sds k t (c :: z0.drop (i + 1))).isSome = true := h2
        rw [run_cons] at h3
        refine Classical.byContradiction fun e => ?_
        rw [if_neg e] at h3
        simp at h3
      have htk : t ∈ ks := hR.mem t hR.last
      have sm3 : Same H2 (upd H2 T (.tup [.int (i : Nat), .str ⟨#[c]⟩])) := same_upd hTn
      have hTT : upd H2 T (.tup [.int (i : Nat), .str ⟨#[c]⟩]) T = some (.tup [.int (i : Nat), .str ⟨#[c]⟩]) := upd_same
      have hvp3 := sm3 _ _ hvp2
      have smA := sm2.trans sm3
      generalize upd H2 T (.tup [.int (i : Nat), .str ⟨#[c]⟩]) = H3 at sm3 hTT hvp3 smA
      have hSt3 := hSt.same smA
      obtain ⟨d, hd1, hd2⟩ := hSt3.get htk
      refine x_gTup (SqT.of hTT) rfl ?_
      walk_at "vc"
      refine x_getS hSt3.at_ hd1 ?_
      walk_at "vc"
      refine x_getS (z := S [c]) (.inl hd2) (stepKV_go hcc hok) ?_
      walk_at "vc"
      refine x_askS (.inl hvp3) ?_
      rw [viKV_get]
      rw [ed] at hg
      rw [rgo_cons] at hg
      by_cases hm : tlK k (t ++ [c]) ∈ vis
      · rw [if_pos hm] at hg
        rw [if_pos hm]
        refine ⟨true, rfl, ?_⟩
        walk_at "vc"
        refine x_getS (.inl hvp3) (by rw [viKV_get, if_pos hm]) ?_
        walk_at "vc"
        refine x_slS lz ?_
        have e1 : ((i : Nat) : Int) + 1 = ((i + 1 : Nat) : Int) := by omega
        rw [e1, cutS_cut _ _ (i + 1) (by omega), ← List.drop_take, et, hg]
        exact q _ smA
      · rw [if_neg hm] at hg
        rw [if_neg hm]
        refine ⟨false, rfl, ?_⟩
        walk_at "vc"
        have hR2 := hR.step hKI hcc hok hm
        have hvl := hR.len
        rw [List.length_take, Nat.min_eq_left (Nat.le_of_lt hi')] at hvl
        refine x_putS hvp3 (by rw [viKV_len, hvl]; exact Nat.lt_of_le_of_lt (by omega : _ ≤ 1001) (by decide)) ?_
        have e1 : ((i : Nat) : Int) + 1 = ((vis.length : Nat) : Int) := by omega
        rw [putK_new _ (by rw [viKV_get, if_neg hm]), e1, ← viKV_snoc]
        exact ⟨_, _, _, _, rfl, smA.putN hvp, upd_same, by rw [et]; exact hR2, by rw [et]; exact hg⟩
    · rintro σ H2 ⟨vis, t, y4, y5, rfl, sm2, hvp2, hR, hg⟩
      have hsz : (S z0).cps.size = z0.length := len_S z0
      rw [hsz, List.drop_length] at hg
      walk_at "vc"
      have e0 : (Str.ofString "" : Str) = S [] := rfl
      rw [e0]
      have e1 : ([] : List Nat) = rgo k [t0] t0 [] z0 := hg
      rw [e1]
      exact q _ sm2


abbrev lamE : Expr := match s_best_behind with
  | .FunctionDef _ _ body _ _ _ _ _ _ _ => match body.getD 2 (.Pass ⟨0, 0, 0, 0⟩) with
    | .Return (some (.Call _ _ [⟨_, e, _⟩] _)) _ => e
    | _ => .Constant .none 0 ⟨0, 0, 0, 0⟩
  | _ => .Constant .none 0 ⟨0, 0, 0, 0⟩
abbrev lamPar : Arguments := match lamE with
  | .Lambda a _ _ _ => a
  | _ => defArgs s_best_behind
abbrev lamBody : Expr := match lamE with
  | .Lambda _ b _ _ => b
  | _ => .Constant .none 0 ⟨0, 0, 0, 0⟩
abbrev lamSc : Scope := match lamE with
  | .Lambda _ _ sc _ => sc
  | _ => defScope s_best_behind
theorem scLam_best_behind : FnScope ["choice"] ["choice"] lamSc := ⟨rfl, rfl, rfl, by decide +kernel, rfl, by decide +kernel, by decide +kernel⟩
theorem lamKey_best_behind {K : PySem.W.Frag} (t : Addr) (p : Int × List Nat) (H : Hp) (Q : VK) (hm : MxIt H t p) (q : ∀ kp H', Same H H' → H kp = none → H' kp = some (keyT p) → Q (.ref kp) H') :
    tTup (tCons (tOp (rIxT K) (tVar 0) (tC (.int 0))) (tCons (tUn (rU fun i => V.int (-i)) (tCB (fun xs H Q => ∃ z, xs = [V.str z] ∧ z.length ≤ sizeLine ∧ Q (.int (z.length : Nat)) H) (tCons (tOp (rIxT K) (tVar 0) (tC (.int 1))) tNil))) tNil)) (L2.start ["choice"] [.ref t]) H Q := by
  obtain ⟨hm1, hm2⟩ := hm
  refine x_tup ?_
  refine x_cons ?_
  refine x_op (x_var (v := .ref t) rfl (x_c ?_))
  refine x_ixT (SqT.of hm1) (atI_nat (j := 0) rfl) ?_
  refine x_cons ?_
  refine x_un (x_cb (x_cons ?_))
  refine x_op (x_var (v := .ref t) rfl (x_c ?_))
  refine x_ixT (SqT.of hm1) (atI_nat (j := 1) rfl) ?_
  refine x_nil ?_
  refine ⟨_, rfl, hp_sz (by rw [len_S]; omega), ?_⟩
  refine x_rU ?_
  refine x_nil ?_
  refine ⟨(show 2 ≤ sizeLine by decide), fun kp hkp => q kp _ (same_upd hkp) hkp ?_⟩
  rw [upd_same, len_S]
  rfl
theorem ok_best_behind {f cc PT : Addr} {oc kV doc pm ct : Value} {od an : Option Addr} {osl : Array (Option Value)} (lk : K.lookup f = some ⟨oc, od, .func (PySem.W.fnOf "_best_behind" "_best_behind" (defArgs s_best_behind) (defBody s_best_behind) (defScope s_best_behind) .none kV doc pm an (.ref cc) ct), osl⟩) (hcd : PySem.W.codeIn K (.ref cc) "_best_behind" = true) (TB : LamX.TabB base mg cc PT) (B : Bl mg) : FnOk P w K mg base CX0 3 f (PySem.W.fnOf "_best_behind" "_best_behind" (defArgs s_best_behind) (defBody s_best_behind) (defScope s_best_behind) .none kV doc pm an (.ref cc) ct) ["steps", "best", "weights"] (sp_best_behind K PT) := by
  refine fn_okL lk hcd sc_best_behind (fun vs H Q E h => ?_) (fun A outer s H vs Q E hr h => ?_)
  · first
      | (obtain ⟨_, rfl, _⟩ := h; rfl)
      | (obtain ⟨_, _, rfl, _⟩ := h; rfl)
      | (obtain ⟨_, _, _, rfl, _⟩ := h; rfl)
      | (obtain ⟨_, _, _, _, rfl, _⟩ := h; rfl)
      | (obtain ⟨_, _, _, _, _, rfl, _⟩ := h; rfl)
      | (obtain ⟨_, _, _, _, _, _, rfl, _⟩ := h; rfl)
      | (obtain ⟨_, _, _, _, _, _, _, rfl, _⟩ := h; rfl)
      | (obtain ⟨_, _, _, _, _, _, _, _, rfl, _⟩ := h; rfl)
      | (obtain ⟨_, _, _, _, _, _, _, _, _, rfl, _⟩ := h; rfl)
      | (obtain ⟨_, _, _, _, _, _, _, _, _, _, rfl, _⟩ := h; rfl)
      | (obtain ⟨_, _, _, _, _, _, _, _, _, _, _, rfl, _⟩ := h; rfl)
      | (obtain ⟨_, _, _, _, _, _, _, _, _, _, _, _, rfl, _⟩ := h; rfl)
      | (obtain ⟨_, _, _, _, _, _, _, _, _, _, _, _, _, rfl, _⟩ := h; rfl)
      | (obtain ⟨_, _, _, _, _, _, _, _, _, _, _, _, _, _, rfl, _⟩ := h; rfl)
      | (obtain ⟨_, _, _, _, _, _, _, _, _, _, _, _, _, _, _, rfl, _⟩ := h; rfl)
      | (obtain ⟨_, _, _, _, _, _, _, _, _, _, _, _, _, _, _, _, rfl, _⟩ := h; rfl)
      | (obtain ⟨_, _, _, _, _, _, _, _, _, _, _, _, _, _, _, _, _, rfl, _⟩ := h; rfl)
  · obtain ⟨d, bp, wp, ps, ks, as, f, g, l, rfl, hd, hps2, hps, hpu, hB, hfl, hw, nbd, nwd, hT, q⟩ := h
    refine ⟨_, 
  (pss_cons (ps_set (i := 3) sc_best_behind.nd rfl (.inl rfl) (pe_lst (pa_cons (pe_tup (pa_cons pe_int (pa_cons pe_str pa_nil))) pa_nil))) 
  (pss_cons (ps_lock (ps_for PassesOwn.never rfl (pi_keys (pv 0)) (pg_name (i := 4) sc_best_behind.nd rfl (.inl rfl)) 
    (pss_cons (ps_asg (pe_dget (hu_of hr) (pv 1) (pe_dget (hu_of hr) (pv 0) (pv 4) (fun _ _ => rfl)) (fun _ _ => rfl)) (pg_tup rfl (pgs_cons (pg_name (i := 5) sc_best_behind.nd rfl (.inl rfl)) (pgs_cons (pg_name (i := 6) sc_best_behind.nd rfl (.inl rfl)) pgs_nil)))) 
    (pss_one (ps_expr (pe_bm PySem.F.plainAttrs_list PySem.F.slot_list_append PySem.F.type_list_append mt_append (pv 3) (pa_cons (pe_tup (pa_cons (pe_op op_add (pe_dget (hu_of hr) (pv 2) (pv 4) (fun _ _ => rfl)) (pv 5)) (pa_cons (pe_op op_add_str (pv 4) (pv 6)) pa_nil))) pa_nil))))))) 
  (pss_one (ps_ret (pe_callBK (cr_maxKey (q := qL) (params := lamPar) (body := lamBody) (scope := lamSc) rfl hr scLam_best_behind (fun _ _ _ _ => rfl) (fun _ _ _ _ _ _ _ => (pe_tup (pa_cons (pe_ix (show IxR _ (rIxT K) from ix_tup) (pv 0) pe_int (fun _ _ => rfl)) (pa_cons (pe_un un_neg (pe_callB call_len_str (by rfl) B.m_len PySem.boot_len (pa_cons (pe_ix (show IxR _ (rIxT K) from ix_tup) (pv 0) pe_int (fun _ _ => rfl)) pa_nil))) pa_nil)))) lamKey_best_behind) (by rfl) B.m_max (by decide +kernel) (pa_cons (pv 3) pa_nil) (pk_cons (pe_lamF TB rfl rfl rfl) pk_nil)))))), ?_⟩
    walk_at "vc"
    refine ⟨(show 2 ≤ sizeLine by decide), fun t0 ht0 => ?_⟩
    rw [show (Str.ofString "" : Str) = S [] from rfl]
    have sm1 : Same H (upd H t0 (.tup [.int 0, .str (S [])])) := same_upd ht0
    have ht1 : upd H t0 (.tup [.int 0, .str (S [])]) t0 = some (.tup [.int 0, .str (S [])]) := upd_same
    generalize upd H t0 (.tup [.int 0, .str (S [])]) = H1 at sm1 ht1
    walk_at "vc"
    refine ⟨(show 1 ≤ sizeLine by decide), fun cp hcp => ?_⟩
    have ncp : H cp = none := sm1.free hcp
    have sm2 : Same H (upd H1 cp (.lst [.ref t0])) := sm1.trans (same_upd hcp)
    have hcp2 : upd H1 cp (.lst [.ref t0]) cp = some (.lst [.ref t0]) := upd_same
    have ht2 : upd H1 cp (.lst [.ref t0]) t0 = _ := (upd_ne (ne_of_none ht1 hcp)).trans ht1
    generalize upd H1 cp (.lst [.ref t0]) = H2 at sm2 hcp2 ht2
    walk_at "vc"
    have hd2 := sm2 _ _ hd
    refine x_lock hd2 trivial fun od => ?_
    have ncd : cp ≠ d := ne_of hcp2 hd2 (fun z => nomatch z)
    have ntd : t0 ≠ d := ne_of ht2 hd2 (fun z => nomatch z)
    walk_at "vc"
    refine ⟨d, od, rfl, .inl ⟨stepKV ps, upd_same, ?_⟩⟩
    refine for_it (walk_keys (d := d) (o := od) (kvs := stepKV ps)) (fun i σ H' => ∃ (ts : List Addr) (y4 y5 y6 : Option V), σ = [some (.ref d), some (.ref bp), some (.ref wp), some (.ref cp), y4, y5, y6] ∧ (∀ b o, b ≠ d → H b = some o → H' b = some o) ∧ H' d = some (.frz od (.dK (stepKV ps))) ∧ H' cp = some (.lst (ts.map V.ref)) ∧ ts.length = i + 1 ∧ ∀ (j : Nat) t p, ts[j]? = some t → ((0, []) :: (ps.take i).map (cand g l f))[j]? = some p → MxIt H' t p)
      ⟨[t0], none, none, none, rfl, fun b o nb e => by rw [upd_ne nb]; exact sm2 b o e, upd_same, by rw [upd_ne ncd]; exact hcp2, rfl, fun j t p h1 h2 => ?_⟩ (fun i σ H' _ h => by obtain ⟨_, _, _, _, _, _, h, _⟩ := h; exact h) ?_ ?_
    · have hj : j = 0 := by
        have := (List.getElem?_eq_some_iff.mp h1).1
        simp at this
        omega
      subst hj
      cases h1
      cases h2
      exact ⟨by rw [upd_ne ntd]; exact ht2, by decide⟩
    · rintro i x σ H3 H3' hi ⟨ts, y4, y5, y6, rfl, kp3, hd3, hcp3, hlen3, hit3⟩ ⟨rfl, k, v, hkv, rfl⟩
      have hi' : i < ps.length := by unfold stepKV at hi; rw [List.length_map] at hi; exact hi
      obtain ⟨c, u, hp⟩ : ∃ c u, ps[i] = (c, u) := ⟨_, _, rfl⟩
      have hpi : ps[i]? = some (c, u) := by rw [List.getElem?_eq_getElem hi', hp]
      have hmem : (c, u) ∈ ps := List.mem_of_getElem? hpi
      have hk : k = Sum.inr (S [c]) := by
        unfold stepKV at hkv
        rw [List.getElem?_map, hpi] at hkv
        exact (congrArg Prod.fst (Option.some.inj hkv)).symm
      subst hk
      obtain ⟨hcc, huk⟩ := hps _ hmem
      have hgo : valV (stepKV ps) (Sum.inr (S [c])) = some (.str (S u)) := stepKV_in hmem fun p hp e => hpu p hp _ hmem e
      have hbp3 := kp3 _ _ nbd hB.at_
      have hwp3 := kp3 _ _ nwd hw
      obtain ⟨a, ha1, ha2⟩ := hB.get huk
      have ha3 : H3' a = some (.tup [.int (f u).1, .str (S (f u).2)]) := kp3 _ _ (ne_of ha2.1 hd (fun z => nomatch z)) ha2.1
      have hful := hfl u huk
      rw [show L2.kV (Sum.inr (S [c])) = V.str (S [c]) from rfl]
      walk_at "vc"
      refine x_getS (.inr ⟨od, hd3⟩) hgo ?_
      refine x_getS (.inl hbp3) ha1 ?_
      refine x_gTup (SqT.of ha3) rfl ?_
      walk_at "vc"
      refine ⟨.inl ⟨rfl, _, SqL.of hcp3⟩, ?_⟩
      walk_at "vc"
      refine x_getS (.inl hwp3) (wKV_get hcc) ?_
      walk_at "vc"
      refine ⟨S [c], S (f u).2, rfl, rfl, hp_sz (by rw [len_S, len_S]; show 1 + _ ≤ _; omega), ?_⟩
      rw [S_app]
      walk_at "vc"
      refine ⟨(show 2 ≤ sizeLine by decide), fun tn htn => ?_⟩
      have nts : tn ∉ ts := fun hm => by
        obtain ⟨j, hj⟩ := List.getElem?_of_mem hm
        have hjl := (List.getElem?_eq_some_iff.mp hj).1
        have := (hit3 j tn _ hj (List.getElem?_eq_getElem (by rw [List.length_cons, List.length_map, List.length_take]; omega))).1
        rw [htn] at this
        cases this
      have ntc : tn ≠ cp := fun z => by rw [z, hcp3] at htn; cases htn
      walk_at "vc"
      refine x_append (by rw [upd_ne ntc.symm]; exact hcp3) (by rw [List.length_map, hlen3]; exact Nat.lt_of_le_of_lt (by omega : _ ≤ 10) (by decide)) ?_
      refine ⟨ts ++ [tn], _, _, _, rfl, fun b o nb e => ?_, ?_, ?_, by rw [List.length_append, hlen3]; rfl, fun j t p h1 h2 => ?_⟩
      · rw [upd_ne (ne_of_none e ncp), upd_ne (fun z => by rw [← z, kp3 b o nb e] at htn; cases htn)]
        exact kp3 b o nb e
      · rw [upd_ne ncd.symm, upd_ne (fun z => by rw [← z, hd3] at htn; cases htn)]
        exact hd3
      · rw [upd_same, List.map_append]
        rfl
      · rw [List.take_succ_eq_append_getElem hi', List.map_append] at h2
        have hLl : ((0, []) :: (ps.take i).map (cand g l f) : List (Int × List Nat)).length = i + 1 := by rw [List.length_cons, List.length_map, List.length_take]; omega
        by_cases hj : j < i + 1
        · rw [List.getElem?_append_left (by rw [hlen3]; exact hj)] at h1
          rw [← List.cons_append, List.getElem?_append_left (by rw [hLl]; exact hj)] at h2
          have := hit3 j t p h1 h2
          refine ⟨?_, this.2⟩
          rw [upd_ne (ne_of this.1 hcp3 (fun z => nomatch z)), upd_ne (fun z => nts (by rw [← z]; exact List.mem_of_getElem? h1))]
          exact this.1
        · have hjl := (List.getElem?_eq_some_iff.mp h1).1
          rw [List.length_append, hlen3] at hjl
          have hji : j = i + 1 := by simp only [List.length_cons, List.length_nil] at hjl; omega
          subst hji
          rw [List.getElem?_append_right (by omega), hlen3, Nat.sub_self] at h1
          rw [← List.cons_append, List.getElem?_append_right (by omega), hLl, Nat.sub_self, hp] at h2
          cases h1
          cases h2
          refine ⟨?_, ?_⟩
          · rw [upd_ne ntc, upd_same]
            rfl
          · show (c :: (f u).2).length ≤ _
            rw [List.length_cons]
            omega
    · rintro σ H3 ⟨ts, y4, y5, y6, rfl, kp3, hd3, hcp3, hlen3, hit3⟩
      refine ⟨hd3, ?_⟩
      have hsl : (stepKV ps).length = ps.length := by unfold stepKV; rw [List.length_map]
      rw [hsl] at hlen3 hit3
      rw [List.take_length] at hit3
      have sm4 : Same H (upd H3 d (.dK (stepKV ps))) := fun b o e => by
        by_cases hb : b = d
        · rw [hb, hd] at e
          rw [hb, upd_same]
          exact e
        · rw [upd_ne hb]
          exact kp3 b o hb e
      have hcp4 : upd H3 d (.dK (stepKV ps)) cp = some (.lst (ts.map V.ref)) := by rw [upd_ne ncd]; exact hcp3
      have hit4 : ∀ (j : Nat) t p, ts[j]? = some t → ((0, []) :: ps.map (cand g l f))[j]? = some p → MxIt (upd H3 d (.dK (stepKV ps))) t p := fun j t p h1 h2 => by
        have := hit3 j t p h1 h2
        refine ⟨?_, this.2⟩
        rw [upd_ne (ne_of this.1 hd3 (fun z => nomatch z))]
        exact this.1
      generalize upd H3 d (.dK (stepKV ps)) = H4 at sm4 hcp4 hit4
      walk_at "vc"
      refine ⟨hT.ext sm4, fun lf c' H5 sm5 nlf hlf hc' => ?_⟩
      walk_at "vc"
      refine ⟨cp, lf, c', ts, (0, []), ps.map (cand g l f), rfl, rfl, SqL.of (sm5.lst hcp4), hlf, hc', by rw [List.length_map]; exact hlen3, fun j t p h1 h2 => ?_, fun j t H6 h1 h2 sm6 => ?_⟩
      · have := hit4 j t p h1 h2
        exact ⟨sm5.tup this.1, this.2⟩
      · have := hit4 j t _ h1 h2
        exact q t H6 ((SmT.of sm4).trans (sm5.trans (SmT.of sm6))) ⟨sm6 _ _ (sm5.tup this.1), this.2⟩


theorem stKV_take {ks : List (List Nat)} {as : List Addr} {i : Nat} {t : List Nat} {a : Addr} (hi : ks[i]? = some t) (hl : as.length = i) : stKV (ks.take (i + 1)) (as ++ [a]) = stKV (ks.take i) as ++ [(Sum.inr (S t), V.ref a)] := by
  obtain ⟨hlt, e⟩ := List.getElem?_eq_some_iff.mp hi
  rw [List.take_succ_eq_append_getElem hlt, stKV_snoc (by rw [List.length_take]; omega), e]
theorem take_notin {ks : List (List Nat)} (hn : ks.Nodup) {i : Nat} {t : List Nat} (hi : ks[i]? = some t) : t ∉ ks.take i := fun h => by
  obtain ⟨j, hj⟩ := List.getElem?_of_mem h
  have hjl := (List.getElem?_eq_some_iff.mp hj).1
  rw [List.length_take] at hjl
  rw [List.getElem?_take, if_pos (by omega)] at hj
  have hil := (List.getElem?_eq_some_iff.mp hi).1
  have := (List.getElem?_inj (by omega) hn).mp (hj.trans hi.symm)
  omega
theorem key_at {ks : List (List Nat)} {ds : List Addr} {i : Nat} {k : Key} {v : V} (hl : ds.length = ks.length) (h : (stKV ks ds)[i]? = some (k, v)) : ∃ t d, ks[i]? = some t ∧ ds[i]? = some d ∧ k = Sum.inr (S t) := by
  have hi := (List.getElem?_eq_some_iff.mp h).1
  rw [stKV_len hl] at hi
  have h1 : ks[i]? = some ks[i] := List.getElem?_eq_getElem hi
  have h2 : ds[i]? = some (ds[i]'(by omega)) := List.getElem?_eq_getElem (by omega)
  have := stKV_get h1 h2
  rw [h] at this
  exact ⟨_, _, h1, h2, congrArg Prod.fst (Option.some.inj this)⟩
theorem w_ne {l : List (Nat × List Nat)} {g ll : Int} (h : stepKV l = wKV g ll) : False := by
  cases l with
  | nil => cases h
  | cons p l =>
    have h1 := congrArg Prod.snd (List.cons.inj h).1
    cases h1
theorem st_ne_w {ks : List (List Nat)} {ds : List Addr} {g l : Int} {i : Nat} {t : List Nat} {d : Addr} (h1 : ks[i]? = some t) (h2 : ds[i]? = some d) (h : stKV ks ds = wKV g l) : False := by
  have e := stKV_get h1 h2
  rw [h] at e
  cases i with
  | zero => cases congrArg Prod.snd (Option.some.inj e)
  | succ i =>
    cases i with
    | zero => cases congrArg Prod.snd (Option.some.inj e)
    | succ i => cases e
theorem bs_ne_st {H : Hp} {bp sa : Addr} {ks : List (List Nat)} {as ds : List Addr} {f : List Nat → Int × List Nat} {sds : List (List Nat)} {k : Nat} (hB : BsAt H bp ks f as) (hS : StAt H sa sds k ks ds) (hs : H sa = some (.dK (stKV ks ds))) (h0 : [] ∈ ks) : bp ≠ sa := fun e => by
  have h := hB.at_
  rw [e, hs] at h
  have h1 : stKV ks ds = stKV ks as := HO.dK.inj (Option.some.inj h)
  obtain ⟨i, d, hi, hd, _⟩ := stKV_in hS.len h0
  have hil := (List.getElem?_eq_some_iff.mp hi).1
  have ha : as[i]? = some (as[i]'(by rw [hB.len]; exact hil)) := List.getElem?_eq_getElem _
  have e1 := stKV_get hi hd
  have e2 := stKV_get hi ha
  rw [h1, e2] at e1
  have e3 : V.ref _ = V.ref d := congrArg Prod.snd (Option.some.inj e1)
  have e4 := V.ref.inj e3
  rw [e4] at ha
  have h2 := (hB.each i _ _ hi ha).1
  rw [hS.each i _ _ hi hd] at h2
  cases h2
def isD (p : Int × List Nat) : PyData := .tuple [.int p.1, .str (S p.2)]
theorem isD_eqv (p q : Int × List Nat) : PyData.eqv (isD p) (isD q) = decide (p = q) := by
  unfold isD
  simp only [PyData.eqv, PyData.eqvAll, Bool.and_true]
  rw [Bool.eq_iff_iff]
  simp only [Bool.and_eq_true, decide_eq_true_eq, beq_iff_eq]
  constructor
  · rintro ⟨h1, h2⟩
    exact Prod.ext h1 (S_inj h2)
  · intro h
    rw [h]
    exact ⟨rfl, rfl⟩
theorem isD_shaped {p : Int × List Nat} (h : Lk p.2) : SeqAt.shaped (isD p) = true := by
  have h2 := strOk_S h.cd
  unfold SeqAt.shaped isD
  rw [Bool.and_eq_true]
  refine ⟨?_, decide_eq_true ?_⟩
  · simp only [PyData.canLayAll0, PyData.canLay0, Bool.and_eq_true, Bool.true_and]
    exact ⟨h2, trivial⟩
  · simp only [PyData.depth, PyData.depthAll]
    omega
theorem isD_ne {K : PySem.W.Frag} {H : Hp} {a b : Addr} {p q : Int × List Nat} (hp : Lk p.2) (hq : Lk q.2) (ha : MxIt H a p) (hb : MxIt H b q) {Q : VK} (h : Q (.bl (decide (p ≠ q))) H) : rNeD K (.ref a) (.ref b) H Q :=
  ⟨isD p, isD q, .tup (SqT.of ha.1) (.cons (.int _) (.cons (.str _) .nil)), .tup (SqT.of hb.1) (.cons (.int _) (.cons (.str _) .nil)), isD_shaped hp, isD_shaped hq, by
    rw [isD_eqv]
    have e : (!decide (p = q)) = decide (p ≠ q) := by simp
    rw [e]
    exact h⟩
theorem optS_bound {sds : List (List Nat)} {k : Nat} {g l : Int} (r : Nat) (t : List Nat) : (optS sds k g l r t).2.length ≤ r := (optS_is r t).len
theorem okbar {f : Addr} {fd : FuncData} {PT : Addr} {uFEWEST_LETTERS uMOST_LETTERS uALPHABET uLONGEST_ROW uLEAST_WEIGHT uMOST_WEIGHT uLIKE uUNLIKE uSHORTEST_SEED uLONGEST_SEED uPICK uGAP uFEWEST_SEEDS uMOST_SEEDS uBAR uENDLESS uLOW uREACHES uUNSEEDED : Value} {f_steps : Addr} {fd_steps : FuncData} {fworth_of : Addr} {fdworth_of : FuncData} {f_ring : Addr} {fd_ring : FuncData} {f_best_behind : Addr} {fd_best_behind : FuncData} (F : Fun K "bar" "bar" sbar f fd) (B : Bl mg) (C : Cs mg uFEWEST_LETTERS uMOST_LETTERS uALPHABET uLONGEST_ROW uLEAST_WEIGHT uMOST_WEIGHT uLIKE uUNLIKE uSHORTEST_SEED uLONGEST_SEED uPICK uGAP uFEWEST_SEEDS uMOST_SEEDS uBAR uENDLESS uLOW uREACHES uUNSEEDED) (D_steps : Dn P w K mg base "_steps" 4 ["seeds"] (sp_steps K) f_steps fd_steps) (Dworth_of : Dn P w K mg base "worth_of" 1 ["likes", "scale"] (spworth_of K) fworth_of fdworth_of) (D_ring : Dn P w K mg base "_ring" 1 ["steps", "tail", "likes"] (sp_ring K) f_ring fd_ring) (D_best_behind : Dn P w K mg base "_best_behind" 3 ["steps", "best", "weights"] (sp_best_behind K PT) f_best_behind fd_best_behind) : FnOk P w K mg base CX0 5 f fd ["seeds", "scale"] (spbar K PT) := by
  refine F.ok scbar (fun vs H Q E h => ?_) (fun cdv A outer s H vs Q E hr h => ?_)
  · first
      | (obtain ⟨_, rfl, _⟩ := h; rfl)
      | (obtain ⟨_, _, rfl, _⟩ := h; rfl)
      | (obtain ⟨_, _, _, rfl, _⟩ := h; rfl)
      | (obtain ⟨_, _, _, _, rfl, _⟩ := h; rfl)
      | (obtain ⟨_, _, _, _, _, rfl, _⟩ := h; rfl)
      | (obtain ⟨_, _, _, _, _, _, rfl, _⟩ := h; rfl)
      | (obtain ⟨_, _, _, _, _, _, _, rfl, _⟩ := h; rfl)
      | (obtain ⟨_, _, _, _, _, _, _, _, rfl, _⟩ := h; rfl)
      | (obtain ⟨_, _, _, _, _, _, _, _, _, rfl, _⟩ := h; rfl)
      | (obtain ⟨_, _, _, _, _, _, _, _, _, _, rfl, _⟩ := h; rfl)
      | (obtain ⟨_, _, _, _, _, _, _, _, _, _, _, rfl, _⟩ := h; rfl)
      | (obtain ⟨_, _, _, _, _, _, _, _, _, _, _, _, rfl, _⟩ := h; rfl)
      | (obtain ⟨_, _, _, _, _, _, _, _, _, _, _, _, _, rfl, _⟩ := h; rfl)
      | (obtain ⟨_, _, _, _, _, _, _, _, _, _, _, _, _, _, rfl, _⟩ := h; rfl)
      | (obtain ⟨_, _, _, _, _, _, _, _, _, _, _, _, _, _, _, rfl, _⟩ := h; rfl)
      | (obtain ⟨_, _, _, _, _, _, _, _, _, _, _, _, _, _, _, _, rfl, _⟩ := h; rfl)
      | (obtain ⟨_, _, _, _, _, _, _, _, _, _, _, _, _, _, _, _, _, rfl, _⟩ := h; rfl)
  · obtain ⟨sp, ps, sds, g, l, rfl, hsp, hps, hsd, l1, l3, hg1, hg2, hl1, hl2, hT, q⟩ := h
    have hk7 := kM_le hsd
    have hKI : KeysI sds (kM sds) (keys sds (kM sds)) := keys_is hk7
    have hok : BarOk sds g l (barM sds g l) := barM_ok hsd
    refine ⟨_, 
  (pss_cons (ps_set (i := 2) scbar.nd rfl (.inr rfl) (pe_call D_steps.ok hr (by rfl) D_steps.g D_steps.kp D_steps.b .nil pass0 (pa_cons (pv 0) pa_nil))) 
  (pss_cons (ps_set (i := 3) scbar.nd rfl (.inr rfl) (pe_dc (own := [("pair", 10)]) (g := gName 10) (tt := tYes) rfl scbar.nd (pi_tup (pe_tup (pa_cons (pe_glob rfl C.c_LIKE.2 C.c_LIKE.1) (pa_cons (pe_glob rfl C.c_UNLIKE.2 C.c_UNLIKE.1) pa_nil)))) (blkOk_by (N := nbar) (sc := defScope sbar) (by decide +kernel)) (fun _ _ _ _ _ => (pg_name (i := 10) scbar.nd rfl (.inl rfl))) (fun _ _ _ _ _ => pts_nil) (fun _ _ _ _ _ => (pv 10)) (fun _ _ _ _ _ => (pe_call Dworth_of.ok (hr.mono (by decide)) (by rfl) Dworth_of.g Dworth_of.kp Dworth_of.b .nil pass0 (pa_cons (pv 10) (pa_cons (pv 1) pa_nil)))))) 
  (pss_cons (ps_lock (ps_set (i := 4) scbar.nd rfl (.inr rfl) (pe_dc (own := [("tail", 11)]) (g := gName 11) (tt := tYes) rfl scbar.nd (pi_keys (pv 2)) (blkOk_by (N := nbar) (sc := defScope sbar) (by decide +kernel)) (fun _ _ _ _ _ => (pg_name (i := 11) scbar.nd rfl (.inl rfl))) (fun _ _ _ _ _ => pts_nil) (fun _ _ _ _ _ => (pv 11)) (fun _ _ _ _ _ => (pe_tup (pa_cons pe_int (pa_cons pe_str pa_nil))))))) 
  (pss_one (ps_while PassesOwn.never (pt_val pe_bl) 
    (pss_cons (ps_lock (ps_set (i := 5) scbar.nd rfl (.inr rfl) (pe_dc (own := [("tail", 11)]) (g := gName 11) (tt := tYes) rfl scbar.nd (pi_keys (pv 2)) (blkOk_by (N := nbar) (sc := defScope sbar) (by decide +kernel)) (fun _ _ _ _ _ => (pg_name (i := 11) scbar.nd rfl (.inl rfl))) (fun _ _ _ _ _ => pts_nil) (fun _ _ _ _ _ => (pv 11)) (fun _ _ _ _ _ => (pe_call D_best_behind.ok (hr.mono (by decide)) (by rfl) D_best_behind.g D_best_behind.kp D_best_behind.b .nil pass0 (pa_cons (pe_dget (hu_of hr) (pv 2) (pv 11) (fun _ _ => rfl)) (pa_cons (pv 4) (pa_cons (pv 3) pa_nil)))))))) 
    (pss_cons (ps_lock (ps_setLc (i := 6) (own := [("tail", 11)]) (g := gName 11) rfl scbar.nd rfl rfl (sw_true rfl rfl rfl (by decide +kernel)) (pi_keys (pv 2)) (blkOk_by (N := nbar) (sc := defScope sbar) (by decide +kernel)) (fun _ _ _ _ _ => (pg_name (i := 11) scbar.nd rfl (.inl rfl))) (fun _ _ _ _ _ => pts_one (pt_cmpR (show OpR _ (compareOp .NotEq) (rNeD K) from op_neD hr.units) (pe_dget (hu_of hr) (pv 5) (pv 11) (fun _ _ => rfl)) (pe_dget (hu_of hr) (pv 4) (pv 11) (fun _ _ => rfl)) (nomark _))) (fun _ _ _ _ _ => (pv 11)))) 
    (pss_cons (ps_if (pt_not (pt_truth (pv 6) (by intro _; rfl))) 
      (pss_cons (ps_asg (pe_dget (hu_of hr) (pv 4) pe_str (fun _ _ => rfl)) (pg_tup rfl (pgs_cons (pg_name (i := 7) scbar.nd rfl (.inl rfl)) (pgs_cons (pg_name (i := 8) scbar.nd rfl (.inl rfl)) pgs_nil)))) 
      (pss_one (ps_ret (pe_tup (pa_cons (pe_glob rfl C.c_BAR.2 C.c_BAR.1) (pa_cons (pv 7) (pa_cons (pv 8) pa_nil))))))) pss_nil) 
    (pss_cons (ps_set (i := 9) scbar.nd rfl (.inl rfl) (pe_call D_ring.ok (hr.mono (by decide)) (by rfl) D_ring.g D_ring.kp D_ring.b .nil pass0 (pa_cons (pv 2) (pa_cons (pe_ix ix_list (pv 6) pe_int (fun _ _ => rfl)) (pa_cons (pe_ix ix_tup (pe_dget (hu_of hr) (pv 5) (pe_ix ix_list (pv 6) pe_int (fun _ _ => rfl)) (fun _ _ => rfl)) pe_int (fun _ _ => rfl)) pa_nil))))) 
    (pss_cons (ps_if (pt_truth (pv 9) (by intro _; rfl)) 
      (pss_one (ps_ret (pe_tup (pa_cons (pe_glob rfl C.c_ENDLESS.2 C.c_ENDLESS.1) (pa_cons pe_str (pa_cons (pv 9) pa_nil)))))) pss_nil) 
    (pss_one (ps_set (i := 4) scbar.nd rfl (.inr rfl) (pv 5))))))))))))), ?_⟩
    walk_at "vc"
    refine ⟨sp, sds, rfl, hsp, hsd, l1, l3, fun sa ds H1 sm1 nsa hsa1 hSt1 => ?_⟩
    have hbar : barGo sds (kM sds) g l (keys sds (kM sds)) 300 0 = barM sds g l := rfl
    generalize keys sds (kM sds) = ks at hKI hsa1 hSt1 hbar
    have hk255 := hKI.len
    walk_at "vc"
    refine ⟨(show 2 ≤ sizeLine by decide), fun tp htp => ?_⟩
    have sm2 := sm1.trans (same_upd (o := .tup [.str (Str.ofString "="), .str (Str.ofString "/")]) htp)
    have hsa2 : upd H1 tp (.tup [.str (Str.ofString "="), .str (Str.ofString "/")]) sa = _ := (upd_ne (ne_of_none hsa1 htp)).trans hsa1
    have hSt2 := hSt1.same (same_upd (o := .tup [.str (Str.ofString "="), .str (Str.ofString "/")]) htp)
    have htp2 : upd H1 tp (.tup [.str (Str.ofString "="), .str (Str.ofString "/")]) tp = some (.tup [.str (S [61]), .str (S [47])]) := upd_same
    generalize upd H1 tp (.tup [.str (Str.ofString "="), .str (Str.ofString "/")]) = H2 at sm2 hsa2 hSt2 htp2
    refine ⟨tp, rfl, ⟨_, SqT.of htp2⟩, ?_⟩
    intro wp hwp
    have nwp : H wp = none := sm2.free hwp
    refine dc_it (walk_tup (xs := [.str (S [61]), .str (S [47])])) (fun i H' => Same H2 H' ∧ H' wp = some (.dK ((wKV g l).take i))) ⟨same_upd hwp, upd_same⟩ (fun i H' _ h => SqT.of (h.1 _ _ htp2)) ?_ ?_
    · rintro i x H3 H3' hi ⟨sm3, hwp3⟩ ⟨rfl, hx⟩
      have hi2 : i < 2 := hi
      obtain ⟨c, ec, ex⟩ : ∃ c : Nat, (c = if i = 0 then 61 else 47) ∧ x = .str (S [c]) := by
        have : i = 0 ∨ i = 1 := by omega
        rcases this with e | e
        · subst e; exact ⟨61, rfl, (Option.some.inj hx).symm⟩
        · subst e; exact ⟨47, rfl, (Option.some.inj hx).symm⟩
      subst ex
      have hcc : c = 61 ∨ c = 47 := by rw [ec]; split <;> simp
      walk_at "vc"
      refine ⟨rfl, ?_⟩
      walk_at "vc"
      refine ⟨[c], ps, g, l, rfl, SqT_same (sm2.trans sm3) hps, fun d hd => by rw [List.mem_singleton.mp hd]; exact hcc, by omega, by omega, by omega, by omega, ?_⟩
      refine ⟨_, Sum.inr (S [c]), rfl, hwp3, by rw [List.length_take]; exact Nat.lt_of_le_of_lt (by omega : _ ≤ 2) (by decide), sm3.putN hwp, ?_⟩
      rw [upd_same]
      have : i = 0 ∨ i = 1 := by omega
      rcases this with e | e
      · subst e
        subst ec
        show some (HO.dK (putK [] (Sum.inr (S [61])) (V.int (wor g l [61])))) = _
        rw [putK_new _ rfl]
        show some (HO.dK [(Sum.inr (S [61]), V.int (g + 0))]) = _
        rw [Int.add_zero]
        rfl
      · subst e
        subst ec
        show some (HO.dK (putK [(Sum.inr (S [61]), V.int g)] (Sum.inr (S [47])) (V.int (wor g l [47])))) = _
        rw [putK_new _ (by rw [valV_neg (fun q => by have := (List.cons.inj (inr_S q)).1; omega)]; rfl)]
        show some (HO.dK [(Sum.inr (S [61]), V.int g), (Sum.inr (S [47]), V.int (-l + 0))]) = _
        rw [Int.add_zero]
        rfl
    · rintro H3 ⟨sm3, hwp3⟩
      have hwp3 : H3 wp = some (.dK (wKV g l)) := hwp3
      have sm3' := sm2.trans sm3
      have hsa3 := sm3 _ _ hsa2
      have hSt3 := hSt2.same sm3
      clear hsa2 hSt2 hsa1 hSt1 htp2 hwp sm3 sm2
      walk_at "vc"
      -- best
      refine x_lock hsa3 trivial fun od => ?_
      walk_at "vc"
      refine ⟨sa, od, rfl, .inl ⟨stKV ks ds, upd_same, ?_⟩⟩
      intro bp hbp
      have nbs : bp ≠ sa := fun z => by rw [z, upd_same] at hbp; cases hbp
      have nbp3 : H3 bp = none := by rw [upd_ne nbs] at hbp; exact hbp
      have nbp : H bp = none := sm3'.free nbp3
      refine dc_it (walk_keys (d := sa) (o := od) (kvs := stKV ks ds)) (fun i H' => ∃ as : List Addr, (∀ b o, b ≠ sa → H3 b = some o → H' b = some o) ∧ H' sa = some (.frz od (.dK (stKV ks ds))) ∧ as.length = i ∧ H' bp = some (.dK (stKV (ks.take i) as)) ∧ ∀ a ∈ as, MxIt H' a (0, []))
        ⟨[], fun b o nb e => by rw [upd_ne (ne_of_none e nbp3), upd_ne nb]; exact e, by rw [upd_ne nbs.symm, upd_same], rfl, upd_same, fun a h => by simp at h⟩ (fun i H' _ h => by obtain ⟨_, _, h, _⟩ := h; exact h) ?_ ?_
      · rintro i x H4 H4' hi ⟨as, kp4, hsa4, hal, hbp4, hit4⟩ ⟨rfl, k, v, hkv, rfl⟩
        obtain ⟨t, d, ht, hd, rfl⟩ := key_at hSt3.len hkv
        have hil := (List.getElem?_eq_some_iff.mp ht).1
        rw [show L2.kV (Sum.inr (S t)) = V.str (S t) from rfl]
        walk_at "vc"
        refine ⟨rfl, ?_⟩
        walk_at "vc"
        refine ⟨(show 2 ≤ sizeLine by decide), fun tn htn => ?_⟩
        have ntb : tn ≠ bp := fun z => by rw [z, hbp4] at htn; cases htn
        have nts : tn ≠ sa := fun z => by rw [z, hsa4] at htn; cases htn
        refine ⟨_, Sum.inr (S t), rfl, by rw [upd_ne ntb.symm]; exact hbp4, by rw [stKV_len (by rw [hal, List.length_take]; omega), List.length_take]; exact Nat.lt_of_le_of_lt (by omega : _ ≤ 1000) (by decide), as ++ [tn], fun b o nb e => ?_, ?_, by rw [List.length_append, hal]; rfl, ?_, fun a ha => ?_⟩
        · rw [upd_ne (ne_of_none e nbp3), upd_ne (ne_of_none (kp4 b o nb e) htn)]
          exact kp4 b o nb e
        · rw [upd_ne nbs.symm, upd_ne nts.symm]
          exact hsa4
        · rw [upd_same, putK_new _ (stKV_out (take_notin hKI.nodup ht)), stKV_take ht hal]
        · rcases List.mem_append.mp ha with z | z
          · have := hit4 a z
            refine ⟨?_, this.2⟩
            rw [upd_ne (ne_of this.1 hbp4 (fun z => nomatch z)), upd_ne (ne_of_none this.1 htn)]
            exact this.1
          · rw [List.mem_singleton.mp z]
            refine ⟨?_, by decide⟩
            rw [upd_ne ntb, upd_same]
            rfl
      · rintro H4 ⟨as, kp4, hsa4, hal, hbp4, hit4⟩
        rw [stKV_len hSt3.len] at hal hbp4
        rw [List.take_length] at hbp4
        walk_at "vc"
        refine ⟨hsa4, ?_⟩
        have sm5 : Same H3 (upd H4 sa (.dK (stKV ks ds))) := fun b o e => by
          by_cases hb : b = sa
          · rw [hb, hsa3] at e
            rw [hb, upd_same]
            exact e
          · rw [upd_ne hb]
            exact kp4 b o hb e
        have hBs5 : BsAt (upd H4 sa (.dK (stKV ks ds))) bp ks (optS sds (kM sds) g l 0) as := ⟨hal, by rw [upd_ne nbs]; exact hbp4, fun i t a _ ha => by
          have := hit4 a (List.mem_of_getElem? ha)
          refine ⟨?_, this.2⟩
          rw [upd_ne (ne_of this.1 hsa4 (fun z => nomatch z))]
          exact this.1⟩
        have hT5 := hT.ext (sm3'.trans sm5)
        have smT5 : SmT PT qL H (upd H4 sa (.dK (stKV ks ds))) := SmT.of (sm3'.trans sm5)
        have hwp5 := sm5 _ _ hwp3
        have hsa5 : upd H4 sa (.dK (stKV ks ds)) sa = some (.dK (stKV ks ds)) := upd_same
        have hSt5 := hSt3.same sm5
        generalize upd H4 sa (.dK (stKV ks ds)) = H5 at hBs5 hT5 smT5 hwp5 hsa5 hSt5
        clear kp4 hsa4 hal hbp4 hit4 sm5 hSt3 hsa3 hwp3 sm3'
        walk_at "vc"
        refine ⟨fun m σ H' => ∃ (r : Nat) (bp : Addr) (as : List Addr) (y5 y6 y7 y8 y9 y10 y11 : Option V), σ = [some (.ref sp), some (.ref ps), some (.ref sa), some (.ref wp), some (.ref bp), y5, y6, y7, y8, y9, y10, y11] ∧ SmT PT qL H H' ∧ H' sa = some (.dK (stKV ks ds)) ∧ StAt H' sa sds (kM sds) ks ds ∧ H' wp = some (.dK (wKV g l)) ∧ BsAt H' bp ks (optS sds (kM sds) g l r) as ∧ barGo sds (kM sds) g l ks m r = barM sds g l ∧ m + r = 300 ∧ r ≤ 256,
          ⟨300, 0, bp, as, _, _, _, _, _, _, _, rfl, smT5, hsa5, hSt5, hwp5, hBs5, hbar, rfl, by decide⟩, ?_⟩
        clear hBs5 hT5 smT5 hwp5 hsa5 hSt5 hbar nbp nbp3 hbp nbs
        rintro m σ H6 ⟨r, bp, as, y5, y6, y7, y8, y9, y10, y11, rfl, sm6, hsa6, hSt6, hwp6, hB6, hgo, hmr, hr256⟩
        obtain ⟨m, rfl⟩ : ∃ m', m = m' + 1 := ⟨m - 1, by omega⟩
        have lkO : ∀ n t, Lk (optS sds (kM sds) g l n t).2 := fun n t => (optS_is n t).lk
        have nbs : bp ≠ sa := bs_ne_st hB6 hSt6 hsa6 hKI.root
        obtain ⟨i0, d0, hi0, hd0, _⟩ := stKV_in hSt6.len hKI.root
        have nws : wp ≠ sa := fun e => by
          rw [e, hsa6] at hwp6
          exact st_ne_w hi0 hd0 (HO.dK.inj (Option.some.inj hwp6))
        have hT6 := sm6.t hT
        walk_at "vc"
        refine ⟨fun σ' H' => ∃ (bp : Addr) (as : List Addr) (y5 y6 y7 y8 y9 y10 y11 : Option V), σ' = [some (.ref sp), some (.ref ps), some (.ref sa), some (.ref wp), some (.ref bp), y5, y6, y7, y8, y9, y10, y11] ∧ SmT PT qL H H' ∧ H' sa = some (.dK (stKV ks ds)) ∧ StAt H' sa sds (kM sds) ks ds ∧ H' wp = some (.dK (wKV g l)) ∧ BsAt H' bp ks (optS sds (kM sds) g l (r + 1)) as ∧ barGo sds (kM sds) g l ks m (r + 1) = barM sds g l ∧ r + 1 ≤ 256, fun σ' H' h => ?_, ?_⟩
        · obtain ⟨bp, as, z5, z6, z7, z8, z9, z10, z11, e, h1, h2, h3, h4, h5, h6, h7⟩ := h
          exact ⟨m, Nat.lt_succ_self m, r + 1, bp, as, z5, z6, z7, z8, z9, z10, z11, e, h1, h2, h3, h4, h5, h6, by omega, h7⟩
        walk_at "vc"
        refine x_lock hsa6 trivial fun od2 => ?_
        walk_at "vc"
        refine ⟨sa, od2, rfl, .inl ⟨stKV ks ds, upd_same, ?_⟩⟩
        intro lp hlp
        have nls : lp ≠ sa := fun z => by rw [z, upd_same] at hlp; cases hlp
        have nlp6 : H6 lp = none := by rw [upd_ne nls] at hlp; exact hlp
        refine dc_it (walk_keys (d := sa) (o := od2) (kvs := stKV ks ds)) (fun i H' => ∃ as' : List Addr, SmT PT qL (upd H6 sa (.frz od2 (.dK (stKV ks ds)))) H' ∧ as'.length = i ∧ H' lp = some (.dK (stKV (ks.take i) as')) ∧ ∀ (j : Nat) t a, ks[j]? = some t → as'[j]? = some a → MxIt H' a (optS sds (kM sds) g l (r + 1) t))
          ⟨[], SmT.new hlp, rfl, upd_same, fun j t a _ h => by simp at h⟩ (fun i H' _ h => by obtain ⟨_, h, _⟩ := h; exact h.frz upd_same) ?_ ?_
        · rintro i x H7 H7' hi ⟨as', sm7, hal, hlp7, hit7⟩ ⟨rfl, k, v, hkv, rfl⟩
          obtain ⟨t, d, ht, hd, rfl⟩ := key_at hSt6.len hkv
          have hil := (List.getElem?_eq_some_iff.mp ht).1
          have htk : t ∈ ks := List.mem_of_getElem? ht
          obtain ⟨d, hdv, hd6⟩ := hSt6.get htk
          have nds : d ≠ sa := fun e => by
            rw [e, hsa6] at hd6
            exact step_ne hi0 hd0 (HO.dK.inj (Option.some.inj hd6)).symm
          have nbd : bp ≠ d := fun e => by
            have h := hB6.at_
            rw [e, hd6] at h
            have hb0 : as[i0]? = some (as[i0]'(by rw [hB6.len]; exact (List.getElem?_eq_some_iff.mp hi0).1)) := List.getElem?_eq_getElem _
            exact step_ne hi0 hb0 (HO.dK.inj (Option.some.inj h))
          have nwd : wp ≠ d := fun e => by
            rw [e, hd6] at hwp6
            exact w_ne (HO.dK.inj (Option.some.inj hwp6))
          have hB7 : BsAt H7' bp ks (optS sds (kM sds) g l r) as := ⟨hB6.len, sm7.dK (by rw [upd_ne nbs]; exact hB6.at_), fun j u a h1 h2 => by
            have := hB6.each j u a h1 h2
            exact ⟨sm7.tup (by rw [upd_ne (ne_of this.1 hsa6 (fun z => nomatch z))]; exact this.1), this.2⟩⟩
          have hsa7 : H7' sa = some (.frz od2 (.dK (stKV ks ds))) := sm7.frz upd_same
          rw [show L2.kV (Sum.inr (S t)) = V.str (S t) from rfl]
          walk_at "vc"
          refine ⟨rfl, ?_⟩
          walk_at "vc"
          refine x_getS (.inr ⟨od2, hsa7⟩) hdv ?_
          walk_at "vc"
          refine ⟨d, bp, wp, stps sds (kM sds) t, ks, as, optS sds (kM sds) g l r, g, l, rfl, sm7.dK (by rw [upd_ne nds]; exact hd6), ?_, fun p hp => ?_, fun p hp p' hp' e => ?_, hB7, fun u _ => Nat.le_trans (optS_bound r u) (by omega), sm7.dK (by rw [upd_ne nws]; exact hwp6), nbd, nwd, sm7.t (tabS_upd hT6 (fun _ z => by rw [hsa6] at z; cases z) fun _ z => by rw [hsa6] at z; cases z), fun p H8 sm8 hm8 => ?_⟩
          · have := goals_len sds (kM sds) t
            unfold goals at this
            rw [List.length_map] at this
            exact this
          · obtain ⟨h1, h2, h3⟩ := mem_stps.mp hp
            exact ⟨h1, hKI.closed t htk _ (by unfold goals; exact List.mem_map.mpr ⟨p, hp, rfl⟩)⟩
          · rw [(mem_stps.mp hp).2.2, (mem_stps.mp hp').2.2, e]
          · have hlp8 := sm8.dK hlp7
            have nas : ∀ a ∈ as' ++ [p], a ≠ lp := fun a ha z => by
              rcases List.mem_append.mp ha with y | y
              · obtain ⟨j, hj⟩ := List.getElem?_of_mem y
                have hjl := (List.getElem?_eq_some_iff.mp hj).1
                have := sm8.tup (hit7 j _ a (List.getElem?_eq_getElem (by omega)) hj).1
                rw [z, hlp8] at this
                cases this
              · rw [List.mem_singleton.mp y] at z
                have := hm8.1
                rw [z, hlp8] at this
                cases this
            refine ⟨_, Sum.inr (S t), rfl, hlp8, by rw [stKV_len (by rw [hal, List.length_take]; omega), List.length_take]; exact Nat.lt_of_le_of_lt (by omega : _ ≤ 1000) (by decide), as' ++ [p], (sm7.trans sm8).putD hlp hlp8, by rw [List.length_append, hal]; rfl, ?_, fun j u a hj ha => ?_⟩
            · rw [upd_same, putK_new _ (stKV_out (take_notin hKI.nodup ht)), stKV_take ht hal]
            · have na := nas a (List.mem_of_getElem? ha)
              by_cases hji : j < as'.length
              · rw [List.getElem?_append_left hji] at ha
                have := hit7 j u a hj ha
                exact ⟨by rw [upd_ne na]; exact sm8.tup this.1, this.2⟩
              · have hjl := (List.getElem?_eq_some_iff.mp ha).1
                rw [List.length_append] at hjl
                have e : j = as'.length := by simp only [List.length_cons, List.length_nil] at hjl; omega
                subst e
                rw [List.getElem?_append_right (Nat.le_refl _), Nat.sub_self] at ha
                cases ha
                rw [hal, ht] at hj
                cases hj
                exact ⟨by rw [upd_ne na]; exact hm8.1, hm8.2⟩
        · rintro H7 ⟨as', sm7, hal, hlp7, hit7⟩
          rw [stKV_len hSt6.len] at hal hlp7
          rw [List.take_length] at hlp7
          walk_at "vc"
          have hsa7 : H7 sa = some (.frz od2 (.dK (stKV ks ds))) := sm7.frz upd_same
          refine ⟨hsa7, ?_⟩
          have sm8 := SmT.lock hsa6 sm7
          have hsa8 : upd H7 sa (.dK (stKV ks ds)) sa = some (.dK (stKV ks ds)) := upd_same
          have hL8 : BsAt (upd H7 sa (.dK (stKV ks ds))) lp ks (optS sds (kM sds) g l (r + 1)) as' := ⟨hal, by rw [upd_ne nls]; exact hlp7, fun j u a h1 h2 => by
            have := hit7 j u a h1 h2
            exact ⟨by rw [upd_ne (ne_of this.1 hsa7 (fun z => nomatch z))]; exact this.1, this.2⟩⟩
          have hB8 := hB6.smT sm8
          have hSt8 := hSt6.smT sm8
          have hwp8 := sm8.dK hwp6
          have smA := sm6.trans sm8
          generalize upd H7 sa (.dK (stKV ks ds)) = H8 at sm8 hsa8 hL8 hB8 hSt8 hwp8 smA
          clear hlp hlp7 hit7 hsa7 sm7 hal nlp6 sm6 hT6 hsa6 hSt6 hwp6 hB6
          walk_at "vc"
          -- bettered
          refine x_lock hsa8 trivial fun od3 => ?_
          have nbs8 : bp ≠ sa := nbs
          walk_at "vc"
          refine ⟨sa, od3, rfl, .inl ⟨stKV ks ds, upd_same, ?_⟩⟩
          intro ep hep
          have nes : ep ≠ sa := fun z => by rw [z, upd_same] at hep; cases hep
          have nep8 : H8 ep = none := by rw [upd_ne nes] at hep; exact hep
          refine lc_it (walk_keys (d := sa) (o := od3) (kvs := stKV ks ds)) (fun i H' => Same (upd H8 sa (.frz od3 (.dK (stKV ks ds)))) H' ∧ H' ep = some (.lst (((ks.take i).filter fun t => decide (optS sds (kM sds) g l (r + 1) t ≠ optS sds (kM sds) g l r t)).map strV))) ⟨same_upd hep, upd_same⟩ (fun i H' _ h => h.1 _ _ upd_same) ?_ ?_
          · rintro i x H9 H9' hi ⟨sm9, hep9⟩ ⟨rfl, k, v, hkv, rfl⟩
            obtain ⟨t, d, ht, hd, rfl⟩ := key_at hSt8.len hkv
            obtain ⟨hil, hiT⟩ := List.getElem?_eq_some_iff.mp ht
            have htk : t ∈ ks := List.mem_of_getElem? ht
            obtain ⟨a', hav', ha'⟩ := hL8.get htk
            obtain ⟨a, hav, ha⟩ := hB8.get htk
            have hlp9 : H9' lp = some (.dK (stKV ks as')) := sm9 _ _ (by rw [upd_ne nls]; exact hL8.at_)
            have hbp9 : H9' bp = some (.dK (stKV ks as)) := sm9 _ _ (by rw [upd_ne nbs]; exact hB8.at_)
            have ha9' : MxIt H9' a' (optS sds (kM sds) g l (r + 1) t) := ⟨sm9 _ _ (by rw [upd_ne (ne_of ha'.1 hsa8 (fun z => nomatch z))]; exact ha'.1), ha'.2⟩
            have ha9 : MxIt H9' a (optS sds (kM sds) g l r t) := ⟨sm9 _ _ (by rw [upd_ne (ne_of ha.1 hsa8 (fun z => nomatch z))]; exact ha.1), ha.2⟩
            rw [show L2.kV (Sum.inr (S t)) = V.str (S t) from rfl]
            walk_at "vc"
            refine ⟨rfl, ?_⟩
            walk_at "vc"
            refine x_getS (.inl hlp9) hav' ?_
            walk_at "vc"
            refine x_getS (.inl hbp9) hav ?_
            refine isD_ne (lkO _ _) (lkO _ _) ha9' ha9 ?_
            walk_at "vc"
            refine ite2 (fun e => ?_) (fun e => ?_)
            · walk_at "vc"
              refine ⟨_, hep9, ?_, sm9.putN hep, ?_⟩
              · rw [List.length_map]
                exact Nat.lt_of_le_of_lt (Nat.le_trans (List.length_filter_le _ _) (by rw [List.length_take]; omega : _ ≤ 1000)) (by decide)
              · rw [upd_same, List.take_succ_eq_append_getElem hil, hiT, List.filter_append, List.map_append, List.filter_cons, if_pos e]
                rfl
            · refine ⟨sm9, ?_⟩
              rw [List.take_succ_eq_append_getElem hil, hiT, List.filter_append, List.filter_cons, if_neg e, List.filter_nil, List.append_nil]
              exact hep9
          · rintro H9 ⟨sm9, hep9⟩
            rw [stKV_len hSt8.len, List.take_length] at hep9
            have hep9 : H9 ep = some (.lst ((betd sds (kM sds) g l ks r).map strV)) := hep9
            walk_at "vc"
            have hsa9 : H9 sa = some (.frz od3 (.dK (stKV ks ds))) := sm9 _ _ upd_same
            refine ⟨hsa9, ?_⟩
            have sm10 : Same H8 (upd H9 sa (.dK (stKV ks ds))) := Same.lockD hsa8 sm9
            have hsa10 : upd H9 sa (.dK (stKV ks ds)) sa = some (.dK (stKV ks ds)) := upd_same
            have hep10 : upd H9 sa (.dK (stKV ks ds)) ep = some (.lst ((betd sds (kM sds) g l ks r).map strV)) := by rw [upd_ne nes]; exact hep9
            generalize upd H9 sa (.dK (stKV ks ds)) = H10 at sm10 hsa10 hep10
            have hL10 := hL8.same sm10
            have hB10 := hB8.same sm10
            have hSt10 := hSt8.same sm10
            have hwp10 := sm10 _ _ hwp8
            have smB := smA.trans (SmT.of sm10)
            clear hep9 sm9 hsa9 nep8 hep hL8 hB8 hSt8 hwp8 smA sm8 hsa8 sm10
            walk_at "vc"
            refine ⟨!((betd sds (kM sds) g l ks r).map strV).isEmpty, .inl ⟨_, SqL.of hep10, rfl⟩, ?_⟩
            unfold barGo at hgo
            cases hbt : betd sds (kM sds) g l ks r with
            | nil =>
              rw [hbt] at hgo
              have hgo : BarR.bar (optS sds (kM sds) g l r []).1 (optS sds (kM sds) g l r []).2 = barM sds g l := hgo
              show if true = true then _ else _
              walk_at "vc"
              obtain ⟨a, hav, ha⟩ := hB10.get hKI.root
              refine x_getS (z := S []) (.inl hB10.at_) hav ?_
              refine x_gTup (SqT.of ha.1) rfl ?_
              walk_at "vc"
              refine ⟨(show 3 ≤ sizeLine by decide), fun p hp => ?_⟩
              rw [← hgo] at q hok
              exact q p _ (smB.trans (SmT.new hp)) (smB.free hT hp) upd_same hok
            | cons t rest =>
              rw [hbt] at hgo hep10
              have hgo : (if rgo (kM sds) [t] t [] (optS sds (kM sds) g l (r + 1) t).2 = [] then barGo sds (kM sds) g l ks m (r + 1) else BarR.ring [] (rgo (kM sds) [t] t [] (optS sds (kM sds) g l (r + 1) t).2)) = barM sds g l := hgo
              show if false = true then _ else _
              have hm : t ∈ betd sds (kM sds) g l ks r := by rw [hbt]; exact List.mem_cons_self
              obtain ⟨htk, hne⟩ := List.mem_filter.mp hm
              have hne := of_decide_eq_true hne
              have hlen := optS_len hne
              have ho := optS_is (sds := sds) (k := kM sds) (g := g) (l := l) (r + 1) t
              have hrg := rgo_is hKI (optS sds (kM sds) g l (r + 1) t).2 [t] t [] (RgI.start htk) ho.lk ho.ok
              obtain ⟨a', hav', ha'⟩ := hL10.get htk
              walk_at "vc"
              refine x_ixL (v := V.str (S t)) (SqL.of hep10) (atI_nat (j := 0) rfl) ?_
              walk_at "vc"
              refine x_ixL (v := V.str (S t)) (SqL.of hep10) (atI_nat (j := 0) rfl) ?_
              refine x_getS (.inl hL10.at_) hav' ?_
              walk_at "vc"
              refine x_ixT (SqT.of ha'.1) (atI_nat (j := 1) rfl) ?_
              walk_at "vc"
              refine ⟨sa, sds, kM sds, ks, ds, t, (optS sds (kM sds) g l (r + 1) t).2, rfl, hSt10, hKI, htk, ho.lk, ho.ok, by omega, fun H11 sm11 => ?_⟩
              have hrl : (rgo (kM sds) [t] t [] (optS sds (kM sds) g l (r + 1) t).2).length ≤ 1000 := by
                rcases hrg with ⟨a, q', b, u, e1, e2, _⟩ | ⟨e1, _⟩
                · rw [e2]
                  have := congrArg List.length e1
                  simp only [List.length_append, List.length_nil] at this
                  omega
                · rw [e1]
                  exact Nat.zero_le _
              walk_at "vc"
              refine ⟨_, ⟨hp_sz (by rw [len_S]; omega), rfl⟩, ?_⟩
              by_cases hrn : rgo (kM sds) [t] t [] (optS sds (kM sds) g l (r + 1) t).2 = []
              · rw [if_pos hrn] at hgo
                rw [hrn]
                show if false = true then _ else _
                walk_at "vc"
                have hr2 : r + 1 ≤ 256 := by
                  rcases hrg with ⟨a, q', b, u, e1, e2, e3, _⟩ | ⟨_, e2⟩
                  · exact absurd (e2.symm.trans hrn) e3
                  · rw [hlen, List.length_nil] at e2
                    omega
                exact ⟨lp, as', _, _, _, _, _, _, _, rfl, smB.trans (SmT.of sm11), sm11 _ _ hsa10, hSt10.same sm11, sm11 _ _ hwp10, hL10.same sm11, hgo, hr2⟩
              · rw [if_neg hrn] at hgo
                have hb : (((S (rgo (kM sds) [t] t [] (optS sds (kM sds) g l (r + 1) t).2)).length : Int) != 0) = true := by
                  rw [len_S, bne_iff_ne]
                  intro e
                  exact hrn (List.length_eq_zero_iff.mp (by omega))
                rw [hb]
                walk_at "vc"
                refine ⟨(show 3 ≤ sizeLine by decide), fun p hp => ?_⟩
                have smC := smB.trans (SmT.of sm11)
                rw [← hgo] at q hok
                exact q p _ (smC.trans (SmT.new hp)) (smC.free hT hp) upd_same hok


theorem okneed_above {f : Addr} {fd : FuncData} {aTooLow : Addr} {fTooLow : Addr} {fdTooLow : FuncData} {uFEWEST_LETTERS uMOST_LETTERS uALPHABET uLONGEST_ROW uLEAST_WEIGHT uMOST_WEIGHT uLIKE uUNLIKE uSHORTEST_SEED uLONGEST_SEED uPICK uGAP uFEWEST_SEEDS uMOST_SEEDS uBAR uENDLESS uLOW uREACHES uUNSEEDED : Value} (F : Fun K "need_above" "need_above" sneed_above f fd) (B : Bl mg) (XTooLow : XoF P w K mg base "TooLow" aTooLow fTooLow fdTooLow) (C : Cs mg uFEWEST_LETTERS uMOST_LETTERS uALPHABET uLONGEST_ROW uLEAST_WEIGHT uMOST_WEIGHT uLIKE uUNLIKE uSHORTEST_SEED uLONGEST_SEED uPICK uGAP uFEWEST_SEEDS uMOST_SEEDS uBAR uENDLESS uLOW uREACHES uUNSEEDED) : FnOk P w K mg base (L2.CX P w) 3 f fd ["told", "limit"] (spneed_above K aTooLow) := by
  refine F.okX scneed_above (fun vs H Q E h => ?_) (fun cdv A outer s H vs Q E hr h => ?_)
  · first
      | (obtain ⟨_, rfl, _⟩ := h; rfl)
      | (obtain ⟨_, _, rfl, _⟩ := h; rfl)
      | (obtain ⟨_, _, _, rfl, _⟩ := h; rfl)
      | (obtain ⟨_, _, _, _, rfl, _⟩ := h; rfl)
      | (obtain ⟨_, _, _, _, _, rfl, _⟩ := h; rfl)
      | (obtain ⟨_, _, _, _, _, _, rfl, _⟩ := h; rfl)
      | (obtain ⟨_, _, _, _, _, _, _, rfl, _⟩ := h; rfl)
      | (obtain ⟨_, _, _, _, _, _, _, _, rfl, _⟩ := h; rfl)
      | (obtain ⟨_, _, _, _, _, _, _, _, _, rfl, _⟩ := h; rfl)
      | (obtain ⟨_, _, _, _, _, _, _, _, _, _, rfl, _⟩ := h; rfl)
      | (obtain ⟨_, _, _, _, _, _, _, _, _, _, _, rfl, _⟩ := h; rfl)
      | (obtain ⟨_, _, _, _, _, _, _, _, _, _, _, _, rfl, _⟩ := h; rfl)
      | (obtain ⟨_, _, _, _, _, _, _, _, _, _, _, _, _, rfl, _⟩ := h; rfl)
      | (obtain ⟨_, _, _, _, _, _, _, _, _, _, _, _, _, _, rfl, _⟩ := h; rfl)
      | (obtain ⟨_, _, _, _, _, _, _, _, _, _, _, _, _, _, _, rfl, _⟩ := h; rfl)
      | (obtain ⟨_, _, _, _, _, _, _, _, _, _, _, _, _, _, _, _, rfl, _⟩ := h; rfl)
      | (obtain ⟨_, _, _, _, _, _, _, _, _, _, _, _, _, _, _, _, _, rfl, _⟩ := h; rfl)
  · obtain ⟨told, lp, r, rfl, hlp, q, qe⟩ := h
    refine ⟨_, 
  (pss_one (ps_if (PW.pt (pw_or (pt_cmpR op_eq (pe_ix ix_tup (pv 1) pe_int (fun _ _ => rfl)) (pe_glob rfl C.c_ENDLESS.2 C.c_ENDLESS.1) (nomark _)) (pw_or1 (pt_cmpR op_le (pv 0) (pe_ix ix_tup (pv 1) pe_int (fun _ _ => rfl)) (nomark _))))) 
    (pss_one (ps_raise rfl (takes_of rfl rfl rfl rfl) (pmk_oex XTooLow.oex XTooLow.iC XTooLow.tI XTooLow.ok hr XTooLow.b .nil pass0 rfl XTooLow.gP (pa_cons (pv 1) pa_nil)))) pss_nil)), ?_⟩
    cases r with
    | bar m z =>
      have hlp' : SqT K H lp [.str "bar", .int m, .str (S z)] := hlp
      walk_at "vc"
      rw [decide_eq_false (show ¬ V.str (Str.ofString "bar") = V.str (Str.ofString "endless") by intro h; exact absurd (V.str.inj h) (by decide +kernel))]
      walk_at "vc"
      refine ite2 (fun e => ?_) (fun e => ?_)
      · have e1 : told ≤ m := of_decide_eq_true e
        walk_at "vc"
        refine x_mkO ?_
        walk_at "vc"
        exact tl_made (σ := []) (Q := E) fun d H' k hd => qe (fun ⟨m', z', h1, h2⟩ => by cases h1; omega) d H' k hd
      · have e1 : ¬ told ≤ m := fun h => e (decide_eq_true h)
        walk_at "vc"
        exact q ⟨m, z, rfl, by omega⟩
    | ring za zr =>
      have hlp' : SqT K H lp [.str "endless", .str (S za), .str (S zr)] := hlp
      walk_at "vc"
      rw [decide_eq_true rfl]
      walk_at "vc"
      refine x_mkO ?_
      walk_at "vc"
      exact tl_made (σ := []) (Q := E) fun d H' k hd => qe (fun ⟨m', z', h1, h2⟩ => by cases h1) d H' k hd


theorem okShelf___init__ {f : Addr} {fd : FuncData} {PT : Addr} {cShelf fiShelf : Addr} {fneed_letters : Addr} {fdneed_letters : FuncData} {fneed_scale : Addr} {fdneed_scale : FuncData} {fneed_seeds : Addr} {fdneed_seeds : FuncData} {fbar : Addr} {fdbar : FuncData} (F : Fun K "__init__" "Shelf.__init__" sShelf___init__ f fd) (B : Bl mg) (TShelf : KlShelf K mg cShelf fiShelf) (Dneed_letters : Dn P w K mg base "need_letters" 1 ["letters"] (spneed_letters K) fneed_letters fdneed_letters) (Dneed_scale : Dn P w K mg base "need_scale" 1 ["scale"] (spneed_scale K) fneed_scale fdneed_scale) (Dneed_seeds : Dn P w K mg base "need_seeds" 2 ["seeds"] (spneed_seeds K) fneed_seeds fdneed_seeds) (Dbar : Dn P w K mg base "bar" 5 ["seeds", "scale"] (spbar K PT) fbar fdbar) : FnOk P w K mg base CX0 6 f fd ["self", "letters", "scale", "seeds"] (spShelf___init__ K PT cShelf) := by
  refine F.ok scShelf___init__ (fun vs H Q E h => ?_) (fun cdv A outer s H vs Q E hr h => ?_)
  · first
      | (obtain ⟨_, rfl, _⟩ := h; rfl)
      | (obtain ⟨_, _, rfl, _⟩ := h; rfl)
      | (obtain ⟨_, _, _, rfl, _⟩ := h; rfl)
      | (obtain ⟨_, _, _, _, rfl, _⟩ := h; rfl)
      | (obtain ⟨_, _, _, _, _, rfl, _⟩ := h; rfl)
      | (obtain ⟨_, _, _, _, _, _, rfl, _⟩ := h; rfl)
      | (obtain ⟨_, _, _, _, _, _, _, rfl, _⟩ := h; rfl)
      | (obtain ⟨_, _, _, _, _, _, _, _, rfl, _⟩ := h; rfl)
      | (obtain ⟨_, _, _, _, _, _, _, _, _, rfl, _⟩ := h; rfl)
      | (obtain ⟨_, _, _, _, _, _, _, _, _, _, rfl, _⟩ := h; rfl)
      | (obtain ⟨_, _, _, _, _, _, _, _, _, _, _, rfl, _⟩ := h; rfl)
      | (obtain ⟨_, _, _, _, _, _, _, _, _, _, _, _, rfl, _⟩ := h; rfl)
      | (obtain ⟨_, _, _, _, _, _, _, _, _, _, _, _, _, rfl, _⟩ := h; rfl)
      | (obtain ⟨_, _, _, _, _, _, _, _, _, _, _, _, _, _, rfl, _⟩ := h; rfl)
      | (obtain ⟨_, _, _, _, _, _, _, _, _, _, _, _, _, _, _, rfl, _⟩ := h; rfl)
      | (obtain ⟨_, _, _, _, _, _, _, _, _, _, _, _, _, _, _, _, rfl, _⟩ := h; rfl)
      | (obtain ⟨_, _, _, _, _, _, _, _, _, _, _, _, _, _, _, _, _, rfl, _⟩ := h; rfl)
  · obtain ⟨p, dx, sc, sp, lets, g, l, sds, rfl, hp, hlets, hsc, g1, g2, l1, l2, hsp, hsd, h1, h3, hT, q⟩ := h
    obtain ⟨z1, z2, z3, z4⟩ := letL_ok hlets
    refine ⟨_, 
  (pss_cons (ps_expr (pe_call Dneed_letters.ok (hr.mono (by decide)) (by rfl) Dneed_letters.g Dneed_letters.kp Dneed_letters.b .nil pass0 (pa_cons (pv 1) pa_nil))) 
  (pss_cons (ps_expr (pe_call Dneed_scale.ok (hr.mono (by decide)) (by rfl) Dneed_scale.g Dneed_scale.kp Dneed_scale.b .nil pass0 (pa_cons (pv 2) pa_nil))) 
  (pss_cons (ps_expr (pe_call Dneed_seeds.ok (hr.mono (by decide)) (by rfl) Dneed_seeds.g Dneed_seeds.kp Dneed_seeds.b .nil pass0 (pa_cons (pv 3) pa_nil))) 
  (pss_cons (ps_fld (pv 0) (pv 1) rfl) 
  (pss_cons (ps_fld (pv 0) (pv 2) rfl) 
  (pss_cons (ps_fld (pv 0) (pe_callTy call_list_of (by rfl) B.m_list (by decide +kernel) (pa_cons (pv 3) pa_nil)) rfl) 
  (pss_cons (ps_fld (pv 0) (pe_call Dbar.ok hr (by rfl) Dbar.g Dbar.kp Dbar.b .nil pass0 (pa_cons (pe_fld (pv 0) rfl) (pa_cons (pv 2) pa_nil))) rfl) 
  (pss_one (ps_fld (pv 0) (pe_lst pa_nil) rfl))))))))), ?_⟩
    walk_at "vc"
    refine ⟨lets, rfl, z1, z2, z3, z4, ?_⟩
    walk_at "vc"
    refine ⟨sc, g, l, rfl, SqT.of hsc, g1, g2, l1, l2, fun H1 sm1 => ?_⟩
    have hp1 := sm1 _ _ hp
    have hsc1 := sm1 _ _ hsc
    have hsp1 := sm1 _ _ hsp
    have hT1 := hT.ext sm1
    walk_at "vc"
    refine ⟨sp, sds, rfl, SqL.of hsp1, hsd, h1, h3, ?_⟩
    walk_at "vc"
    refine ⟨p, cShelf, dx, [], rfl, hp1, TShelf.cl, TShelf.n_letters, by simp, ?_⟩
    rw [fl5_put1]
    have X2 : SmX p PT qL H (upd H1 p (.ins cShelf dx [("letters", .str (S lets))])) := (SmX.of sm1).put hp1
    have hp2 : upd H1 p (.ins cShelf dx [("letters", .str (S lets))]) p = some (.ins cShelf dx [("letters", .str (S lets))]) := upd_same
    have back2 : ∀ b, upd H1 p (.ins cShelf dx [("letters", .str (S lets))]) b = none → H b = none := fun b e => by
      have nb : b ≠ p := fun z => by rw [z, upd_same] at e; cases e
      rw [upd_ne nb] at e
      cases h : H b with
      | none => rfl
      | some o => rw [sm1 b o h] at e; cases e
    generalize upd H1 p (.ins cShelf dx [("letters", .str (S lets))]) = H2 at X2 hp2 back2
    walk_at "vc"
    refine ⟨p, cShelf, dx, _, rfl, hp2, TShelf.cl, TShelf.n_scale, by simp, ?_⟩
    rw [fl5_put2]
    have X3 : SmX p PT qL H (upd H2 p (.ins cShelf dx [("letters", .str (S lets)), ("scale", .ref sc)])) := X2.put hp2
    have hp3 : upd H2 p (.ins cShelf dx [("letters", .str (S lets)), ("scale", .ref sc)]) p = some (.ins cShelf dx [("letters", .str (S lets)), ("scale", .ref sc)]) := upd_same
    have back3 : ∀ b, upd H2 p (.ins cShelf dx [("letters", .str (S lets)), ("scale", .ref sc)]) b = none → H b = none := fun b e => by
      have nb : b ≠ p := fun z => by rw [z, upd_same] at e; cases e
      rw [upd_ne nb] at e
      exact back2 b e
    generalize upd H2 p (.ins cShelf dx [("letters", .str (S lets)), ("scale", .ref sc)]) = H3 at X3 hp3 back3
    have hsp3 : H3 sp = some (.lst (sds.map strV)) := X3.k _ _ (fun z => by rw [z, hp] at hsp; cases hsp) hsp (fun _ z => nomatch z)
    have hsc3 : H3 sc = some (.tup [.int g, .int l]) := X3.k _ _ (fun z => by rw [z, hp] at hsc; cases hsc) hsc (fun _ z => nomatch z)
    walk_at "vc"
    intro sq hsq
    have nq : sq ≠ p := fun z => by rw [z, hp3] at hsq; cases hsq
    have hq4 : upd H3 sq (.lst (sds.map strV)) sq = some (.lst (sds.map strV)) := upd_same
    have sm4 : Same H3 (upd H3 sq (.lst (sds.map strV))) := same_upd hsq
    have X4 := X3.smT (SmT.of sm4)
    have hp4 := sm4 _ _ hp3
    have hsc4 := sm4 _ _ hsc3
    have back4 : ∀ b, upd H3 sq (.lst (sds.map strV)) b = none → H b = none := fun b e => by
      have nb : b ≠ sq := fun z => by rw [z, upd_same] at e; cases e
      rw [upd_ne nb] at e
      exact back3 b e
    have hq0 := back3 _ hsq
    generalize upd H3 sq (.lst (sds.map strV)) = H4 at hq4 X4 hp4 hsc4 back4
    walk_at "vc"
    refine ⟨p, cShelf, dx, _, rfl, hp4, TShelf.cl, TShelf.n_seeds, by simp, ?_⟩
    rw [fl5_put3]
    have X5 : SmX p PT qL H (upd H4 p (.ins cShelf dx [("letters", .str (S lets)), ("scale", .ref sc), ("seeds", .ref sq)])) := X4.put hp4
    have hp5 : upd H4 p (.ins cShelf dx [("letters", .str (S lets)), ("scale", .ref sc), ("seeds", .ref sq)]) p = some (.ins cShelf dx [("letters", .str (S lets)), ("scale", .ref sc), ("seeds", .ref sq)]) := upd_same
    have back5 : ∀ b, upd H4 p (.ins cShelf dx [("letters", .str (S lets)), ("scale", .ref sc), ("seeds", .ref sq)]) b = none → H b = none := fun b e => by
      have nb : b ≠ p := fun z => by rw [z, upd_same] at e; cases e
      rw [upd_ne nb] at e
      exact back4 b e
    have hq5 : upd H4 p (.ins cShelf dx [("letters", .str (S lets)), ("scale", .ref sc), ("seeds", .ref sq)]) sq = _ := (upd_ne nq).trans hq4
    have hsc5 : upd H4 p (.ins cShelf dx [("letters", .str (S lets)), ("scale", .ref sc), ("seeds", .ref sq)]) sc = _ := (upd_ne (fun z => by rw [z, hp] at hsc; cases hsc)).trans hsc4
    generalize upd H4 p (.ins cShelf dx [("letters", .str (S lets)), ("scale", .ref sc), ("seeds", .ref sq)]) = H5 at X5 hp5 back5 hq5 hsc5
    have hT5 := X5.t hT
    walk_at "vc"
    refine ⟨p, _, dx, _, _, rfl, hp5, TShelf.cl, TShelf.n_seeds, fl5_get3 _ _ _, ?_⟩
    walk_at "vc"
    refine ⟨sq, sc, sds, g, l, rfl, SqL.of hq5, SqT.of hsc5, hsd, h1, h3, g1, g2, l1, l2, hT5, fun lp H6 st lp0 hlp _ => ?_⟩
    have X6 := X5.smT st
    have hp6 := st.k _ _ hp5 (fun _ z => nomatch z)
    have hq6 := st.lst hq5
    have hsc6 := st.tup hsc5
    have nlp : lp ≠ p := fun z => by rw [z, hp5] at lp0; cases lp0
    have back6 : ∀ b, H6 b = none → H b = none := fun b e => back5 b (st.free hT5 e)
    walk_at "vc"
    refine ⟨p, cShelf, dx, _, rfl, hp6, TShelf.cl, TShelf.n_limit, by simp, ?_⟩
    rw [fl5_put4]
    have X7 : SmX p PT qL H (upd H6 p (.ins cShelf dx [("letters", .str (S lets)), ("scale", .ref sc), ("seeds", .ref sq), ("limit", .ref lp)])) := X6.put hp6
    have hp7 : upd H6 p (.ins cShelf dx [("letters", .str (S lets)), ("scale", .ref sc), ("seeds", .ref sq), ("limit", .ref lp)]) p = some (.ins cShelf dx [("letters", .str (S lets)), ("scale", .ref sc), ("seeds", .ref sq), ("limit", .ref lp)]) := upd_same
    have back7 : ∀ b, upd H6 p (.ins cShelf dx [("letters", .str (S lets)), ("scale", .ref sc), ("seeds", .ref sq), ("limit", .ref lp)]) b = none → H b = none := fun b e => by
      have nb : b ≠ p := fun z => by rw [z, upd_same] at e; cases e
      rw [upd_ne nb] at e
      exact back6 b e
    have hq7 : upd H6 p (.ins cShelf dx [("letters", .str (S lets)), ("scale", .ref sc), ("seeds", .ref sq), ("limit", .ref lp)]) sq = _ := (upd_ne nq).trans hq6
    have hsc7 : upd H6 p (.ins cShelf dx [("letters", .str (S lets)), ("scale", .ref sc), ("seeds", .ref sq), ("limit", .ref lp)]) sc = _ := (upd_ne (fun z => by rw [z, hp] at hsc; cases hsc)).trans hsc6
    have hlp7 : upd H6 p (.ins cShelf dx [("letters", .str (S lets)), ("scale", .ref sc), ("seeds", .ref sq), ("limit", .ref lp)]) lp = _ := (upd_ne nlp).trans hlp
    generalize upd H6 p (.ins cShelf dx [("letters", .str (S lets)), ("scale", .ref sc), ("seeds", .ref sq), ("limit", .ref lp)]) = H7 at X7 hp7 back7 hq7 hsc7 hlp7
    walk_at "vc"
    refine ⟨by decide, fun kp hkp => ?_⟩
    walk_at "vc"
    have sm8 : Same H7 (upd H7 kp (.lst [])) := same_upd hkp
    have hk8 : upd H7 kp (.lst []) kp = some (.lst []) := upd_same
    have hkp0 := back7 _ hkp
    have nkq : sq ≠ kp := fun z => by rw [← z, hq7] at hkp; cases hkp
    have nkp : kp ≠ p := fun z => by rw [z, hp7] at hkp; cases hkp
    have X8 := X7.smT (SmT.of sm8)
    generalize upd H7 kp (.lst []) = H8 at sm8 hk8 X8
    refine ⟨p, cShelf, dx, _, rfl, sm8 _ _ hp7, TShelf.cl, TShelf.n_laid, by simp, ?_⟩
    rw [fl5_put5]
    have ne : ∀ b o, H8 b = some o → b ≠ p → upd H8 p (.ins cShelf dx (fl5 (.str (S lets)) (.ref sc) (.ref sq) (.ref lp) (.ref kp))) b = some o := fun b o e n => (upd_ne n).trans e
    exact q [p, sq, kp] _ ⟨⟨g1, g2, l1, l2, hsd, h1, h3⟩, dx, sc, sq, lp, kp, upd_same, rfl, nkq, ne _ _ (sm8 _ _ hsc7) (fun z => by rw [z, hp] at hsc; cases hsc), ne _ _ (sm8 _ _ hq7) nq, ne _ _ (sm8 _ _ hlp7) nlp, ne _ _ hk8 nkp⟩ (fun b hb => by
      simp only [List.mem_cons, List.not_mem_nil, or_false] at hb
      rcases hb with e | e | e
      · exact .inl e
      · rw [e]; exact .inr hq0
      · rw [e]; exact .inr hkp0) (X8.put (sm8 _ _ hp7))


theorem okShelf_lay {f : Addr} {fd : FuncData} {cShelf fiShelf : Addr} {fneed_row : Addr} {fdneed_row : FuncData} (F : Fun K "lay" "Shelf.lay" sShelf_lay f fd) (B : Bl mg) (TShelf : KlShelf K mg cShelf fiShelf) (Dneed_row : Dn P w K mg base "need_row" 1 ["row", "letters"] (spneed_row K) fneed_row fdneed_row) : FnOk P w K mg base CX0 2 f fd ["self", "row"] (spShelf_lay K cShelf) := by
  refine F.ok scShelf_lay (fun vs H Q E h => ?_) (fun cdv A outer s H vs Q E hr h => ?_)
  · first
      | (obtain ⟨_, rfl, _⟩ := h; rfl)
      | (obtain ⟨_, _, rfl, _⟩ := h; rfl)
      | (obtain ⟨_, _, _, rfl, _⟩ := h; rfl)
      | (obtain ⟨_, _, _, _, rfl, _⟩ := h; rfl)
      | (obtain ⟨_, _, _, _, _, rfl, _⟩ := h; rfl)
      | (obtain ⟨_, _, _, _, _, _, rfl, _⟩ := h; rfl)
      | (obtain ⟨_, _, _, _, _, _, _, rfl, _⟩ := h; rfl)
      | (obtain ⟨_, _, _, _, _, _, _, _, rfl, _⟩ := h; rfl)
      | (obtain ⟨_, _, _, _, _, _, _, _, _, rfl, _⟩ := h; rfl)
      | (obtain ⟨_, _, _, _, _, _, _, _, _, _, rfl, _⟩ := h; rfl)
      | (obtain ⟨_, _, _, _, _, _, _, _, _, _, _, rfl, _⟩ := h; rfl)
      | (obtain ⟨_, _, _, _, _, _, _, _, _, _, _, _, rfl, _⟩ := h; rfl)
      | (obtain ⟨_, _, _, _, _, _, _, _, _, _, _, _, _, rfl, _⟩ := h; rfl)
      | (obtain ⟨_, _, _, _, _, _, _, _, _, _, _, _, _, _, rfl, _⟩ := h; rfl)
      | (obtain ⟨_, _, _, _, _, _, _, _, _, _, _, _, _, _, _, rfl, _⟩ := h; rfl)
      | (obtain ⟨_, _, _, _, _, _, _, _, _, _, _, _, _, _, _, _, rfl, _⟩ := h; rfl)
      | (obtain ⟨_, _, _, _, _, _, _, _, _, _, _, _, _, _, _, _, _, rfl, _⟩ := h; rfl)
  · obtain ⟨p, foot, s, z, rfl, hs, hlets, hrl, hz, hzl, q⟩ := h
    obtain ⟨dx, sc, sq, lp, kp, e1, rfl, n, e2, e3, e4, e5⟩ := hs.ob
    have nkp : kp ≠ p := fun e => by rw [e, e1] at e5; cases e5
    refine ⟨_, 
  (pss_cons (ps_expr (pe_call Dneed_row.ok hr (by rfl) Dneed_row.g Dneed_row.kp Dneed_row.b .nil pass0 (pa_cons (pv 1) (pa_cons (pe_fld (pv 0) rfl) pa_nil)))) 
  (pss_cons (ps_expr (pe_bm PySem.F.plainAttrs_list PySem.F.slot_list_append PySem.F.type_list_append mt_append (pe_fld (pv 0) rfl) (pa_cons (pv 1) pa_nil))) 
  (pss_one (ps_ret (pe_op op_sub (pe_callB call_len_seq (by rfl) B.m_len PySem.boot_len (pa_cons (pe_fld (pv 0) rfl) pa_nil)) pe_int))))), ?_⟩
    walk_at "vc"
    refine ⟨p, _, dx, _, _, rfl, e1, TShelf.cl, TShelf.n_letters, fl5_letters _ _ _ _ _, ?_⟩
    walk_at "vc"
    refine ⟨z, s.lets, rfl, hz, hzl, ?_⟩
    walk_at "vc"
    refine ⟨p, _, dx, _, _, rfl, e1, TShelf.cl, TShelf.n_laid, fl5_laid _ _ _ _ _, ?_⟩
    refine ⟨.inl ⟨rfl, _, SqL.of e5⟩, ?_⟩
    walk_at "vc"
    refine x_append e5 (by rw [List.length_map]; exact Nat.lt_of_le_of_lt hrl (by decide)) ?_
    have u1 : upd H kp (.lst (s.rows.map strV ++ [.str (S z)])) p = _ := (upd_ne nkp.symm).trans e1
    have u5 : upd H kp (.lst (s.rows.map strV ++ [.str (S z)])) kp = some (.lst ((s.rows ++ [z]).map strV)) := by rw [upd_same, List.map_append]; rfl
    walk_at "vc"
    refine ⟨p, _, dx, _, _, rfl, u1, TShelf.cl, TShelf.n_laid, fl5_laid _ _ _ _ _, ?_⟩
    walk_at "vc"
    have hlen : ((s.rows ++ [z]).map strV).length = s.rows.length + 1 := by rw [List.length_map, List.length_append]; rfl
    rw [hlen, show (((s.rows.length + 1 : Nat) : Int) - 1) = ((s.rows.length : Nat) : Int) by omega]
    have keep : ∀ b o, H b = some o → b ≠ kp → upd H kp (.lst (s.rows.map strV ++ [.str (S z)])) b = some o := fun b o e ne => by rw [upd_ne ne]; exact e
    have tup : ∀ b xs, H b = some (.tup xs) → upd H kp (.lst (s.rows.map strV ++ [.str (S z)])) b = some (.tup xs) := fun b xs e => keep b _ e fun z => by rw [z, e5] at e; cases e
    exact q [p, sq, kp] _ ⟨⟨hs.ok.g1, hs.ok.g2, hs.ok.l1, hs.ok.l2, hs.ok.sd, hs.ok.one, hs.ok.three⟩, dx, sc, sq, lp, kp, u1, rfl, n, tup _ _ e2, keep _ _ e3 n, tup _ _ e4, u5⟩ ⟨fun b o e hb => keep b o e fun z => hb (by rw [z]; simp), tup⟩ (fun b hb => .inl hb)


theorem okShelf_rows {f : Addr} {fd : FuncData} {cShelf fiShelf : Addr} (F : Fun K "rows" "Shelf.rows" sShelf_rows f fd) (B : Bl mg) (TShelf : KlShelf K mg cShelf fiShelf) : FnOk P w K mg base CX0 1 f fd ["self"] (spShelf_rows K cShelf) := by
  refine F.ok scShelf_rows (fun vs H Q E h => ?_) (fun cdv A outer s H vs Q E hr h => ?_)
  · first
      | (obtain ⟨_, rfl, _⟩ := h; rfl)
      | (obtain ⟨_, _, rfl, _⟩ := h; rfl)
      | (obtain ⟨_, _, _, rfl, _⟩ := h; rfl)
      | (obtain ⟨_, _, _, _, rfl, _⟩ := h; rfl)
      | (obtain ⟨_, _, _, _, _, rfl, _⟩ := h; rfl)
      | (obtain ⟨_, _, _, _, _, _, rfl, _⟩ := h; rfl)
      | (obtain ⟨_, _, _, _, _, _, _, rfl, _⟩ := h; rfl)
      | (obtain ⟨_, _, _, _, _, _, _, _, rfl, _⟩ := h; rfl)
      | (obtain ⟨_, _, _, _, _, _, _, _, _, rfl, _⟩ := h; rfl)
      | (obtain ⟨_, _, _, _, _, _, _, _, _, _, rfl, _⟩ := h; rfl)
      | (obtain ⟨_, _, _, _, _, _, _, _, _, _, _, rfl, _⟩ := h; rfl)
      | (obtain ⟨_, _, _, _, _, _, _, _, _, _, _, _, rfl, _⟩ := h; rfl)
      | (obtain ⟨_, _, _, _, _, _, _, _, _, _, _, _, _, rfl, _⟩ := h; rfl)
      | (obtain ⟨_, _, _, _, _, _, _, _, _, _, _, _, _, _, rfl, _⟩ := h; rfl)
      | (obtain ⟨_, _, _, _, _, _, _, _, _, _, _, _, _, _, _, rfl, _⟩ := h; rfl)
      | (obtain ⟨_, _, _, _, _, _, _, _, _, _, _, _, _, _, _, _, rfl, _⟩ := h; rfl)
      | (obtain ⟨_, _, _, _, _, _, _, _, _, _, _, _, _, _, _, _, _, rfl, _⟩ := h; rfl)
  · obtain ⟨p, foot, s, rfl, hs, hrl, q⟩ := h
    obtain ⟨dx, sc, sq, lp, kp, e1, ef, n, e2, e3, e4, e5⟩ := hs.ob
    refine ⟨_, 
  (pss_one (ps_ret (pe_callTy call_list_of (by rfl) B.m_list (by decide +kernel) (pa_cons (pe_fld (pv 0) rfl) pa_nil)))), ?_⟩
    walk_at "vc"
    refine ⟨p, _, dx, _, _, rfl, e1, TShelf.cl, TShelf.n_laid, fl5_laid _ _ _ _ _, ?_⟩
    walk_at "vc"
    intro r hr
    have sm : Same H (upd H r (.lst (s.rows.map strV))) := same_upd hr
    exact q _ r sm hr upd_same


theorem ok_picked {f : Addr} {fd : FuncData} {uFEWEST_LETTERS uMOST_LETTERS uALPHABET uLONGEST_ROW uLEAST_WEIGHT uMOST_WEIGHT uLIKE uUNLIKE uSHORTEST_SEED uLONGEST_SEED uPICK uGAP uFEWEST_SEEDS uMOST_SEEDS uBAR uENDLESS uLOW uREACHES uUNSEEDED : Value} (F : Fun K "_picked" "_picked" s_picked f fd) (B : Bl mg) (C : Cs mg uFEWEST_LETTERS uMOST_LETTERS uALPHABET uLONGEST_ROW uLEAST_WEIGHT uMOST_WEIGHT uLIKE uUNLIKE uSHORTEST_SEED uLONGEST_SEED uPICK uGAP uFEWEST_SEEDS uMOST_SEEDS uBAR uENDLESS uLOW uREACHES uUNSEEDED) : FnOk P w K mg base CX0 1 f fd ["seed", "row", "place"] (sp_picked K) := by
  refine F.ok sc_picked (fun vs H Q E h => ?_) (fun cdv A outer s H vs Q E hr h => ?_)
  · first
      | (obtain ⟨_, rfl, _⟩ := h; rfl)
      | (obtain ⟨_, _, rfl, _⟩ := h; rfl)
      | (obtain ⟨_, _, _, rfl, _⟩ := h; rfl)
      | (obtain ⟨_, _, _, _, rfl, _⟩ := h; rfl)
      | (obtain ⟨_, _, _, _, _, rfl, _⟩ := h; rfl)
      | (obtain ⟨_, _, _, _, _, _, rfl, _⟩ := h; rfl)
      | (obtain ⟨_, _, _, _, _, _, _, rfl, _⟩ := h; rfl)
      | (obtain ⟨_, _, _, _, _, _, _, _, rfl, _⟩ := h; rfl)
      | (obtain ⟨_, _, _, _, _, _, _, _, _, rfl, _⟩ := h; rfl)
      | (obtain ⟨_, _, _, _, _, _, _, _, _, _, rfl, _⟩ := h; rfl)
      | (obtain ⟨_, _, _, _, _, _, _, _, _, _, _, rfl, _⟩ := h; rfl)
      | (obtain ⟨_, _, _, _, _, _, _, _, _, _, _, _, rfl, _⟩ := h; rfl)
      | (obtain ⟨_, _, _, _, _, _, _, _, _, _, _, _, _, rfl, _⟩ := h; rfl)
      | (obtain ⟨_, _, _, _, _, _, _, _, _, _, _, _, _, _, rfl, _⟩ := h; rfl)
      | (obtain ⟨_, _, _, _, _, _, _, _, _, _, _, _, _, _, _, rfl, _⟩ := h; rfl)
      | (obtain ⟨_, _, _, _, _, _, _, _, _, _, _, _, _, _, _, _, rfl, _⟩ := h; rfl)
      | (obtain ⟨_, _, _, _, _, _, _, _, _, _, _, _, _, _, _, _, _, rfl, _⟩ := h; rfl)
  · obtain ⟨sd, r, p, rfl, h1, h2, h3, q⟩ := h
    have lr : (S r).length ≤ sizeLine := hp_sz (by rw [len_S]; omega)
    refine ⟨_, 
  (pss_one (ps_ret (pe_join pe_str (pe_lc (own := [("at", 3), ("sign", 4)]) (g := gTup K 2 (gCons (gName 3) (gCons (gName 4) gNil))) rfl sc_picked.nd (pi_enumS (by rfl) B.m_enumerate (pa_cons (pv 0) pa_nil)) (blkOk_by (N := n_picked) (sc := defScope s_picked) (by decide +kernel)) (fun _ _ _ _ _ => (pg_tup rfl (pgs_cons (pg_name (i := 3) sc_picked.nd rfl (.inl rfl)) (pgs_cons (pg_name (i := 4) sc_picked.nd rfl (.inl rfl)) pgs_nil)))) (fun _ _ _ _ _ => pts_one (pt_cmpR op_eq (pv 4) (pe_glob rfl C.c_PICK.2 C.c_PICK.1) (nomark _))) (fun _ _ _ _ _ => (pe_ix ix_str (pv 1) (pe_op op_add (pv 2) (pv 3)) (fun _ _ => rfl))))))), ?_⟩
    walk_at "vc"
    intro D hD
    refine lc_it (walk_enumS (x := S sd)) (fun i H' => Same H H' ∧ H' D = some (.lst ((pickN sd r p i).map fun c => V.str (sg c)))) ⟨same_upd hD, upd_same⟩ (fun _ _ _ _ => trivial) ?_ ?_
    · rintro i x H1 H2 hi ⟨sm, hD1⟩ ⟨T, c, rfl, hTn, hc, rfl⟩
      have hi' : i < sd.length := hi
      have ec : sd[i]? = some c := by simpa [S] using hc
      have hz : p + i < r.length := by omega
      have sm1 : Same H1 (upd H1 T (.tup [.int (i : Nat), .str ⟨#[c]⟩])) := same_upd hTn
      have hTT : upd H1 T (.tup [.int (i : Nat), .str ⟨#[c]⟩]) T = some (.tup [.int (i : Nat), .str ⟨#[c]⟩]) := upd_same
      have hD2 := sm1 _ _ hD1
      have sm2 := sm.trans sm1
      generalize upd H1 T (.tup [.int (i : Nat), .str ⟨#[c]⟩]) = H3 at sm1 hTT hD2 sm2
      refine x_gTup (SqT.of hTT) rfl ?_
      walk_at "vc"
      refine ⟨rfl, ?_⟩
      walk_at "vc"
      rw [show (⟨#[c]⟩ : Str) = sg c from rfl, eq_sign c 35 (Str.ofString "#") rfl]
      refine ite2 (fun e => ?_) (fun e => ?_)
      · have e35 : c = 35 := of_decide_eq_true e
        walk_at "vc"
        refine x_ixS lr (c := r[p + i]) (atI_of (by omega) (by rw [show (((p : Nat) : Int) + ((i : Nat) : Int)).toNat = p + i by omega]; exact List.getElem?_eq_getElem hz)) ?_
        refine ⟨_, hD2, ?_, sm2.putN hD, ?_⟩
        · rw [List.length_map]
          have := pickN_len sd r p i
          exact Nat.lt_of_le_of_lt (by omega : _ ≤ 1000) (by decide)
        · rw [upd_same, pickN_yes (by rw [ec, e35]) (List.getElem?_eq_getElem hz), List.map_append]
          rfl
      · have e35 : ¬ c = 35 := fun h => e (decide_eq_true h)
        refine ⟨sm2, ?_⟩
        rw [pickN_no (by rw [ec]; simp [e35])]
        exact hD2
    · rintro H1 ⟨sm, hD1⟩
      rw [show (S sd).cps.size = sd.length from len_S sd] at hD1
      have hpn := pickN_len sd r p sd.length
      refine x_join (ys := (pickN sd r p sd.length).map sg) (SqL.of (by rw [lst_map_signs]; exact hD1)) (by have e := signs_len (pickN sd r p sd.length); show ((List.map sg (pickN sd r p sd.length)).map (·.length)).sum + ((pickN sd r p sd.length).map sg).length * ("" : Str).length ≤ _; omega) ?_
      rw [show Txt.join (Str.ofString "") ((pickN sd r p sd.length).map sg) = S (pickW sd r p) from join_signs _]
      exact q H1 sm


theorem ok_windows_of {f : Addr} {fd : FuncData} {f_picked : Addr} {fd_picked : FuncData} (F : Fun K "_windows_of" "_windows_of" s_windows_of f fd) (B : Bl mg) (D_picked : Dn P w K mg base "_picked" 1 ["seed", "row", "place"] (sp_picked K) f_picked fd_picked) : FnOk P w K mg base CX0 2 f fd ["row", "seeds"] (sp_windows_of K) := by
  refine F.ok sc_windows_of (fun vs H Q E h => ?_) (fun cdv A outer s H vs Q E hr h => ?_)
  · first
      | (obtain ⟨_, rfl, _⟩ := h; rfl)
      | (obtain ⟨_, _, rfl, _⟩ := h; rfl)
      | (obtain ⟨_, _, _, rfl, _⟩ := h; rfl)
      | (obtain ⟨_, _, _, _, rfl, _⟩ := h; rfl)
      | (obtain ⟨_, _, _, _, _, rfl, _⟩ := h; rfl)
      | (obtain ⟨_, _, _, _, _, _, rfl, _⟩ := h; rfl)
      | (obtain ⟨_, _, _, _, _, _, _, rfl, _⟩ := h; rfl)
      | (obtain ⟨_, _, _, _, _, _, _, _, rfl, _⟩ := h; rfl)
      | (obtain ⟨_, _, _, _, _, _, _, _, _, rfl, _⟩ := h; rfl)
      | (obtain ⟨_, _, _, _, _, _, _, _, _, _, rfl, _⟩ := h; rfl)
      | (obtain ⟨_, _, _, _, _, _, _, _, _, _, _, rfl, _⟩ := h; rfl)
      | (obtain ⟨_, _, _, _, _, _, _, _, _, _, _, _, rfl, _⟩ := h; rfl)
      | (obtain ⟨_, _, _, _, _, _, _, _, _, _, _, _, _, rfl, _⟩ := h; rfl)
      | (obtain ⟨_, _, _, _, _, _, _, _, _, _, _, _, _, _, rfl, _⟩ := h; rfl)
      | (obtain ⟨_, _, _, _, _, _, _, _, _, _, _, _, _, _, _, rfl, _⟩ := h; rfl)
      | (obtain ⟨_, _, _, _, _, _, _, _, _, _, _, _, _, _, _, _, rfl, _⟩ := h; rfl)
      | (obtain ⟨_, _, _, _, _, _, _, _, _, _, _, _, _, _, _, _, _, rfl, _⟩ := h; rfl)
  · obtain ⟨sp, r, sds, rfl, hsp, hsd, hsl, hrz, q⟩ := h
    have lr : (S r).length = r.length := len_S r
    have zr : (S r).length ≤ sizeLine := hp_sz (by omega)
    refine ⟨_, 
  (pss_cons (ps_set (i := 2) sc_windows_of.nd rfl (.inl rfl) (pe_lst pa_nil)) 
  (pss_cons (ps_for PassesOwn.never rfl (pi_enum (by rfl) B.m_enumerate (pa_cons (pv 1) pa_nil)) (pg_tup rfl (pgs_cons (pg_name (i := 3) sc_windows_of.nd rfl (.inl rfl)) (pgs_cons (pg_name (i := 4) sc_windows_of.nd rfl (.inl rfl)) pgs_nil))) 
    (pss_one (ps_for PassesOwn.never rfl (pi_range1 rfl B.m_range (pa_cons (pe_op op_add (pe_op op_sub (pe_callB call_len_str (by rfl) B.m_len PySem.boot_len (pa_cons (pv 0) pa_nil)) (pe_callB call_len_str (by rfl) B.m_len PySem.boot_len (pa_cons (pv 4) pa_nil))) pe_int) pa_nil)) (pg_name (i := 5) sc_windows_of.nd rfl (.inl rfl)) 
      (pss_one (ps_expr (pe_bm PySem.F.plainAttrs_list PySem.F.slot_list_append PySem.F.type_list_append mt_append (pv 2) (pa_cons (pe_tup (pa_cons (pv 3) (pa_cons (pe_call D_picked.ok hr (by rfl) D_picked.g D_picked.kp D_picked.b .nil pass0 (pa_cons (pv 4) (pa_cons (pv 0) (pa_cons (pv 5) pa_nil)))) (pa_cons (pv 5) pa_nil)))) pa_nil))))))) 
  (pss_one (ps_ret (pv 2))))), ?_⟩
    walk_at "vc"
    refine ⟨by decide, fun fp hfp => ?_⟩
    have sm1 : Same H (upd H fp (.lst [])) := same_upd hfp
    have hfp1 : upd H fp (.lst []) fp = some (.lst []) := upd_same
    generalize upd H fp (.lst []) = H1 at sm1 hfp1
    walk_at "vc"
    refine ⟨sp, _, rfl, sm1.seq hsp, ?_⟩
    refine for_it (walk_enum (xs := sds.map strV)) (fun k σ H' => ∃ (as : List Addr) (y3 y4 y5 : Option V), σ = [some (.str (S r)), some (.ref sp), some (.ref fp), y3, y4, y5] ∧ Same H H' ∧ H' fp = some (.lst (as.map V.ref)) ∧ Tup w3V H' as (wo r sds k)) ⟨[], _, _, _, rfl, sm1, hfp1, Tup.nil⟩ (fun k σ H' _ ⟨_, _, _, _, _, s, _⟩ => s.seq hsp) ?_ ?_
    · rintro k x σ H2 H3 hk ⟨as, y3, y4, y5, rfl, sm2, hfp2, hT2⟩ ⟨T, xa, xb, rfl, hTn, rfl, exa, exb⟩
      rw [List.length_map] at hk
      have hkk : sds[k]? = some sds[k] := List.getElem?_eq_getElem hk
      have hsdk := hsd _ (List.getElem_mem hk)
      obtain rfl : xa = .int (k : Nat) := (Option.some.inj exa).symm
      obtain rfl : xb = .str (S sds[k]) := by
        have exb : (sds.map strV)[k]? = some xb := exb
        rw [List.getElem?_map, hkk] at exb
        exact (Option.some.inj exb).symm
      have sm3 : Same H2 (upd H2 T (.tup [.int (k : Nat), .str (S sds[k])])) := same_upd hTn
      have hTT : upd H2 T (.tup [.int (k : Nat), .str (S sds[k])]) T = some (.tup [.int (k : Nat), .str (S sds[k])]) := upd_same
      have hfp3 := sm3 _ _ hfp2
      have hT3 := hT2.same sm3
      have sm4 := sm2.trans sm3
      generalize upd H2 T (.tup [.int (k : Nat), .str (S sds[k])]) = H3 at sm3 hTT hfp3 hT3 sm4
      rw [wo_succ, hkk]
      show _ ; dsimp only [Option.getD_some]
      have hAl := wo_len (sds := sds) hrz k
      have hk4 : 61 * k ≤ 183 := by omega
      generalize sds[k] = sd at hsdk hTT
      have lsd : (S sd).length = sd.length := len_S sd
      have hs8 := hsdk.most
      have hs1 := hsdk.one
      have zsd : (S sd).length ≤ sizeLine := hp_sz (by omega)
      refine x_gTup (SqT.of hTT) rfl ?_
      walk_at "vc"
      have en3 : (((S r).length : Int) - ((S sd).length : Int) + 1).toNat = plcs sd r := by
        unfold plcs
        rw [lr, lsd]
      rw [en3]
      have hpl := plcs_le sd r
      refine for_range (fun p σ H' => ∃ (as : List Addr) (y5 : Option V), σ = [some (.str (S r)), some (.ref sp), some (.ref fp), some (.int (k : Nat)), some (.str (S sd)), y5] ∧ Same H H' ∧ H' fp = some (.lst (as.map V.ref)) ∧ Tup w3V H' as (wo r sds k ++ woK r k sd p)) ⟨as, _, rfl, sm4, hfp3, by show Tup w3V H3 as (_ ++ []); rw [List.append_nil]; exact hT3⟩ ?_ ?_
      · rintro p σ H4 hp ⟨as, y5, rfl, sm5, hfp5, hT5⟩
        have hp' : p + sd.length ≤ r.length := by
          unfold plcs at hp
          omega
        rw [show (0 : Int) + (p : Int) = ((p : Nat) : Int) from Int.zero_add _]
        walk_at "vc"
        refine ⟨.inl ⟨rfl, _, SqL.of hfp5⟩, ?_⟩
        walk_at "vc"
        refine ⟨sd, r, p, rfl, by omega, by omega, hp', fun H5 sm6 => ?_⟩
        walk_at "vc"
        refine ⟨show 3 ≤ sizeLine by decide, fun t ht => ?_⟩
        have hfp6 := sm6 _ _ hfp5
        have hpush := tup_push (f := w3V) (p := ((k, pickW sd r p, p) : W3)) hfp (sm5.trans sm6) hfp6 (hT5.same sm6) ht
        have hLl : (wo r sds k ++ woK r k sd p).length ≤ 10000 := by
          rw [List.length_append, woK_len]
          omega
        walk_at "vc"
        refine x_append (by rw [upd_ne (ne_of_none hfp6 ht)]; exact hfp6) (by rw [hT5.len]; exact Nat.lt_of_le_of_lt hLl (by decide)) ?_
        refine ⟨as ++ [t], _, rfl, hpush.1, hpush.2.1, ?_⟩
        rw [woK_succ, ← List.append_assoc]
        exact hpush.2.2
      · rintro σ H4 ⟨as, y5, rfl, sm5, hfp5, hT5⟩
        exact ⟨as, _, _, _, rfl, sm5, hfp5, hT5⟩
    · rintro σ H2 ⟨as, y3, y4, y5, rfl, sm2, hfp2, hT2⟩
      rw [List.length_map] at hT2
      walk_at "vc"
      exact q fp as H2 sm2 hfp hfp2 hT2


theorem okShelf_windows {f : Addr} {fd : FuncData} {cShelf fiShelf : Addr} {f_windows_of : Addr} {fd_windows_of : FuncData} (F : Fun K "windows" "Shelf.windows" sShelf_windows f fd) (B : Bl mg) (TShelf : KlShelf K mg cShelf fiShelf) (D_windows_of : Dn P w K mg base "_windows_of" 2 ["row", "seeds"] (sp_windows_of K) f_windows_of fd_windows_of) : FnOk P w K mg base CX0 3 f fd ["self"] (spShelf_windows K cShelf) := by
  refine F.ok scShelf_windows (fun vs H Q E h => ?_) (fun cdv A outer s H vs Q E hr h => ?_)
  · first
      | (obtain ⟨_, rfl, _⟩ := h; rfl)
      | (obtain ⟨_, _, rfl, _⟩ := h; rfl)
      | (obtain ⟨_, _, _, rfl, _⟩ := h; rfl)
      | (obtain ⟨_, _, _, _, rfl, _⟩ := h; rfl)
      | (obtain ⟨_, _, _, _, _, rfl, _⟩ := h; rfl)
      | (obtain ⟨_, _, _, _, _, _, rfl, _⟩ := h; rfl)
      | (obtain ⟨_, _, _, _, _, _, _, rfl, _⟩ := h; rfl)
      | (obtain ⟨_, _, _, _, _, _, _, _, rfl, _⟩ := h; rfl)
      | (obtain ⟨_, _, _, _, _, _, _, _, _, rfl, _⟩ := h; rfl)
      | (obtain ⟨_, _, _, _, _, _, _, _, _, _, rfl, _⟩ := h; rfl)
      | (obtain ⟨_, _, _, _, _, _, _, _, _, _, _, rfl, _⟩ := h; rfl)
      | (obtain ⟨_, _, _, _, _, _, _, _, _, _, _, _, rfl, _⟩ := h; rfl)
      | (obtain ⟨_, _, _, _, _, _, _, _, _, _, _, _, _, rfl, _⟩ := h; rfl)
      | (obtain ⟨_, _, _, _, _, _, _, _, _, _, _, _, _, _, rfl, _⟩ := h; rfl)
      | (obtain ⟨_, _, _, _, _, _, _, _, _, _, _, _, _, _, _, rfl, _⟩ := h; rfl)
      | (obtain ⟨_, _, _, _, _, _, _, _, _, _, _, _, _, _, _, _, rfl, _⟩ := h; rfl)
      | (obtain ⟨_, _, _, _, _, _, _, _, _, _, _, _, _, _, _, _, _, rfl, _⟩ := h; rfl)
  · obtain ⟨p, foot, s, rfl, hs, hrl, hrz, q⟩ := h
    obtain ⟨dx, sc, sq, lp, kp, e1, ef, n, e2, e3, e4, e5⟩ := hs.ob
    have hok := hs.ok
    refine ⟨_, 
  (pss_cons (ps_set (i := 1) scShelf_windows.nd rfl (.inl rfl) (pe_lst pa_nil)) 
  (pss_cons (ps_for PassesOwn.never rfl (pi_enum (by rfl) B.m_enumerate (pa_cons (pe_fld (pv 0) rfl) pa_nil)) (pg_tup rfl (pgs_cons (pg_name (i := 2) scShelf_windows.nd rfl (.inl rfl)) (pgs_cons (pg_name (i := 3) scShelf_windows.nd rfl (.inl rfl)) pgs_nil))) 
    (pss_one (ps_for PassesOwn.never rfl (pi_list (pe_call D_windows_of.ok hr (by rfl) D_windows_of.g D_windows_of.kp D_windows_of.b .nil pass0 (pa_cons (pv 3) (pa_cons (pe_fld (pv 0) rfl) pa_nil)))) (pg_tup rfl (pgs_cons (pg_name (i := 4) scShelf_windows.nd rfl (.inl rfl)) (pgs_cons (pg_name (i := 5) scShelf_windows.nd rfl (.inl rfl)) (pgs_cons (pg_name (i := 6) scShelf_windows.nd rfl (.inl rfl)) pgs_nil)))) 
      (pss_one (ps_expr (pe_bm PySem.F.plainAttrs_list PySem.F.slot_list_append PySem.F.type_list_append mt_append (pv 1) (pa_cons (pe_tup (pa_cons (pv 4) (pa_cons (pv 5) (pa_cons (pv 2) (pa_cons (pv 6) pa_nil))))) pa_nil))))))) 
  (pss_one (ps_ret (pe_callB (cr_sortD hr.units) (by rfl) B.m_sorted (by decide +kernel) (pa_cons (pv 1) pa_nil)))))), ?_⟩
    walk_at "vc"
    refine ⟨by decide, fun fp hfp => ?_⟩
    have sm1 : Same H (upd H fp (.lst [])) := same_upd hfp
    have hfp1 : upd H fp (.lst []) fp = some (.lst []) := upd_same
    generalize upd H fp (.lst []) = H1 at sm1 hfp1
    walk_at "vc"
    refine ⟨p, _, dx, _, _, rfl, sm1 _ _ e1, TShelf.cl, TShelf.n_laid, fl5_laid _ _ _ _ _, ?_⟩
    walk_at "vc"
    refine ⟨kp, _, rfl, SqL.of (sm1 _ _ e5), ?_⟩
    refine for_it (walk_enum (xs := s.rows.map strV)) (fun m σ H' => ∃ (as : List Addr) (y2 y3 y4 y5 y6 : Option V), σ = [some (.ref p), some (.ref fp), y2, y3, y4, y5, y6] ∧ Same H H' ∧ H' fp = some (.lst (as.map V.ref)) ∧ Tup winV H' as (winsM s.sds s.rows m)) ⟨[], _, _, _, _, _, rfl, sm1, hfp1, Tup.nil⟩ (fun k σ H' _ ⟨_, _, _, _, _, _, _, sm, _⟩ => SqL.of (sm _ _ e5)) ?_ ?_
    · rintro m x σ H2 H3 hm ⟨as, y2, y3, y4, y5, y6, rfl, sm2, hfp2, hT2⟩ ⟨T, xa, xb, rfl, hTn, rfl, exa, exb⟩
      rw [List.length_map] at hm
      have hmm : s.rows[m]? = some s.rows[m] := List.getElem?_eq_getElem hm
      have hrm := hrz _ (List.getElem_mem hm)
      obtain rfl : xa = .int (m : Nat) := (Option.some.inj exa).symm
      obtain rfl : xb = .str (S s.rows[m]) := by
        have exb : (s.rows.map strV)[m]? = some xb := exb
        rw [List.getElem?_map, hmm] at exb
        exact (Option.some.inj exb).symm
      have sm3 : Same H2 (upd H2 T (.tup [.int (m : Nat), .str (S s.rows[m])])) := same_upd hTn
      have hTT : upd H2 T (.tup [.int (m : Nat), .str (S s.rows[m])]) T = some (.tup [.int (m : Nat), .str (S s.rows[m])]) := upd_same
      have hfp3 := sm3 _ _ hfp2
      have hT3 := hT2.same sm3
      have sm4 := sm2.trans sm3
      generalize upd H2 T (.tup [.int (m : Nat), .str (S s.rows[m])]) = H3 at sm3 hTT hfp3 hT3 sm4
      rw [winsM_succ, hmm]
      show _ ; dsimp only [Option.getD_some]
      have hAl := winsM_len (sds := s.sds) hrz hok.three m
      have hm4 : 183 * m ≤ 3660 := by omega
      generalize s.rows[m] = r at hrm hTT
      refine x_gTup (SqT.of hTT) rfl ?_
      walk_at "vc"
      refine ⟨p, _, dx, _, _, rfl, sm4 _ _ e1, TShelf.cl, TShelf.n_seeds, fl5_seeds _ _ _ _ _, ?_⟩
      walk_at "vc"
      refine ⟨sq, r, s.sds, rfl, SqL.of (sm4 _ _ e3), hok.sd, hok.three, by omega, fun D as3 H4 sm5 hD hD4 hT4 => ?_⟩
      have hwl : (wo r s.sds s.sds.length).length ≤ 183 := by have := wo_len (sds := s.sds) hrm s.sds.length; have := hok.three; omega
      have sm6 := sm4.trans sm5
      have nDf : D ≠ fp := fun z => by rw [z, hfp3] at hD; cases hD
      have hfp6 := sm5 _ _ hfp3
      have hT6 := hT3.same sm5
      generalize wo r s.sds s.sds.length = W3 at hT4 hwl
      walk_at "vc"
      refine ⟨D, rfl, ⟨_, SqL.of hD4⟩, ?_⟩
      refine for_list (K := K) (a := D) (xs := as3.map V.ref) (fun j σ H' => ∃ (as : List Addr) (y4 y5 y6 : Option V), σ = [some (.ref p), some (.ref fp), some (.int (m : Nat)), some (.str (S r)), y4, y5, y6] ∧ (H' D = some (.lst (as3.map V.ref)) ∧ Tup w3V H' as3 W3) ∧ Same H H' ∧ H' fp = some (.lst (as.map V.ref)) ∧ Tup winV H' as (winsM s.sds s.rows m ++ (W3.take j).map fun q => ⟨q.1, q.2.1, m, q.2.2⟩)) ⟨as, _, _, _, rfl, ⟨hD4, hT4⟩, sm6, hfp6, by show Tup winV H4 as (_ ++ []); rw [List.append_nil]; exact hT6⟩ (fun j σ H' _ ⟨_, _, _, _, _, sm, _⟩ => SqL.of sm.1) ?_ ?_
      · rintro j x σ H5 hx ⟨as5, y4, y5, y6, rfl, ⟨hD5, hT5⟩, sm8, hfp7, hT7⟩
        have hj : j < as3.length := by
          have := (List.getElem?_eq_some_iff.mp hx).1
          rw [List.length_map] at this
          exact this
        have hj3 : j < W3.length := by rw [← hT4.1]; exact hj
        obtain rfl : x = .ref as3[j] := by
          rw [List.getElem?_map, List.getElem?_eq_getElem hj] at hx
          exact (Option.some.inj hx).symm
        have htj := hT5.2 j _ W3[j] (List.getElem?_eq_getElem hj) (List.getElem?_eq_getElem hj3)
        rw [List.take_succ_eq_append_getElem hj3, List.map_append, ← List.append_assoc]
        have hjl : (winsM s.sds s.rows m ++ (W3.take j).map fun q => (⟨q.1, q.2.1, m, q.2.2⟩ : Win)).length ≤ 10000 := by
          rw [List.length_append, List.length_map, List.length_take]
          omega
        generalize W3[j] = qq at htj ⊢
        obtain ⟨k, z, pl⟩ := qq
        have htj : H5 as3[j] = some (.tup [.int (k : Nat), .str (S z), .int (pl : Nat)]) := htj
        refine x_gTup (SqT.of htj) rfl ?_
        walk_at "vc"
        refine ⟨.inl ⟨rfl, _, SqL.of hfp7⟩, ?_⟩
        walk_at "vc"
        refine ⟨show 4 ≤ sizeLine by decide, fun t ht => ?_⟩
        have hpush := tup_push (f := winV) (p := (⟨k, z, m, pl⟩ : Win)) hfp sm8 hfp7 hT7 ht
        walk_at "vc"
        refine x_append (by rw [upd_ne (ne_of_none hfp7 ht)]; exact hfp7) (by rw [hT7.len]; exact Nat.lt_of_le_of_lt hjl (by decide)) ?_
        exact ⟨as5 ++ [t], _, _, _, rfl, ⟨(upd_ne nDf).trans ((upd_ne (ne_of_none hD5 ht)).trans hD5), (hT5.same (same_upd ht)).updL ((upd_ne (ne_of_none hfp7 ht)).trans hfp7)⟩, hpush.1, hpush.2.1, hpush.2.2⟩
      · rintro σ H5 ⟨as5, y4, y5, y6, rfl, sm7, sm8, hfp7, hT7⟩
        have e : as3.length = W3.length := hT4.1
        rw [List.length_map, e, List.take_length] at hT7
        exact ⟨as5, _, _, _, _, _, rfl, sm8, hfp7, hT7⟩
    · rintro σ H2 ⟨as, y2, y3, y4, y5, y6, rfl, sm2, hfp2, hT2⟩
      rw [List.length_map] at hT2
      walk_at "vc"
      refine ⟨Win, fp, as, winsM s.sds s.rows s.rows.length, winV, winD, rfl, SqL.of hfp2, hT2, dp_win, allAlike_wins _, fun p _ h => (nomatch h), fun p _ => depth_win p, fun D2 as2 hD2 hT3 => ?_⟩
      rw [winsM_sort] at hT3
      have hD20 : H D2 = none := by
        cases e : H D2 with
        | none => rfl
        | some o =>
          have := sm2 _ _ e
          rw [hD2] at this
          cases this
      have smF := sm2.trans (same_upd (o := .lst (as2.map V.ref)) hD2)
      exact q _ D2 as2 smF hD20 upd_same (hT3.same (same_upd hD2))


theorem okShelf__seeded_lanes {f : Addr} {fd : FuncData} {cShelf fiShelf : Addr} {f_windows_of : Addr} {fd_windows_of : FuncData} {fShelf_windows : Addr} {fdShelf_windows : FuncData} (F : Fun K "_seeded_lanes" "Shelf._seeded_lanes" sShelf__seeded_lanes f fd) (B : Bl mg) (TShelf : KlShelf K mg cShelf fiShelf) (D_windows_of : Dn P w K mg base "_windows_of" 2 ["row", "seeds"] (sp_windows_of K) f_windows_of fd_windows_of) (DShelf_windows : Dm P w K mg base cShelf "windows" 3 ["self"] (spShelf_windows K cShelf) fShelf_windows fdShelf_windows) : FnOk P w K mg base CX0 4 f fd ["self", "row"] (spShelf__seeded_lanes K cShelf) := by
  refine F.ok scShelf__seeded_lanes (fun vs H Q E h => ?_) (fun cdv A outer s H vs Q E hr h => ?_)
  · first
      | (obtain ⟨_, rfl, _⟩ := h; rfl)
      | (obtain ⟨_, _, rfl, _⟩ := h; rfl)
      | (obtain ⟨_, _, _, rfl, _⟩ := h; rfl)
      | (obtain ⟨_, _, _, _, rfl, _⟩ := h; rfl)
      | (obtain ⟨_, _, _, _, _, rfl, _⟩ := h; rfl)
      | (obtain ⟨_, _, _, _, _, _, rfl, _⟩ := h; rfl)
      | (obtain ⟨_, _, _, _, _, _, _, rfl, _⟩ := h; rfl)
      | (obtain ⟨_, _, _, _, _, _, _, _, rfl, _⟩ := h; rfl)
      | (obtain ⟨_, _, _, _, _, _, _, _, _, rfl, _⟩ := h; rfl)
      | (obtain ⟨_, _, _, _, _, _, _, _, _, _, rfl, _⟩ := h; rfl)
      | (obtain ⟨_, _, _, _, _, _, _, _, _, _, _, rfl, _⟩ := h; rfl)
      | (obtain ⟨_, _, _, _, _, _, _, _, _, _, _, _, rfl, _⟩ := h; rfl)
      | (obtain ⟨_, _, _, _, _, _, _, _, _, _, _, _, _, rfl, _⟩ := h; rfl)
      | (obtain ⟨_, _, _, _, _, _, _, _, _, _, _, _, _, _, rfl, _⟩ := h; rfl)
      | (obtain ⟨_, _, _, _, _, _, _, _, _, _, _, _, _, _, _, rfl, _⟩ := h; rfl)
      | (obtain ⟨_, _, _, _, _, _, _, _, _, _, _, _, _, _, _, _, rfl, _⟩ := h; rfl)
      | (obtain ⟨_, _, _, _, _, _, _, _, _, _, _, _, _, _, _, _, _, rfl, _⟩ := h; rfl)
  · obtain ⟨p, foot, s, o, rfl, hs, hrl, hrz, ho, q⟩ := h
    obtain ⟨dx, sc, sq, lp, kp, e1, ef, n, e2, e3, e4, e5⟩ := hs.ob
    have hok := hs.ok
    refine ⟨_, 
  (pss_cons (ps_set (i := 2) scShelf__seeded_lanes.nd rfl (.inl rfl) pe_dnewT) 
  (pss_cons (ps_for PassesOwn.never rfl (pi_list (pe_meth0 (pv 0) TShelf.cl DShelf_windows.mt DShelf_windows.ok hr DShelf_windows.b .nil pass0)) (pg_tup rfl (pgs_cons (pg_name (i := 3) scShelf__seeded_lanes.nd rfl (.inl rfl)) (pgs_cons (pg_name (i := 4) scShelf__seeded_lanes.nd rfl (.inl rfl)) (pgs_cons (pg_name (i := 5) scShelf__seeded_lanes.nd rfl (.inl rfl)) (pgs_cons (pg_name (i := 6) scShelf__seeded_lanes.nd rfl (.inl rfl)) pgs_nil))))) 
    (pss_one (ps_expr (pe_bm PySem.F.plainAttrs_list PySem.F.slot_list_append PySem.F.type_list_append mt_append (pe_setT hr.units (pv 2) (pe_tup (pa_cons (pv 3) (pa_cons (pv 4) pa_nil))) (pe_lst pa_nil) ⟨rfl, rfl, rfl, rfl⟩) (pa_cons (pe_tup (pa_cons (pv 5) (pa_cons (pv 6) pa_nil))) pa_nil))))) 
  (pss_cons (ps_set (i := 7) scShelf__seeded_lanes.nd rfl (.inl rfl) (pe_callTy0 (show CallR _ (.type "set") (rZ0 P w) from cr_Z0) (by rfl) B.m_set (by decide +kernel))) 
  (pss_cons (ps_for PassesOwn.never rfl (pi_list (pe_call D_windows_of.ok (hr.mono (by decide)) (by rfl) D_windows_of.g D_windows_of.kp D_windows_of.b .nil pass0 (pa_cons (pv 1) (pa_cons (pe_fld (pv 0) rfl) pa_nil)))) (pg_tup rfl (pgs_cons (pg_name (i := 3) scShelf__seeded_lanes.nd rfl (.inl rfl)) (pgs_cons (pg_name (i := 4) scShelf__seeded_lanes.nd rfl (.inl rfl)) (pgs_cons (pg_name (i := 8) scShelf__seeded_lanes.nd rfl (.inl rfl)) pgs_nil)))) 
    (pss_one (ps_for PassesOwn.never rfl (pi_list (pe_dget2 (hu_of hr) (pv 2) (pe_tup (pa_cons (pv 3) (pa_cons (pv 4) pa_nil))) (pe_lst pa_nil) ⟨rfl, rfl, rfl, rfl⟩)) (pg_tup rfl (pgs_cons (pg_name (i := 5) scShelf__seeded_lanes.nd rfl (.inl rfl)) (pgs_cons (pg_name (i := 6) scShelf__seeded_lanes.nd rfl (.inl rfl)) pgs_nil))) 
      (pss_one (ps_expr (show PE _ _ (tZAdd K P w _ _) from pe_zadd hr.units (pv 7) (pa_cons (pe_tup (pa_cons (pv 5) (pa_cons (pe_op op_sub (pv 6) (pv 8)) pa_nil))) pa_nil))))))) 
  (pss_one (ps_ret (pe_callB (show CallR _ (.builtin "sorted") (rZSort K P w) from cr_ZSort rfl hr.units) (by rfl) B.m_sorted (by decide +kernel) (pa_cons (pv 7) pa_nil)))))))), ?_⟩
    walk_at "vc"
    intro D hD
    have sm1 : Same H (upd H D (.dT [])) := same_upd hD
    have pl1 : PLs H (upd H D (.dT [])) D [] (fun _ _ => []) := PLs.start hD upd_same
    generalize e1D : upd H D (.dT []) = H1 at sm1 pl1
    replace e1D := e1D.symm
    walk_at "vc"
    obtain ⟨dx', fs, i1, _, _, i3, _⟩ := hs.ins
    refine ⟨p, dx', fs, rfl, sm1 _ _ i1, i3, ?_⟩
    walk_at "vc"
    refine ⟨p, foot, s, rfl, hs.same (fun b _ o e => sm1 b o e) (fun b xs e => sm1 b _ e), by omega, hrz, fun H2 r as sm2 hr1 hr2 hT2 => ?_⟩
    have hWl := winsUp_len (sds := s.sds) hrz (by omega) (by have := hok.three; omega)
    have hLn : ∀ n d, (n, d) ∈ lnA (winsUp s.sds s.rows) (wo o s.sds s.sds.length) ↔ SdL s.sds s.rows o n d := fun n d => lnA_iff n d
    generalize winsUp s.sds s.rows = W at hT2 hWl hLn
    have nrD : r ≠ D := fun e => by
      rw [e, pl1.d] at hr1
      cases hr1
    obtain ⟨Hb, hbD, sHb, sb2, hb2⟩ := erase hD e1D (sm2)
    have hrb := hb2 _ _ nrD hr2
    have hTb : Tup winV Hb as W := ⟨hT2.1, fun j a q g1 g2 => hb2 _ _ (fun e => by
      have g3 := hT2.2 j a q g1 g2
      rw [e, sm2 _ _ pl1.d] at g3
      cases g3) (hT2.2 j a q g1 g2)⟩
    walk_at "vc"
    refine ⟨r, rfl, ⟨_, SqL.of hr2⟩, ?_⟩
    refine for_list (K := K) (a := r) (xs := as.map V.ref) (fun j σ H' => ∃ (kvs : List (List Key × V)) (y3 y4 y5 y6 : Option V), σ = [some (.ref p), some (.str (S o)), some (.ref D), y3, y4, y5, y6, none, none] ∧ Same Hb H' ∧ kvs.length ≤ j ∧ PLs Hb H' D kvs (selW (W.take j))) ⟨[], _, _, _, _, rfl, sb2, Nat.le_refl _, PLs.start hbD (sm2 _ _ pl1.d)⟩ (fun j σ H' _ ⟨_, _, _, _, _, _, sm, _⟩ => SqL.of (sm _ _ hrb)) ?_ ?_
    · rintro j x σ H3 hx ⟨kvs, y3, y4, y5, y6, rfl, sm3, hkl, pl3⟩
      have hj : j < as.length := by
        have := (List.getElem?_eq_some_iff.mp hx).1
        rw [List.length_map] at this
        exact this
      have hjW : j < W.length := by rw [← hT2.1]; exact hj
      obtain rfl : x = .ref as[j] := by
        rw [List.getElem?_map, List.getElem?_eq_getElem hj] at hx
        exact (Option.some.inj hx).symm
      have htj := sm3 _ _ (hTb.2 j _ W[j] (List.getElem?_eq_getElem hj) (List.getElem?_eq_getElem hjW))
      rw [List.take_succ_eq_append_getElem hjW]
      have hsl : ∀ k z, (selW (W.take j) k z).length ≤ 3000 := fun k z => by
        unfold selW
        rw [List.length_map]
        refine Nat.le_trans (List.length_filter_le _ _) ?_
        rw [List.length_take]
        omega
      generalize W.take j = W1 at pl3 hsl ⊢
      generalize W[j] = ww at htj ⊢
      obtain ⟨k, z, nn, pp⟩ := ww
      have htj : H3 as[j] = some (.tup [.int (k : Nat), .str (S z), .int (nn : Nat), .int (pp : Nat)]) := htj
      refine x_gTup (SqT.of htj) rfl ?_
      walk_at "vc"
      refine ⟨D, rfl, .inr ⟨kvs, .inl pl3.d⟩, ?_⟩
      walk_at "vc"
      refine ⟨show 2 ≤ sizeLine by decide, fun T hTn => ?_⟩
      have s4 : Same H3 (upd H3 T (.tup ((wkey k z).map kV))) := same_upd hTn
      have hTT : upd H3 T (.tup ((wkey k z).map kV)) T = some (.tup ((wkey k z).map kV)) := upd_same
      show _ ; change tLst _ _ (upd H3 T (.tup ((wkey k z).map kV))) _
      generalize upd H3 T (.tup ((wkey k z).map kV)) = H4 at s4 hTT ⊢
      have sm4 := sm3.trans s4
      have pl4 := pl3.same s4
      walk_at "vc"
      refine ⟨by decide, fun E hEn => ?_⟩
      have s5 : Same H4 (upd H4 E (.lst [])) := same_upd hEn
      have hEE : upd H4 E (.lst []) E = some (.lst []) := upd_same
      have hEb : Hb E = none := same_none sm4 hEn
      have hnE := nmem_pl pl4 hEn
      generalize upd H4 E (.lst []) = H5 at s5 hEE ⊢
      have sm5 := sm4.trans s5
      have pl5 := pl4.same s5
      refine ⟨kvs, wkey k z, T, pl5.d, rfl, s5 _ _ hTT, Nat.lt_of_le_of_lt (show kvs.length ≤ 3000 by omega) (by decide), fun v hv => ?_, fun hv => ?_⟩
      · obtain ⟨b, as5, rfl, hb0, hb5, hbT⟩ := pl5.yes _ _ _ hv
        refine ⟨.inl ⟨rfl, _, SqL.of hb5⟩, ?_⟩
        walk_at "vc"
        refine ⟨show 2 ≤ sizeLine by decide, fun t ht => ?_⟩
        walk_at "vc"
        have mo := PLs.more (w := ⟨k, z, nn, pp⟩) pl5 sm5 hv hb5 hbT ht
        rw [List.map_append] at mo
        refine x_append (by rw [upd_ne (ne_of_none hb5 ht)]; exact hb5) (by rw [hbT.len]; exact Nat.lt_of_le_of_lt (hsl k z) (by decide)) ?_
        exact ⟨kvs, _, _, _, _, rfl, mo.1, by omega, mo.2⟩
      · have pl6 := pl5.put hv hEb hEE hnE
        have sm6 : Same Hb (upd H5 D (.dT (putK kvs (wkey k z) (.ref E)))) := sm5.putN hbD
        have hl6 := length_putK kvs (wkey k z) (.ref E)
        have hv6 : valV (putK kvs (wkey k z) (.ref E)) (wkey k z) = some (.ref E) := by rw [valV_put, if_pos rfl]
        obtain ⟨b, as5, eb, hb0, hb5, hbT⟩ := pl6.yes _ _ _ hv6
        obtain rfl : E = b := by cases eb; rfl
        generalize putK kvs (wkey k z) (.ref E) = kvs6 at pl6 sm6 hl6 hv6 hb5 hbT ⊢
        generalize upd H5 D (.dT kvs6) = H6 at pl6 sm6 hb5 hbT ⊢
        refine ⟨.inl ⟨rfl, _, SqL.of hb5⟩, ?_⟩
        walk_at "vc"
        refine ⟨show 2 ≤ sizeLine by decide, fun t ht => ?_⟩
        walk_at "vc"
        have mo := PLs.more (w := ⟨k, z, nn, pp⟩) pl6 sm6 hv6 hb5 hbT ht
        rw [List.map_append] at mo
        refine x_append (by rw [upd_ne (ne_of_none hb5 ht)]; exact hb5) (by rw [hbT.len]; exact Nat.lt_of_le_of_lt (hsl k z) (by decide)) ?_
        exact ⟨kvs6, _, _, _, _, rfl, mo.1, by omega, mo.2⟩
    · rintro σ H3 ⟨kvs, y3, y4, y5, y6, rfl, sm3, hkl, pl3⟩
      rw [List.length_map, hT2.1, List.take_length] at pl3
      walk_at "vc"
      refine ⟨rfl, fun Z hZn => ?_⟩
      generalize e4Z : upd H3 Z (ZO P w Z []) = H4
      replace e4Z := e4Z.symm
      have sm4 : Same H3 H4 := by rw [e4Z]; exact same_upd hZn
      have hZ4 : H4 Z = some (ZO P w Z []) := by rw [e4Z]; exact upd_same
      have smH4 := sHb.trans (sm3.trans sm4)
      walk_at "vc"
      refine ⟨p, _, dx, _, _, rfl, smH4 _ _ e1, TShelf.cl, TShelf.n_seeds, fl5_seeds _ _ _ _ _, ?_⟩
      walk_at "vc"
      refine ⟨sq, o, s.sds, rfl, SqL.of (smH4 _ _ e3), hok.sd, hok.three, ho, fun F asF H5 sm5 hF hF5 hTF => ?_⟩
      have hwl := wo_len (sds := s.sds) ho s.sds.length
      have hwl2 : (wo o s.sds s.sds.length).length ≤ 183 := by have := hok.three; omega
      have hRg : ∀ y ∈ lnA W (wo o s.sds s.sds.length), y.1 < 8 ∧ -60 ≤ y.2 ∧ y.2 ≤ 60 := fun y hy => by
        have := ((hLn y.1 y.2).mp hy).rng hrz ho
        exact ⟨by omega, this.2⟩
      generalize wo o s.sds s.sds.length = ws at hTF hwl2 hLn hRg
      obtain ⟨Hc, hcZ, sHc, sc5, hc5⟩ := erase hZn e4Z sm5
      have plc := pl3.same sHc
      have nFZ : F ≠ Z := fun e => by
        rw [e, hZ4] at hF
        cases hF
      have hFc := hc5 _ _ nFZ hF5
      have hZ5 := sm5 _ _ hZ4
      have hTFc : Tup w3V Hc asF ws := ⟨hTF.1, fun j a q g1 g2 => hc5 _ _ (fun e => by
        have g3 := hTF.2 j a q g1 g2
        rw [e, hZ5] at g3
        cases g3) (hTF.2 j a q g1 g2)⟩
      walk_at "vc"
      refine ⟨F, rfl, ⟨_, SqL.of hF5⟩, ?_⟩
      refine for_list (K := K) (a := F) (xs := asF.map V.ref) (fun j σ H' => ∃ (L : Mem) (y3 y4 y5 y6 y8 : Option V), σ = [some (.ref p), some (.str (S o)), some (.ref D), y3, y4, y5, y6, some (.ref Z), y8] ∧ Same Hc H' ∧ H' Z = some (ZO P w Z L) ∧ Zl H' L (lnA W (ws.take j))) ⟨[], _, _, _, _, _, rfl, sc5, hZ5, Zl.nil⟩ (fun j σ H' _ ⟨_, _, _, _, _, _, _, sm, _⟩ => SqL.of (sm _ _ hFc)) ?_ ?_
      · rintro j x σ H6 hx ⟨L, y3, y4, y5, y6, y8, rfl, sm6, hZ6, zl6⟩
        have hj : j < asF.length := by
          have := (List.getElem?_eq_some_iff.mp hx).1
          rw [List.length_map] at this
          exact this
        have hjW : j < ws.length := by rw [← hTF.1]; exact hj
        obtain rfl : x = .ref asF[j] := by
          rw [List.getElem?_map, List.getElem?_eq_getElem hj] at hx
          exact (Option.some.inj hx).symm
        have htj := sm6 _ _ (hTFc.2 j _ ws[j] (List.getElem?_eq_getElem hj) (List.getElem?_eq_getElem hjW))
        have elA : lnA W (ws.take (j + 1)) = lnA W (ws.take j) ++ (selW W ws[j].1 ws[j].2.1).map fun r => (r.1, (r.2 : Int) - (ws[j].2.2 : Nat)) := by
          rw [List.take_succ_eq_append_getElem hjW]
          unfold lnA
          rw [List.flatMap_append]
          simp
        have hin : ∀ y ∈ lnA W (ws.take (j + 1)), y.1 < 8 ∧ -60 ≤ y.2 ∧ y.2 ≤ 60 := fun y hy => hRg y (by
          unfold lnA at hy ⊢
          obtain ⟨q, hq, h⟩ := List.mem_flatMap.mp hy
          exact List.mem_flatMap.mpr ⟨q, List.mem_of_mem_take hq, h⟩)
        rw [elA] at hin ⊢
        generalize lnA W (ws.take j) = Y at zl6 hin ⊢
        generalize ws[j] = ww at htj hin ⊢
        obtain ⟨k, z, b⟩ := ww
        have htj : H6 asF[j] = some (.tup [.int (k : Nat), .str (S z), .int (b : Nat)]) := htj
        refine x_gTup (SqT.of htj) rfl ?_
        walk_at "vc"
        have pl6 := plc.same sm6
        refine ⟨D, rfl, .inr ⟨kvs, .inl pl6.d⟩, ?_⟩
        walk_at "vc"
        refine ⟨show 2 ≤ sizeLine by decide, fun T hTn => ?_⟩
        have s7 : Same H6 (upd H6 T (.tup ((wkey k z).map kV))) := same_upd hTn
        have hTT : upd H6 T (.tup ((wkey k z).map kV)) T = some (.tup ((wkey k z).map kV)) := upd_same
        show _ ; change tLst _ _ (upd H6 T (.tup ((wkey k z).map kV))) _
        generalize upd H6 T (.tup ((wkey k z).map kV)) = H7 at s7 hTT ⊢
        have sm7 := sm6.trans s7
        have pl7 := pl6.same s7
        walk_at "vc"
        refine ⟨by decide, fun E hEn => ?_⟩
        have s8 : Same H7 (upd H7 E (.lst [])) := same_upd hEn
        have hEE : upd H7 E (.lst []) E = some (.lst []) := upd_same
        generalize upd H7 E (.lst []) = H8 at s8 hEE ⊢
        have sm8 := sm7.trans s8
        have pl8 := pl7.same s8
        have hZ8 := s8 _ _ (s7 _ _ hZ6)
        have zl8 : Zl H8 L Y := zl6.keep fun b xs e => s8 _ _ (s7 _ _ e)
        refine ⟨_, DGet.t pl8.d (s8 _ _ hTT), ?_⟩
        obtain ⟨B, asB, eB, hB, hTB⟩ : ∃ B asB, (valV kvs (wkey k z)).getD (.ref E) = .ref B ∧ H8 B = some (.lst (asB.map V.ref)) ∧ Tup npV H8 asB (selW W k z) := by
          cases ev : valV kvs (wkey k z) with
          | none => exact ⟨E, [], rfl, hEE, by rw [pl8.no _ _ ev]; exact Tup.nil⟩
          | some v =>
            obtain ⟨b', as', e1, _, e3, e4⟩ := pl8.yes _ _ _ ev
            exact ⟨b', as', e1, e3, e4⟩
        rw [eB]
        have nBZ : B ≠ Z := fun e => by
          rw [e, hZ8] at hB
          cases hB
        refine ⟨B, rfl, ⟨_, SqL.of hB⟩, ?_⟩
        generalize selW W k z = R at hTB hin ⊢
        refine for_list (K := K) (a := B) (xs := asB.map V.ref) (fun i σ H' => ∃ (L : Mem) (y5 y6 : Option V), σ = [some (.ref p), some (.str (S o)), some (.ref D), some (.int (k : Nat)), some (.str (S z)), y5, y6, some (.ref Z), some (.int (b : Nat))] ∧ K1 Z H8 H' ∧ H' Z = some (ZO P w Z L) ∧ Zl H' L (Y ++ (R.take i).map fun r => (r.1, (r.2 : Int) - (b : Nat)))) ⟨L, _, _, rfl, (fun b o _ e => e), hZ8, by rw [List.take_zero, List.map_nil, List.append_nil]; exact zl8⟩ (fun i σ H' _ ⟨_, _, _, _, k1, _⟩ => SqL.of (k1 _ _ nBZ hB)) ?_ ?_
        · rintro i x σ H9 hx ⟨L9, y5, y6, rfl, k9, hZ9, zl9⟩
          have hi : i < asB.length := by
            have := (List.getElem?_eq_some_iff.mp hx).1
            rw [List.length_map] at this
            exact this
          have hiR : i < R.length := by rw [← hTB.1]; exact hi
          obtain rfl : x = .ref asB[i] := by
            rw [List.getElem?_map, List.getElem?_eq_getElem hi] at hx
            exact (Option.some.inj hx).symm
          have hti0 := hTB.2 i _ R[i] (List.getElem?_eq_getElem hi) (List.getElem?_eq_getElem hiR)
          have hti := k9 _ _ (fun e => by
            rw [e, hZ8] at hti0
            cases hti0) hti0
          have hnum := zl9.num fun y hy => hin y (by
            rcases List.mem_append.mp hy with g | g
            · exact List.mem_append.mpr (.inl g)
            · obtain ⟨r, hr, e⟩ := List.mem_map.mp g
              exact List.mem_append.mpr (.inr (List.mem_map.mpr ⟨r, List.mem_of_mem_take hr, e⟩)))
          rw [List.take_succ_eq_append_getElem hiR, List.map_append, ← List.append_assoc]
          generalize Y ++ (R.take i).map (fun r => (r.1, (r.2 : Int) - ((b : Nat) : Int))) = Y2 at zl9 ⊢
          generalize R[i] = rr at hti ⊢
          obtain ⟨nn, pp⟩ := rr
          have hti : H9 asB[i] = some (.tup [.int (nn : Nat), .int (pp : Nat)]) := hti
          refine x_gTup (SqT.of hti) rfl ?_
          walk_at "vc"
          refine ⟨⟨Z, L9, rfl, hZ9, fun q hq => SqT.of (zl9.tp q hq)⟩, ?_⟩
          walk_at "vc"
          refine ⟨show 2 ≤ sizeLine by decide, fun t ht => ?_⟩
          walk_at "vc"
          have hZt : Z ≠ t := ne_of_none hZ9 ht
          refine ⟨Z, t, lnK (nn, (pp : Int) - ((b : Nat) : Int)), L9, rfl, rfl, (upd_ne hZt).trans hZ9, SqT.of upd_same, fun q hq => SqT.of ((upd_ne (ne_of_none (zl9.tp q hq) ht)).trans (zl9.tp q hq)), Nat.lt_of_le_of_lt hnum (by decide), fun L' c1 c2 => ?_⟩
          have kZ : K1 Z H9 (upd (upd H9 t (.tup ((lnK (nn, (pp : Int) - ((b : Nat) : Int))).map V.int))) Z (ZO P w Z L')) := (K1.of (same_upd ht)).trans K1.at
          refine ⟨L', _, _, rfl, k9.trans kZ, upd_same, zl9.add (fun b' xs e => kZ _ _ (ne_of e hZ9 (by intro x; cases x)) e) ?_ c1 c2⟩
          rw [upd_ne hZt.symm, upd_same]
          rfl
        · rintro σ H9 ⟨L9, y5, y6, rfl, k9, hZ9, zl9⟩
          rw [List.length_map, hTB.1, List.take_length] at zl9
          exact ⟨L9, _, _, _, _, _, rfl, k9.same hcZ sm8, hZ9, zl9⟩
      · rintro σ H6 ⟨L, y3, y4, y5, y6, y8, rfl, sm6, hZ6, zl6⟩
        rw [List.length_map, hTF.1, List.take_length] at zl6
        walk_at "vc"
        refine ⟨Z, L, rfl, hZ6, fun q hq => SqT.of (zl6.tp q hq), fun q hq e => ?_, fun M r2 pm nd hr2 => ?_⟩
        · obtain ⟨y, _, e2⟩ := (zl6.mem q.2).mp (List.mem_map.mpr ⟨q, hq, rfl⟩)
          rw [e] at e2
          cases e2
        · obtain ⟨LN, hTL, hpw, hmm⟩ := zl6.up pm
          have smF : Same H6 (upd H6 r2 (.lst ((M.mergeSort (PySem.W.dataLe false fun q => intsD q.2)).map fun q => V.ref q.1))) := same_upd hr2
          have smA : Same H H6 := (sHb.trans (sm3.trans sHc)).trans sm6
          refine q _ r2 ((M.mergeSort (PySem.W.dataLe false fun q => intsD q.2)).map (·.1)) LN (smA.trans smF) (same_none smA hr2) ?_ (hTL.same smF) hpw fun n d => by rw [hmm]; exact hLn n d
          rw [upd_same, List.map_map]
          rfl


theorem okShelf_find {f : Addr} {fd : FuncData} {aTooLow : Addr} {cShelf fiShelf : Addr} {fneed_row : Addr} {fdneed_row : FuncData} {fneed_above : Addr} {fdneed_above : FuncData} {flane_reaches : Addr} {fdlane_reaches : FuncData} {fShelf__seeded_lanes : Addr} {fdShelf__seeded_lanes : FuncData} (F : Fun K "find" "Shelf.find" sShelf_find f fd) (B : Bl mg) (TShelf : KlShelf K mg cShelf fiShelf) (Dneed_row : Dn P w K mg base "need_row" 1 ["row", "letters"] (spneed_row K) fneed_row fdneed_row) (Dneed_above : DnX P w K mg base "need_above" 3 ["told", "limit"] (spneed_above K aTooLow) fneed_above fdneed_above) (Dlane_reaches : Dn P w K mg base "lane_reaches" 4 ["one", "other", "shift", "scale", "told"] (splane_reaches K) flane_reaches fdlane_reaches) (DShelf__seeded_lanes : Dm P w K mg base cShelf "_seeded_lanes" 4 ["self", "row"] (spShelf__seeded_lanes K cShelf) fShelf__seeded_lanes fdShelf__seeded_lanes) : FnOk P w K mg base (L2.CX P w) 5 f fd ["self", "row", "told"] (spShelf_find K aTooLow cShelf) := by
  refine F.okX scShelf_find (fun vs H Q E h => ?_) (fun cdv A outer s H vs Q E hr h => ?_)
  · first
      | (obtain ⟨_, rfl, _⟩ := h; rfl)
      | (obtain ⟨_, _, rfl, _⟩ := h; rfl)
      | (obtain ⟨_, _, _, rfl, _⟩ := h; rfl)
      | (obtain ⟨_, _, _, _, rfl, _⟩ := h; rfl)
      | (obtain ⟨_, _, _, _, _, rfl, _⟩ := h; rfl)
      | (obtain ⟨_, _, _, _, _, _, rfl, _⟩ := h; rfl)
      | (obtain ⟨_, _, _, _, _, _, _, rfl, _⟩ := h; rfl)
      | (obtain ⟨_, _, _, _, _, _, _, _, rfl, _⟩ := h; rfl)
      | (obtain ⟨_, _, _, _, _, _, _, _, _, rfl, _⟩ := h; rfl)
      | (obtain ⟨_, _, _, _, _, _, _, _, _, _, rfl, _⟩ := h; rfl)
      | (obtain ⟨_, _, _, _, _, _, _, _, _, _, _, rfl, _⟩ := h; rfl)
      | (obtain ⟨_, _, _, _, _, _, _, _, _, _, _, _, rfl, _⟩ := h; rfl)
      | (obtain ⟨_, _, _, _, _, _, _, _, _, _, _, _, _, rfl, _⟩ := h; rfl)
      | (obtain ⟨_, _, _, _, _, _, _, _, _, _, _, _, _, _, rfl, _⟩ := h; rfl)
      | (obtain ⟨_, _, _, _, _, _, _, _, _, _, _, _, _, _, _, rfl, _⟩ := h; rfl)
      | (obtain ⟨_, _, _, _, _, _, _, _, _, _, _, _, _, _, _, _, rfl, _⟩ := h; rfl)
      | (obtain ⟨_, _, _, _, _, _, _, _, _, _, _, _, _, _, _, _, _, rfl, _⟩ := h; rfl)
  · obtain ⟨p, foot, s, o, told, rfl, hs, hlets, hrl, hrz, ho, hol, hbo, qa, qe⟩ := h
    obtain ⟨dx, sc, sq, lp, kp, e1, ef, n, e2, e3, e4, e5⟩ := hs.ob
    have hok := hs.ok
    have h1s : Ones s.sds := fun sd h => (hok.sd sd h).one
    refine ⟨_, 
  (pss_cons (ps_expr (pe_call Dneed_row.ok (hr.mono (by decide)) (by rfl) Dneed_row.g Dneed_row.kp Dneed_row.b .nil pass0 (pa_cons (pv 1) (pa_cons (pe_fld (pv 0) rfl) pa_nil)))) 
  (pss_cons (ps_expr (pe_call Dneed_above.ok (hr.mono (by decide)) (by rfl) Dneed_above.g Dneed_above.kp Dneed_above.b .nil (passes_call (takes_of rfl rfl rfl rfl) (fun _ _ _ _ h => h)) (pa_cons (pv 2) (pa_cons (pe_fld (pv 0) rfl) pa_nil)))) (PSs.nox 
  (pss_cons (ps_set (i := 3) scShelf_find.nd rfl (.inl rfl) (pe_lst pa_nil)) 
  (pss_cons (ps_for PassesOwn.never rfl (pi_list (pe_meth (pv 0) TShelf.cl DShelf__seeded_lanes.mt DShelf__seeded_lanes.ok hr DShelf__seeded_lanes.b .nil pass0 (pa_cons (pv 1) pa_nil))) (pg_tup rfl (pgs_cons (pg_name (i := 4) scShelf_find.nd rfl (.inl rfl)) (pgs_cons (pg_name (i := 5) scShelf_find.nd rfl (.inl rfl)) pgs_nil))) 
    (pss_one (ps_for PassesOwn.never rfl (pi_list (pe_call Dlane_reaches.ok hr (by rfl) Dlane_reaches.g Dlane_reaches.kp Dlane_reaches.b .nil pass0 (pa_cons (pv 1) (pa_cons (pe_ix ix_list (pe_fld (pv 0) rfl) (pv 4) (fun _ _ => rfl)) (pa_cons (pv 5) (pa_cons (pe_fld (pv 0) rfl) (pa_cons (pv 2) pa_nil))))))) (pg_tup rfl (pgs_cons (pg_name (i := 6) scShelf_find.nd rfl (.inl rfl)) (pgs_cons (pg_name (i := 7) scShelf_find.nd rfl (.inl rfl)) (pgs_cons (pg_name (i := 8) scShelf_find.nd rfl (.inl rfl)) pgs_nil)))) 
      (pss_one (ps_expr (pe_bm PySem.F.plainAttrs_list PySem.F.slot_list_append PySem.F.type_list_append mt_append (pv 3) (pa_cons (pe_tup (pa_cons (pv 4) (pa_cons (pv 5) (pa_cons (pv 6) (pa_cons (pv 7) (pa_cons (pv 8) pa_nil)))))) pa_nil))))))) 
  (pss_one (ps_ret (pv 3)))))))), ?_⟩
    walk_at "vc"
    refine ⟨p, _, dx, _, _, rfl, e1, TShelf.cl, TShelf.n_letters, fl5_letters _ _ _ _ _, ?_⟩
    walk_at "vc"
    refine ⟨o, s.lets, rfl, ho, hol, ?_⟩
    walk_at "vc"
    refine ⟨p, _, dx, _, _, rfl, e1, TShelf.cl, TShelf.n_limit, fl5_limit _ _ _ _ _, ?_⟩
    walk_at "vc"
    refine ⟨told, lp, barM s.sds s.g s.l, rfl, SqT.of e4, fun ha => ?_, fun hn dd H' sm hd => qe hn dd lp H' sm hd (sm _ _ e4)⟩
    have q := qa ha
    obtain ⟨m, z, hb, hm⟩ := ha
    have hbar : IsBar s.sds s.g s.l m z := by
      rw [hb] at hbo
      exact hbo
    walk_at "vc"
    refine ⟨by decide, fun fp hfp => ?_⟩
    have sm1 : Same H (upd H fp (.lst [])) := same_upd hfp
    have hfp1 : upd H fp (.lst []) fp = some (.lst []) := upd_same
    generalize upd H fp (.lst []) = H1 at sm1 hfp1
    walk_at "vc"
    obtain ⟨dx', fs, i1, i⟩ := hs.ins
    have ilk : fs.lookup ("_seeded_lanes" : Str) = none := by
      obtain ⟨_, _, _, _, _, _, _, _, x⟩ := i
      exact x
    refine ⟨p, dx', fs, rfl, sm1 _ _ i1, ilk, ?_⟩
    walk_at "vc"
    refine ⟨p, foot, s, o, rfl, hs.same (fun b _ o e => sm1 b o e) (fun b xs e => sm1 b _ e), hrl, hrz, ho, fun H2 r as LN sm2 hr1 hr2 hT2 hup hin => ?_⟩
    have hLl := LN_len hup hin hrz ho hrl
    have hfl := flL_due (told := told) (o := o) (rows := s.rows) h1s hbar hm hup hin
    have hLr : ∀ q ∈ LN, q.1 < s.rows.length ∧ -60 ≤ q.2 ∧ q.2 ≤ 60 := fun q hq => ((hin q.1 q.2).mp hq).rng hrz ho
    have hfl2 := flL_len (g := s.g) (l := s.l) (told := told) (rows := s.rows) ho
    walk_at "vc"
    refine ⟨r, rfl, ⟨_, SqL.of hr2⟩, ?_⟩
    have nrf : r ≠ fp := fun e => by
      rw [e, hfp1] at hr1
      cases hr1
    refine for_list (K := K) (a := r) (xs := as.map V.ref) (fun j σ H' => ∃ (bs : List Addr) (y4 y5 y6 y7 y8 : Option V), σ = [some (.ref p), some (.str (S o)), some (.int told), some (.ref fp), y4, y5, y6, y7, y8] ∧ Same H H' ∧ K1 fp H2 H' ∧ H' fp = some (.lst (bs.map V.ref)) ∧ Tup fndV H' bs (flL s.g s.l told o s.rows (LN.take j))) ⟨[], _, _, _, _, _, rfl, sm1.trans sm2, (fun b o _ e => e), sm2 _ _ hfp1, Tup.nil⟩ (fun j σ H' _ ⟨_, _, _, _, _, _, _, _, k, _⟩ => SqL.of (k _ _ nrf hr2)) ?_ ?_
    · rintro j x σ H3 hx ⟨bs, y4, y5, y6, y7, y8, rfl, sm3, k3, hf3, hT3⟩
      have hj : j < as.length := by
        have := (List.getElem?_eq_some_iff.mp hx).1
        rw [List.length_map] at this
        exact this
      have hjL : j < LN.length := by rw [← hT2.1]; exact hj
      obtain rfl : x = .ref as[j] := by
        rw [List.getElem?_map, List.getElem?_eq_getElem hj] at hx
        exact (Option.some.inj hx).symm
      have htj0 := hT2.2 j _ LN[j] (List.getElem?_eq_getElem hj) (List.getElem?_eq_getElem hjL)
      have htj := k3 _ _ (fun e => by
        rw [e, sm2 _ _ hfp1] at htj0
        cases htj0) htj0
      have efl : flL s.g s.l told o s.rows (LN.take (j + 1)) = flL s.g s.l told o s.rows (LN.take j) ++ ((lrL s.g s.l told o (s.rows[LN[j].1]?.getD []) LN[j].2).map fun t => (LN[j].1, (LN[j].2, t.1, t.2.1), t.2.2)) := by
        rw [List.take_succ_eq_append_getElem hjL]
        unfold flL
        rw [List.flatMap_append]
        simp
      rw [efl]
      have hnum : (flL s.g s.l told o s.rows (LN.take j)).length ≤ 60000 := by
        have := hfl2 (LN.take j)
        rw [List.length_take] at this
        omega
      have hLj := hLr _ (List.getElem_mem hjL)
      generalize flL s.g s.l told o s.rows (LN.take j) = F0 at hT3 hnum ⊢
      generalize LN[j] = qq at htj hLj ⊢
      obtain ⟨nn, d⟩ := qq
      dsimp only at hLj
      have htj : H3 as[j] = some (.tup [.int (nn : Nat), .int d]) := htj
      have enn : s.rows[nn]? = some s.rows[nn] := List.getElem?_eq_getElem hLj.1
      have hrow := hrz _ (List.getElem_mem hLj.1)
      have enr : s.rows[nn]?.getD [] = s.rows[nn] := by rw [enn]; rfl
      show _
      rw [enr]
      refine x_gTup (SqT.of htj) rfl ?_
      walk_at "vc"
      refine ⟨p, _, dx, _, _, rfl, sm3 _ _ e1, TShelf.cl, TShelf.n_laid, fl5_laid _ _ _ _ _, ?_⟩
      walk_at "vc"
      refine x_ixL (v := .str (S s.rows[nn])) (SqL.of (sm3 _ _ e5)) (atI_nat (by rw [List.getElem?_map, enn]; rfl)) ?_
      walk_at "vc"
      refine ⟨p, _, dx, _, _, rfl, sm3 _ _ e1, TShelf.cl, TShelf.n_scale, fl5_scale _ _ _ _ _, ?_⟩
      walk_at "vc"
      generalize s.rows[nn] = row at hrow ⊢
      have g1 := hok.g1
      have g2 := hok.g2
      have l1 := hok.l1
      have l2 := hok.l2
      refine ⟨o, row, d, sc, s.g, s.l, told, rfl, SqT.of (sm3 _ _ e2), g1, by omega, l1, by omega, by omega, by omega, by omega, by omega, fun D H4 ds sm4 hD0 hD hTD => ?_⟩
      have hll := lrL_len s.g s.l told o row d
      generalize lrL s.g s.l told o row d = L at hTD hll ⊢
      walk_at "vc"
      refine ⟨D, rfl, ⟨_, SqL.of hD⟩, ?_⟩
      have hf4 := sm4 _ _ hf3
      have nDf : D ≠ fp := fun e => by
        rw [e, hf3] at hD0
        cases hD0
      refine for_list (K := K) (a := D) (xs := ds.map V.ref) (fun i σ H' => ∃ (bs : List Addr) (y6 y7 y8 : Option V), σ = [some (.ref p), some (.str (S o)), some (.int told), some (.ref fp), some (.int (nn : Nat)), some (.int d), y6, y7, y8] ∧ Same H H' ∧ K1 fp H4 H' ∧ H' fp = some (.lst (bs.map V.ref)) ∧ Tup fndV H' bs (F0 ++ (L.take i).map fun t => ((nn, (d, t.1, t.2.1), t.2.2) : Fnd))) ⟨bs, y6, y7, y8, rfl, sm3.trans sm4, (fun b o _ e => e), hf4, (by rw [List.take_zero, List.map_nil, List.append_nil]; exact hT3.same sm4)⟩ (fun i σ H' _ ⟨_, _, _, _, _, _, k, _⟩ => SqL.of (k _ _ nDf hD)) ?_ ?_
      · rintro i x σ H5 hx ⟨bs5, y6, y7, y8, rfl, sm5, k5, hf5, hT5⟩
        have hi : i < ds.length := by
          have := (List.getElem?_eq_some_iff.mp hx).1
          rw [List.length_map] at this
          exact this
        have hiL : i < L.length := by rw [← hTD.1]; exact hi
        obtain rfl : x = .ref ds[i] := by
          rw [List.getElem?_map, List.getElem?_eq_getElem hi] at hx
          exact (Option.some.inj hx).symm
        have hti0 := hTD.2 i _ L[i] (List.getElem?_eq_getElem hi) (List.getElem?_eq_getElem hiL)
        have hti := k5 _ _ (fun e => by
          rw [e, hf4] at hti0
          cases hti0) hti0
        have hn5 : (F0 ++ (L.take i).map fun t => ((nn, (d, t.1, t.2.1), t.2.2) : Fnd)).length ≤ 60100 := by
          rw [List.length_append, List.length_map, List.length_take]
          omega
        rw [List.take_succ_eq_append_getElem hiL, List.map_append, ← List.append_assoc]
        generalize F0 ++ (L.take i).map (fun t => ((nn, (d, t.1, t.2.1), t.2.2) : Fnd)) = F5 at hT5 hn5 ⊢
        generalize L[i] = tt at hti ⊢
        obtain ⟨a, b, c⟩ := tt
        have hti : H5 ds[i] = some (.tup [.int a, .int b, .int c]) := hti
        refine x_gTup (SqT.of hti) rfl ?_
        walk_at "vc"
        refine ⟨.inl ⟨rfl, _, SqL.of hf5⟩, ?_⟩
        walk_at "vc"
        refine ⟨show 5 ≤ sizeLine by decide, fun t ht => ?_⟩
        walk_at "vc"
        have hpush := tup_push (f := fndV) (p := ((nn, (d, a, b), c) : Fnd)) hfp sm5 hf5 hT5 ht
        refine x_append (by rw [upd_ne (ne_of_none hf5 ht)]; exact hf5) (by rw [hT5.len]; exact Nat.lt_of_le_of_lt hn5 (by decide)) ?_
        exact ⟨bs5 ++ [t], _, _, _, rfl, hpush.1, k5.trans ((K1.of (same_upd ht)).trans K1.at), hpush.2.1, hpush.2.2⟩
      · rintro σ H5 ⟨bs5, y6, y7, y8, rfl, sm5, k5, hf5, hT5⟩
        rw [List.length_map, hTD.1, List.take_length] at hT5
        exact ⟨bs5, _, _, _, _, _, rfl, sm5, k3.trans ((K1.of sm4).trans k5), hf5, hT5⟩
    · rintro σ H3 ⟨bs, y4, y5, y6, y7, y8, rfl, sm3, k3, hf3, hT3⟩
      rw [List.length_map, hT2.1, List.take_length, hfl] at hT3
      walk_at "vc"
      exact q _ fp bs sm3 hfp hf3 hT3


theorem okbound {f : Addr} {fd : FuncData} (F : Fun K "bound" "bound" sbound f fd) (B : Bl mg) : FnOk P w K mg base CX0 1 f fd ["one", "other", "scale"] (spbound K) := by
  refine F.ok scbound (fun vs H Q E h => ?_) (fun cdv A outer s H vs Q E hr h => ?_)
  · first
      | (obtain ⟨_, rfl, _⟩ := h; rfl)
      | (obtain ⟨_, _, rfl, _⟩ := h; rfl)
      | (obtain ⟨_, _, _, rfl, _⟩ := h; rfl)
      | (obtain ⟨_, _, _, _, rfl, _⟩ := h; rfl)
      | (obtain ⟨_, _, _, _, _, rfl, _⟩ := h; rfl)
      | (obtain ⟨_, _, _, _, _, _, rfl, _⟩ := h; rfl)
      | (obtain ⟨_, _, _, _, _, _, _, rfl, _⟩ := h; rfl)
      | (obtain ⟨_, _, _, _, _, _, _, _, rfl, _⟩ := h; rfl)
      | (obtain ⟨_, _, _, _, _, _, _, _, _, rfl, _⟩ := h; rfl)
      | (obtain ⟨_, _, _, _, _, _, _, _, _, _, rfl, _⟩ := h; rfl)
      | (obtain ⟨_, _, _, _, _, _, _, _, _, _, _, rfl, _⟩ := h; rfl)
      | (obtain ⟨_, _, _, _, _, _, _, _, _, _, _, _, rfl, _⟩ := h; rfl)
      | (obtain ⟨_, _, _, _, _, _, _, _, _, _, _, _, _, rfl, _⟩ := h; rfl)
      | (obtain ⟨_, _, _, _, _, _, _, _, _, _, _, _, _, _, rfl, _⟩ := h; rfl)
      | (obtain ⟨_, _, _, _, _, _, _, _, _, _, _, _, _, _, _, rfl, _⟩ := h; rfl)
      | (obtain ⟨_, _, _, _, _, _, _, _, _, _, _, _, _, _, _, _, rfl, _⟩ := h; rfl)
      | (obtain ⟨_, _, _, _, _, _, _, _, _, _, _, _, _, _, _, _, _, rfl, _⟩ := h; rfl)
  · obtain ⟨o, t, p, g, l, rfl, hp, ho, ht, g0, g1, q⟩ := h
    refine ⟨_, 
  (pss_cons (ps_asg (pv 2) (pg_tup rfl (pgs_cons (pg_name (i := 3) scbound.nd rfl (.inl rfl)) (pgs_cons (pg_name (i := 4) scbound.nd rfl (.inl rfl)) pgs_nil)))) 
  (pss_one (ps_ret (pe_op op_mul (pv 3) (pe_callB (cr_sum rfl) (by rfl) B.m_sum (by decide +kernel) (pa_cons (pe_lc (own := [("sign", 5)]) (g := gName 5) (tt := tYes) rfl scbound.nd (pi_list (pe_callB (show CallR _ (.builtin "sorted") (rSortTx w) from cr_sortTx rfl hr.units) (by rfl) B.m_sorted (by decide +kernel) (pa_cons (pe_callTy (show CallR _ (.type "set") (rSetTx w) from cr_setTx rfl) (by rfl) B.m_set (by decide +kernel) (pa_cons (pv 0) pa_nil)) pa_nil))) (blkOk_by (N := nbound) (sc := defScope sbound) (by decide +kernel)) (fun _ _ _ _ _ => (pg_name (i := 5) scbound.nd rfl (.inl rfl))) (fun _ _ _ _ _ => pts_nil) (fun _ _ _ _ _ => (pe_callB (call_min2 rfl) (by rfl) B.m_min (by decide +kernel) (pa_cons (pe_m1 PySem.F.slot_str_count PySem.F.type_str_count mt_count (pv 0) (pv 5)) (pa_cons (pe_m1 PySem.F.slot_str_count PySem.F.type_str_count mt_count (pv 1) (pv 5)) pa_nil))))) pa_nil)))))), ?_⟩
    walk_at "vc"
    refine ⟨S o, rfl, by rw [show (S o).cps.size = o.length from len_S o]; omega, fun sp L hL hsp => ?_⟩
    rw [show (S o).cps.toList = o from rfl] at hL
    have sm1 : Same H (upd H sp (ZtO w sp L)) := same_upd hsp
    have hsp1 : upd H sp (ZtO w sp L) sp = some (ZtO w sp L) := upd_same
    have hLn : L.length ≤ 1000 := by
      obtain ⟨cs, e, n1, n2⟩ := uniq_codes hL (.refl _)
      have h1 := congrArg List.length e
      rw [List.length_map, List.length_map] at h1
      have h2 := nat_nodup_len cs o n1 fun c hc => (n2 c).mp hc
      omega
    generalize upd H sp (ZtO w sp L) = H1 at sm1 hsp1
    walk_at "vc"
    refine ⟨sp, L, rfl, hsp1, by omega, fun ys q1 pm hq1 => ?_⟩
    obtain ⟨cs, ecs, n1, n2⟩ := uniq_codes hL pm
    have hcl : cs.length ≤ 1000 := by
      have h2 := nat_nodup_len cs o n1 fun c hc => (n2 c).mp hc
      omega
    rw [ecs]
    have sm2 : Same H1 (upd H1 q1 (.lst ((cs.map sg).map V.str))) := same_upd hq1
    have hq2 : upd H1 q1 (.lst ((cs.map sg).map V.str)) q1 = some (.lst ((cs.map sg).map V.str)) := upd_same
    generalize upd H1 q1 (.lst ((cs.map sg).map V.str)) = H2 at sm2 hq2
    refine x_iListi (SqL.of hq2) ?_
    intro D hD
    refine lc_list (K := K) (a := q1) (xs := (cs.map sg).map V.str) (fun i H' => Same H2 H' ∧ H' D = some (.lst (((cs.take i).map fun c => ((min (o.count c) (t.count c) : Nat) : Int)).map V.int))) ⟨same_upd hD, upd_same⟩ (fun i H' _ h => SqL.of (h.1 _ _ hq2)) ?_ ?_
    · rintro i x H3 hx ⟨sm3, hD3⟩
      rw [List.map_map, List.getElem?_map] at hx
      obtain ⟨c, hc, ex⟩ := Option.map_eq_some_iff.mp hx
      have ex : x = V.str (sg c) := ex.symm
      subst ex
      have hi := (List.getElem?_eq_some_iff.mp hc).1
      walk_at "vc"
      refine ⟨rfl, ?_⟩
      walk_at "vc"
      rw [show Txt.count (S o) (sg c) = ((o.count c : Nat) : Int) by rw [count_sign, tl_S], show Txt.count (S t) (sg c) = ((t.count c : Nat) : Int) by rw [count_sign, tl_S]]
      have em : (if ((t.count c : Nat) : Int) < ((o.count c : Nat) : Int) then ((t.count c : Nat) : Int) else ((o.count c : Nat) : Int)) = ((min (o.count c) (t.count c) : Nat) : Int) := by
        split <;> omega
      rw [em]
      refine ⟨_, hD3, ?_, fun b o e => ?_, ?_⟩
      · rw [List.length_map, List.length_map, List.length_take]
        exact Nat.lt_of_le_of_lt (by omega : _ ≤ 1000) (by decide)
      · rw [upd_ne (ne_of_none e hD)]
        exact sm3 b o e
      · rw [upd_same, List.take_succ, hc]
        simp
    · rintro H3 ⟨sm3, hD3⟩
      rw [List.length_map, List.length_map, List.take_length] at hD3
      refine ⟨D, _, rfl, SqL.of hD3, ?_⟩
      have es : (cs.map fun c => ((min (o.count c) (t.count c) : Nat) : Int)).sum = ((cm o t : Nat) : Int) := by
        rw [← cmS_cm n1 fun c hc => (n2 c).mpr hc]
        unfold cmS
        clear hD3 hq2 hcl n1 n2 ecs
        induction cs with
        | nil => rfl
        | cons c cs ih =>
          rw [List.map_cons, List.map_cons, List.sum_cons, List.sum_cons, ih]
          omega
      rw [es]
      walk_at "vc"
      exact q H3 (sm1.trans (sm2.trans sm3))


theorem ok_greatest_worths {f : Addr} {fd : FuncData} (F : Fun K "_greatest_worths" "_greatest_worths" s_greatest_worths f fd) (B : Bl mg) : FnOk P w K mg base CX0 1 f fd ["stretches"] (sp_greatest_worths K) := by
  refine F.ok sc_greatest_worths (fun vs H Q E h => ?_) (fun cdv A outer s H vs Q E hr h => ?_)
  · first
      | (obtain ⟨_, rfl, _⟩ := h; rfl)
      | (obtain ⟨_, _, rfl, _⟩ := h; rfl)
      | (obtain ⟨_, _, _, rfl, _⟩ := h; rfl)
      | (obtain ⟨_, _, _, _, rfl, _⟩ := h; rfl)
      | (obtain ⟨_, _, _, _, _, rfl, _⟩ := h; rfl)
      | (obtain ⟨_, _, _, _, _, _, rfl, _⟩ := h; rfl)
      | (obtain ⟨_, _, _, _, _, _, _, rfl, _⟩ := h; rfl)
      | (obtain ⟨_, _, _, _, _, _, _, _, rfl, _⟩ := h; rfl)
      | (obtain ⟨_, _, _, _, _, _, _, _, _, rfl, _⟩ := h; rfl)
      | (obtain ⟨_, _, _, _, _, _, _, _, _, _, rfl, _⟩ := h; rfl)
      | (obtain ⟨_, _, _, _, _, _, _, _, _, _, _, rfl, _⟩ := h; rfl)
      | (obtain ⟨_, _, _, _, _, _, _, _, _, _, _, _, rfl, _⟩ := h; rfl)
      | (obtain ⟨_, _, _, _, _, _, _, _, _, _, _, _, _, rfl, _⟩ := h; rfl)
      | (obtain ⟨_, _, _, _, _, _, _, _, _, _, _, _, _, _, rfl, _⟩ := h; rfl)
      | (obtain ⟨_, _, _, _, _, _, _, _, _, _, _, _, _, _, _, rfl, _⟩ := h; rfl)
      | (obtain ⟨_, _, _, _, _, _, _, _, _, _, _, _, _, _, _, _, rfl, _⟩ := h; rfl)
      | (obtain ⟨_, _, _, _, _, _, _, _, _, _, _, _, _, _, _, _, _, rfl, _⟩ := h; rfl)
  · obtain ⟨p, as, L, rfl, hp, hT, h0, hll, q⟩ := h
    refine ⟨_, 
  (pss_cons (ps_set (i := 1) sc_greatest_worths.nd rfl (.inl rfl) pe_dnewK) 
  (pss_cons (ps_for PassesOwn.never rfl (pi_list (pv 0)) (pg_name (i := 2) sc_greatest_worths.nd rfl (.inl rfl)) 
    (pss_cons (ps_par (i := 3) (j := 4) (by rfl) sc_greatest_worths.nd rfl rfl (by decide) rfl rfl (pa_cons (pe_ix ix_tup (pv 2) pe_int (fun _ _ => rfl)) (pa_cons (pe_ix ix_tup (pv 2) pe_int (fun _ _ => rfl)) pa_nil)) (by rfl)) 
    (pss_one (ps_dput (hu_of hr) (pv 1) (pv 3) (pe_callB (call_max2 rfl) (by rfl) B.m_max (by decide +kernel) (pa_cons (pv 4) (pa_cons (pe_dget2 (hu_of hr) (pv 1) (pv 3) pe_int ⟨rfl, rfl, rfl, rfl⟩) pa_nil))) rfl)))) 
  (pss_one (ps_ret (pv 1))))), ?_⟩
    walk_at "vc"
    intro D hD
    have sm1 : Same H (upd H D (.dK [])) := same_upd hD
    have hD1 : upd H D (.dK []) D = some (.dK []) := upd_same
    generalize upd H D (.dK []) = H1 at sm1 hD1
    walk_at "vc"
    refine ⟨p, rfl, ⟨_, SqL.of (sm1 _ _ hp)⟩, ?_⟩
    refine for_list (K := K) (a := p) (xs := as.map V.ref) (fun j σ H' => ∃ (kvs : List (Key × V)) (y2 y3 y4 : Option V), σ = [some (.ref p), some (.ref D), y2, y3, y4] ∧ Same H H' ∧ kvs.length ≤ j ∧ H' D = some (.dK kvs) ∧ GW kvs (L.take j)) ⟨[], _, _, _, rfl, sm1, Nat.le_refl _, hD1, GW.nil⟩ (fun j σ H' _ ⟨_, _, _, _, _, sm, _⟩ => SqL.of (sm _ _ hp)) ?_ ?_
    · rintro j x σ H3 hx ⟨kvs, y2, y3, y4, rfl, sm3, hkl, hD3, gw⟩
      have hj : j < as.length := by
        have := (List.getElem?_eq_some_iff.mp hx).1
        rw [List.length_map] at this
        exact this
      have hjL : j < L.length := by rw [← hT.1]; exact hj
      obtain rfl : x = .ref as[j] := by
        rw [List.getElem?_map, List.getElem?_eq_getElem hj] at hx
        exact (Option.some.inj hx).symm
      have htj := sm3 _ _ (hT.2 j _ L[j] (List.getElem?_eq_getElem hj) (List.getElem?_eq_getElem hjL))
      rw [List.take_succ_eq_append_getElem hjL]
      have h0t : ∀ q ∈ L.take j, 0 ≤ q.2.2 := fun q hq => h0 q (List.mem_of_mem_take hq)
      have h0q := h0 _ (List.getElem_mem hjL)
      generalize L.take j = L1 at gw h0t ⊢
      generalize L[j] = ww at htj h0q ⊢
      obtain ⟨n, ⟨d, b, e⟩, wq⟩ := ww
      have htj : H3 as[j] = some (.tup [.int (n : Nat), .int d, .int b, .int e, .int wq]) := htj
      walk_at "vc"
      refine ⟨D, rfl, .inl ⟨kvs, .inl hD3⟩, ?_⟩
      walk_at "vc"
      refine ⟨valV kvs (.inl (n : Int)), DGet.k (k := .inl (n : Int)) hD3, ?_⟩
      obtain ⟨x, ex, hx1, hx2⟩ : ∃ x : Int, (valV kvs (.inl (n : Int))).getD (.int 0) = .int x ∧ (valV kvs (.inl (n : Int)) = none → x = 0) ∧ ∀ x', valV kvs (.inl (n : Int)) = some (.int x') → x = x' := by
        cases ev : valV kvs (.inl (n : Int)) with
        | none => exact ⟨0, rfl, fun _ => rfl, fun x' h => nomatch h⟩
        | some v =>
          obtain ⟨m, rfl, _⟩ := gw.yes n v ev
          exact ⟨m, rfl, (fun h => nomatch h), fun x' h => V.int.inj (Option.some.inj h)⟩
      rw [ex]
      refine ⟨wq, x, rfl, ?_⟩
      walk_at "vc"
      have hpl := length_putK kvs (.inl (n : Int)) (.int (if x > wq then x else wq))
      refine ⟨D, _, rfl, DPut.k (k := .inl (n : Int)) hD3 (Nat.lt_of_le_of_lt (show kvs.length ≤ 100000 by omega) (by decide)), ?_⟩
      have h0q : 0 ≤ wq := h0q
      refine ⟨_, _, _, _, rfl, sm3.putN hD, by omega, upd_same, gw.step (q := (n, (d, b, e), wq)) h0t h0q (fun hn => ?_) fun x' hx' => ?_⟩
      · rw [hx1 hn]
        show (if (0 : Int) > wq then 0 else wq) = wq
        rw [if_neg (by omega)]
      · rw [hx2 x' hx']
        show (if x' > wq then x' else wq) = max wq x'
        by_cases hc : x' > wq
        · rw [if_pos hc]; omega
        · rw [if_neg hc]; omega
    · rintro σ H3 ⟨kvs, y2, y3, y4, rfl, sm3, hkl, hD3, gw⟩
      rw [List.length_map, hT.1, List.take_length] at gw
      walk_at "vc"
      exact q D kvs H3 sm3 hD hD3 gw


theorem okpairs {f : Addr} {fd : FuncData} {aTooLow : Addr} {cShelf fiShelf : Addr} {fneed_above : Addr} {fdneed_above : FuncData} {f_greatest_worths : Addr} {fd_greatest_worths : FuncData} {fbound : Addr} {fdbound : FuncData} {fShelf_rows : Addr} {fdShelf_rows : FuncData} {fShelf_find : Addr} {fdShelf_find : FuncData} (F : Fun K "pairs" "pairs" spairs f fd) (B : Bl mg) (TShelf : KlShelf K mg cShelf fiShelf) (Dneed_above : DnX P w K mg base "need_above" 3 ["told", "limit"] (spneed_above K aTooLow) fneed_above fdneed_above) (D_greatest_worths : Dn P w K mg base "_greatest_worths" 1 ["stretches"] (sp_greatest_worths K) f_greatest_worths fd_greatest_worths) (Dbound : Dn P w K mg base "bound" 1 ["one", "other", "scale"] (spbound K) fbound fdbound) (DShelf_rows : Dm P w K mg base cShelf "rows" 1 ["self"] (spShelf_rows K cShelf) fShelf_rows fdShelf_rows) (DShelf_find : DmX P w K mg base cShelf "find" 5 ["self", "row", "told"] (spShelf_find K aTooLow cShelf) fShelf_find fdShelf_find) : FnOk P w K mg base (L2.CX P w) 6 f fd ["shelf", "told"] (sppairs K aTooLow cShelf) := by
  refine F.okX scpairs (fun vs H Q E h => ?_) (fun cdv A outer s H vs Q E hr h => ?_)
  · first
      | (obtain ⟨_, rfl, _⟩ := h; rfl)
      | (obtain ⟨_, _, rfl, _⟩ := h; rfl)
      | (obtain ⟨_, _, _, rfl, _⟩ := h; rfl)
      | (obtain ⟨_, _, _, _, rfl, _⟩ := h; rfl)
      | (obtain ⟨_, _, _, _, _, rfl, _⟩ := h; rfl)
      | (obtain ⟨_, _, _, _, _, _, rfl, _⟩ := h; rfl)
      | (obtain ⟨_, _, _, _, _, _, _, rfl, _⟩ := h; rfl)
      | (obtain ⟨_, _, _, _, _, _, _, _, rfl, _⟩ := h; rfl)
      | (obtain ⟨_, _, _, _, _, _, _, _, _, rfl, _⟩ := h; rfl)
      | (obtain ⟨_, _, _, _, _, _, _, _, _, _, rfl, _⟩ := h; rfl)
      | (obtain ⟨_, _, _, _, _, _, _, _, _, _, _, rfl, _⟩ := h; rfl)
      | (obtain ⟨_, _, _, _, _, _, _, _, _, _, _, _, rfl, _⟩ := h; rfl)
      | (obtain ⟨_, _, _, _, _, _, _, _, _, _, _, _, _, rfl, _⟩ := h; rfl)
      | (obtain ⟨_, _, _, _, _, _, _, _, _, _, _, _, _, _, rfl, _⟩ := h; rfl)
      | (obtain ⟨_, _, _, _, _, _, _, _, _, _, _, _, _, _, _, rfl, _⟩ := h; rfl)
      | (obtain ⟨_, _, _, _, _, _, _, _, _, _, _, _, _, _, _, _, rfl, _⟩ := h; rfl)
      | (obtain ⟨_, _, _, _, _, _, _, _, _, _, _, _, _, _, _, _, _, rfl, _⟩ := h; rfl)
  · obtain ⟨p, foot, s, told, rfl, hs, hlets, hrl, hrz, hbo, h1t, qa, qe⟩ := h
    obtain ⟨dx, sc, sq, lp, kp, e1, ef, n, e2, e3, e4, e5⟩ := hs.ob
    have hok := hs.ok
    refine ⟨_, 
  (pss_cons (ps_expr (pe_call Dneed_above.ok (hr.mono (by decide)) (by rfl) Dneed_above.g Dneed_above.kp Dneed_above.b .nil (passes_call (takes_of rfl rfl rfl rfl) (fun _ _ _ _ h => h)) (pa_cons (pv 1) (pa_cons (pe_fld (pv 0) rfl) pa_nil)))) (PSs.nox 
  (pss_cons (ps_set (i := 2) scpairs.nd rfl (.inl rfl) (pe_meth0 (pv 0) TShelf.cl DShelf_rows.mt DShelf_rows.ok (hr.mono (by decide)) DShelf_rows.b .nil pass0)) 
  (pss_cons (ps_set (i := 3) scpairs.nd rfl (.inl rfl) (pe_lst pa_nil)) 
  (pss_cons (ps_set (i := 4) scpairs.nd rfl (.inl rfl) (pe_lst pa_nil)) 
  (pss_cons (ps_set (i := 5) scpairs.nd rfl (.inl rfl) (pe_lst pa_nil)) 
  (pss_cons (ps_for PassesOwn.never rfl (pi_enum (by rfl) B.m_enumerate (pa_cons (pv 2) pa_nil)) (pg_tup rfl (pgs_cons (pg_name (i := 6) scpairs.nd rfl (.inl rfl)) (pgs_cons (pg_name (i := 7) scpairs.nd rfl (.inl rfl)) pgs_nil))) 
    (pss_cons (ps_set (i := 8) scpairs.nd rfl (.inl rfl) (pe_call D_greatest_worths.ok (hr.mono (by decide)) (by rfl) D_greatest_worths.g D_greatest_worths.kp D_greatest_worths.b .nil pass0 (pa_cons (pe_meth (pv 0) TShelf.cl DShelf_find.mt DShelf_find.ok hr DShelf_find.b .nil passL (pa_cons (pv 7) (pa_cons (pv 1) pa_nil))) pa_nil))) 
    (pss_one (ps_for PassesOwn.never rfl (pi_range2 rfl B.m_range (pa_cons (pe_op op_add (pv 6) pe_int) (pa_cons (pe_callB call_len_seq (by rfl) B.m_len PySem.boot_len (pa_cons (pv 2) pa_nil)) pa_nil))) (pg_name (i := 9) scpairs.nd rfl (.inl rfl)) 
      (pss_cons (ps_set (i := 10) scpairs.nd rfl (.inl rfl) (pe_call Dbound.ok (hr.mono (by decide)) (by rfl) Dbound.g Dbound.kp Dbound.b .nil pass0 (pa_cons (pv 7) (pa_cons (pe_ix ix_list (pv 2) (pv 9) (fun _ _ => rfl)) (pa_cons (pe_fld (pv 0) rfl) pa_nil))))) 
      (pss_one (ps_if (pt_cmp (pc_din (hu_of hr) (pv 9) (pv 8))) 
        (pss_one (ps_expr (pe_bm PySem.F.plainAttrs_list PySem.F.slot_list_append PySem.F.type_list_append mt_append (pv 3) (pa_cons (pe_tup (pa_cons (pv 6) (pa_cons (pv 9) (pa_cons (pe_dget (hu_of hr) (pv 8) (pv 9) (fun _ _ => rfl)) pa_nil)))) pa_nil)))) 
        (pss_one (ps_if (pt_cmpR op_lt (pv 10) (pv 1) (nomark _)) 
          (pss_one (ps_expr (pe_bm PySem.F.plainAttrs_list PySem.F.slot_list_append PySem.F.type_list_append mt_append (pv 4) (pa_cons (pe_tup (pa_cons (pv 6) (pa_cons (pv 9) (pa_cons (pv 10) pa_nil)))) pa_nil)))) 
          (pss_one (ps_expr (pe_bm PySem.F.plainAttrs_list PySem.F.slot_list_append PySem.F.type_list_append mt_append (pv 5) (pa_cons (pe_tup (pa_cons (pv 6) (pa_cons (pv 9) pa_nil))) pa_nil))))))))))))) 
  (pss_one (ps_ret (pe_tup (pa_cons (pv 3) (pa_cons (pv 4) (pa_cons (pv 5) pa_nil))))))))))))), ?_⟩
    walk_at "vc"
    refine ⟨p, _, dx, _, _, rfl, e1, TShelf.cl, TShelf.n_limit, fl5_limit _ _ _ _ _, ?_⟩
    walk_at "vc"
    refine ⟨told, lp, barM s.sds s.g s.l, rfl, SqT.of e4, fun ha => ?_, fun hn dd H' sm hd => qe hn dd lp H' sm hd (sm _ _ e4)⟩
    have q : ∀ (H' : Hp) (r F A B : Addr), Same H H' → H r = none → H F = none → H A = none → H B = none → H' r = some (.tup [.ref F, .ref A, .ref B]) → L3 H' F A B (prA (fF s.g s.l told s.rows) s.rows.length s.rows.length) (prA (fL s.g s.l told s.rows) s.rows.length s.rows.length) (prA (fR s.g s.l told s.rows) s.rows.length s.rows.length) → Q (.ref r) H' := fun H' r _ _ _ sm _ _ _ _ _ _ => qa ha H' r sm
    obtain ⟨w, z, hb, hw⟩ := ha
    rw [hb] at hbo e4
    walk_at "vc"
    obtain ⟨dx', fs, i1, _, i3, _⟩ := hs.ins
    refine ⟨p, dx', fs, rfl, i1, i3, ?_⟩
    walk_at "vc"
    refine ⟨p, foot, s, rfl, hs, by omega, fun H1 rp sm1 hrp0 hrp1 => ?_⟩
    walk_at "vc"
    refine ⟨by decide, fun F hF => ?_⟩
    have s2 : Same H1 (upd H1 F (.lst [])) := same_upd hF
    have hF2 : upd H1 F (.lst []) F = some (.lst []) := upd_same
    generalize upd H1 F (.lst []) = H2 at s2 hF2
    walk_at "vc"
    refine ⟨by decide, fun A hA => ?_⟩
    have s3 : Same H2 (upd H2 A (.lst [])) := same_upd hA
    have hA3 : upd H2 A (.lst []) A = some (.lst []) := upd_same
    generalize upd H2 A (.lst []) = H3 at s3 hA3
    walk_at "vc"
    refine ⟨by decide, fun B hB => ?_⟩
    have s4 : Same H3 (upd H3 B (.lst [])) := same_upd hB
    have hB4 : upd H3 B (.lst []) B = some (.lst []) := upd_same
    generalize upd H3 B (.lst []) = H4 at s4 hB4
    have hF3 := s3 _ _ hF2
    have l4 : L3 H4 F A B [] [] [] := ⟨ne_of_none hF2 hA, ne_of_none hF3 hB, ne_of_none hA3 hB, ⟨[], s4 _ _ hF3, Tup.nil⟩, ⟨[], s4 _ _ hA3, Tup.nil⟩, ⟨[], hB4, Tup.nil⟩⟩
    have sm4 : Same H H4 := sm1.trans (s2.trans (s3.trans s4))
    have hF0 := same_none sm1 hF
    have hA0 := same_none (sm1.trans s2) hA
    have hB0 := same_none (sm1.trans (s2.trans s3)) hB
    have hrp4 : H4 rp = some (.lst (s.rows.map strV)) := s4 _ _ (s3 _ _ (s2 _ _ hrp1))
    have nrF : rp ≠ F := ne_of_none hrp1 hF
    have nrA : rp ≠ A := ne_of_none (s2 _ _ hrp1) hA
    have nrB : rp ≠ B := ne_of_none (s3 _ _ (s2 _ _ hrp1)) hB
    have len3 : ∀ m, m ≤ 8 → ∀ k, k ≤ 8 → (prA (fF s.g s.l told s.rows) s.rows.length m ++ prI (fF s.g s.l told s.rows) m (m + 1) k).length ≤ 100 ∧ (prA (fL s.g s.l told s.rows) s.rows.length m ++ prI (fL s.g s.l told s.rows) m (m + 1) k).length ≤ 100 ∧ (prA (fR s.g s.l told s.rows) s.rows.length m ++ prI (fR s.g s.l told s.rows) m (m + 1) k).length ≤ 100 := fun m hm k hk => by
      have hp : s.rows.length * m ≤ 8 * 8 := Nat.mul_le_mul hrl hm
      have a1 := prA_len (fF_len s.g s.l told s.rows) s.rows.length m
      have a2 := prA_len (fL_len s.g s.l told s.rows) s.rows.length m
      have a3 := prA_len (fR_len s.g s.l told s.rows) s.rows.length m
      have b1 := prI_len (fF_len s.g s.l told s.rows) m (m + 1) k
      have b2 := prI_len (fL_len s.g s.l told s.rows) m (m + 1) k
      have b3 := prI_len (fR_len s.g s.l told s.rows) m (m + 1) k
      refine ⟨?_, ?_, ?_⟩
      · rw [List.length_append]; omega
      · rw [List.length_append]; omega
      · rw [List.length_append]; omega
    walk_at "vc"
    refine ⟨rp, _, rfl, SqL.of hrp4, ?_⟩
    refine for_it (walk_enum (xs := s.rows.map strV)) (fun m σ H' => ∃ (y6 y7 y8 y9 y10 : Option V), σ = [some (.ref p), some (.int told), some (.ref rp), some (.ref F), some (.ref A), some (.ref B), y6, y7, y8, y9, y10] ∧ Same H H' ∧ K3 F A B H4 H' ∧ L3 H' F A B (prA (fF s.g s.l told s.rows) s.rows.length m) (prA (fL s.g s.l told s.rows) s.rows.length m) (prA (fR s.g s.l told s.rows) s.rows.length m)) ⟨_, _, _, _, _, rfl, sm4, K3.of (fun _ _ e => e), l4⟩ (fun k σ H' _ ⟨_, _, _, _, _, _, _, k3, _⟩ => SqL.of (k3 _ _ nrF nrA nrB hrp4)) ?_ ?_
    · rintro m x σ H5 H6 hm ⟨y6, y7, y8, y9, y10, rfl, sm5, k5, l5⟩ ⟨T, xa, xb, rfl, hTn, rfl, exa, exb⟩
      rw [List.length_map] at hm
      have hmm : s.rows[m]? = some s.rows[m] := List.getElem?_eq_getElem hm
      have hrm := hrz _ (List.getElem_mem hm)
      obtain rfl : xa = .int (m : Nat) := (Option.some.inj exa).symm
      obtain rfl : xb = .str (S s.rows[m]) := by
        have exb : (s.rows.map strV)[m]? = some xb := exb
        rw [List.getElem?_map, hmm] at exb
        exact (Option.some.inj exb).symm
      have s6 : Same H5 (upd H5 T (.tup [.int (m : Nat), .str (S s.rows[m])])) := same_upd hTn
      have hTT : upd H5 T (.tup [.int (m : Nat), .str (S s.rows[m])]) T = some (.tup [.int (m : Nat), .str (S s.rows[m])]) := upd_same
      generalize upd H5 T (.tup [.int (m : Nat), .str (S s.rows[m])]) = H6 at s6 hTT ⊢
      have sm6 := sm5.trans s6
      have l6 := l5.same s6
      have k6 := k5.trans (K3.of s6)
      refine x_gTup (SqT.of hTT) rfl ?_
      walk_at "vc"
      obtain ⟨dx7, fs7, j1, _, _, _, j5, _⟩ := hs.ins
      refine ⟨p, dx7, fs7, rfl, sm6 _ _ j1, j5, ?_⟩
      walk_at "vc"
      refine ⟨p, foot, s, s.rows[m], told, rfl, hs.same (fun b _ o e => sm6 b o e) (fun b xs e => sm6 b _ e), hlets, hrl, (fun z hz => (hrz z hz).1), hrm.1, hrm.2, (by rw [hb]; exact hbo), fun _ H7 r7 as7 s7 hr70 hr7 hT7 => ?_, fun hn => absurd ⟨w, z, hb, hw⟩ hn⟩
      walk_at "vc"
      refine ⟨r7, as7, _, rfl, hr7, hT7, fun q hq => ?_, Nat.le_trans (dueUp_len hrm.1 (fun z hz => (hrz z hz).1) (by omega)) (by omega), fun D kvs H8 s8 hD0 hD8 gw => ?_⟩
      · obtain ⟨_, h2, h3⟩ := due_in.mp hq
        rw [h3]
        have := ((rchA_told h1t).mp h2).2
        omega
      have sm8 : Same H H8 := sm6.trans (s7.trans s8)
      have k8 : K3 F A B H4 H8 := k6.trans (K3.of (s7.trans s8))
      have l8 := l6.same (s7.trans s8)
      have hrp8 := k8 _ _ nrF nrA nrB hrp4
      have nD : ∀ x xs, H8 x = some (.lst xs) → D ≠ x := fun x xs e => (ne_of hD8 e (by intro x; cases x))
      walk_at "vc"
      refine ⟨⟨by omega, by omega, by rw [List.length_map]; omega, by rw [List.length_map]; omega⟩, ?_⟩
      have en : (((s.rows.map strV).length : Int) - ((m : Int) + 1)).toNat = s.rows.length - (m + 1) := by
        rw [List.length_map]
        omega
      rw [en]
      refine for_range (fun k σ H' => ∃ (y9 y10 : Option V), σ = [some (.ref p), some (.int told), some (.ref rp), some (.ref F), some (.ref A), some (.ref B), some (.int (m : Nat)), some (.str (S s.rows[m])), some (.ref D), y9, y10] ∧ Same H H' ∧ K3 F A B H8 H' ∧ L3 H' F A B (prA (fF s.g s.l told s.rows) s.rows.length m ++ prI (fF s.g s.l told s.rows) m (m + 1) k) (prA (fL s.g s.l told s.rows) s.rows.length m ++ prI (fL s.g s.l told s.rows) m (m + 1) k) (prA (fR s.g s.l told s.rows) s.rows.length m ++ prI (fR s.g s.l told s.rows) m (m + 1) k)) ⟨_, _, rfl, sm8, K3.of (fun _ _ e => e), (by
        rw [show prI (fF s.g s.l told s.rows) m (m + 1) 0 = [] from rfl, show prI (fL s.g s.l told s.rows) m (m + 1) 0 = [] from rfl, show prI (fR s.g s.l told s.rows) m (m + 1) 0 = [] from rfl, List.append_nil, List.append_nil, List.append_nil]
        exact l8)⟩ ?_ ?_
      · rintro k σ H9 hk ⟨y9, y10, rfl, sm9, k9, l9⟩
        obtain ⟨c1, c2, c3⟩ := len3 m (by omega) k (by omega)
        rw [prI_succ, prI_succ, prI_succ, ← List.append_assoc, ← List.append_assoc, ← List.append_assoc]
        generalize prA (fF s.g s.l told s.rows) s.rows.length m ++ prI (fF s.g s.l told s.rows) m (m + 1) k = X at l9 c1 ⊢
        generalize prA (fL s.g s.l told s.rows) s.rows.length m ++ prI (fL s.g s.l told s.rows) m (m + 1) k = Y at l9 c2 ⊢
        generalize prA (fR s.g s.l told s.rows) s.rows.length m ++ prI (fR s.g s.l told s.rows) m (m + 1) k = Z at l9 c3 ⊢
        have ej : (m : Int) + 1 + (k : Int) = ((m + 1 + k : Nat) : Int) := by omega
        rw [ej]
        have hj : m + 1 + k < s.rows.length := by omega
        generalize m + 1 + k = j at hj ⊢
        have hjj : s.rows[j]? = some s.rows[j] := List.getElem?_eq_getElem hj
        have hrj := hrz _ (List.getElem_mem hj)
        have hg := gw_bst h1t gw hj
        have eFF : fF s.g s.l told s.rows m j = if told ≤ bst s.g s.l s.rows[m] s.rows[j] then [(m, j, bst s.g s.l s.rows[m] s.rows[j])] else [] := by
          unfold fF
          rw [hmm, hjj]
          rfl
        have eFL : fL s.g s.l told s.rows m j = if told ≤ bst s.g s.l s.rows[m] s.rows[j] then [] else if s.g * (cm s.rows[m] s.rows[j] : Nat) < told then [(m, j, s.g * (cm s.rows[m] s.rows[j] : Nat))] else [] := by
          unfold fL
          rw [hmm, hjj]
          rfl
        have eFR : fR s.g s.l told s.rows m j = if told ≤ bst s.g s.l s.rows[m] s.rows[j] then [] else if s.g * (cm s.rows[m] s.rows[j] : Nat) < told then [] else [(m, j)] := by
          unfold fR
          rw [hmm, hjj]
          rfl
        rw [eFF, eFL, eFR]
        rw [hjj] at hg
        replace hg : (valV kvs (.inl (j : Int)) = none ∧ ¬ told ≤ bst s.g s.l s.rows[m] s.rows[j]) ∨ (valV kvs (.inl (j : Int)) = some (.int (bst s.g s.l s.rows[m] s.rows[j])) ∧ told ≤ bst s.g s.l s.rows[m] s.rows[j]) := hg
        have hrp9 := k9 _ _ nrF nrA nrB hrp8
        walk_at "vc"
        refine x_ixL (v := .str (S s.rows[j])) (SqL.of hrp9) (atI_nat (by rw [List.getElem?_map, hjj]; rfl)) ?_
        walk_at "vc"
        refine ⟨p, _, dx, _, _, rfl, sm9 _ _ e1, TShelf.cl, TShelf.n_scale, fl5_scale _ _ _ _ _, ?_⟩
        walk_at "vc"
        have g1 := hok.g1
        have g2 := hok.g2
        refine ⟨s.rows[m], s.rows[j], sc, s.g, s.l, rfl, SqT.of (sm9 _ _ e2), by have := hrm.1; omega, by have := hrj.1; omega, by omega, by omega, fun H10 s10 => ?_⟩
        have sm10 := sm9.trans s10
        have k10 := k9.trans (K3.of s10)
        have l10 := l9.same s10
        have hD10 : H10 D = some (.dK kvs) := by
          obtain ⟨_, x1, _⟩ := l8.x
          obtain ⟨_, x2, _⟩ := l8.y
          obtain ⟨_, x3, _⟩ := l8.z
          exact k10 _ _ (nD _ _ x1) (nD _ _ x2) (nD _ _ x3) hD8
        walk_at "vc"
        refine ⟨D, valV kvs (.inl (j : Int)), rfl, DGet.k (k := .inl (j : Int)) hD10, _, rfl, ?_⟩
        obtain ⟨ax, hax, htx⟩ := l10.x
        obtain ⟨ay, hay, hty⟩ := l10.y
        obtain ⟨az, haz, htz⟩ := l10.z
        rcases hg with ⟨ev, hnb⟩ | ⟨ev, hbt⟩
        · rw [ev, show (none : Option V).isSome = false from rfl]
          rw [if_neg hnb, if_neg hnb, if_neg hnb, List.append_nil]
          walk_at "vc"
          refine ite2 (fun e => ?_) (fun e => ?_)
          · have e' : s.g * (cm s.rows[m] s.rows[j] : Nat) < told := of_decide_eq_true e
            rw [if_pos e', if_pos e', List.append_nil]
            walk_at "vc"
            refine ⟨.inl ⟨rfl, _, SqL.of hay⟩, ?_⟩
            walk_at "vc"
            refine ⟨show 3 ≤ sizeLine by decide, fun t ht => ?_⟩
            walk_at "vc"
            have s11 : Same H10 (upd H10 t (.tup (p3V (m, j, s.g * (cm s.rows[m] s.rows[j] : Nat))))) := same_upd ht
            refine x_append (s11 _ _ hay) (by rw [hty.len]; exact Nat.lt_of_le_of_lt c2 (by decide)) ?_
            exact ⟨_, _, rfl, (K3.put (F := F) (A := A) (B := B) (.inr (.inl rfl))).same (sm10.trans s11) hF0 hA0 hB0, k10.trans ((K3.of s11).trans (K3.put (.inr (.inl rfl)))), (l10.same s11).pY (p := (m, j, s.g * (cm s.rows[m] s.rows[j] : Nat))) (s11 _ _ hay) (hty.same s11) upd_same⟩
          · have e' : ¬ s.g * (cm s.rows[m] s.rows[j] : Nat) < told := fun h => e (decide_eq_true h)
            rw [if_neg e', if_neg e', List.append_nil]
            walk_at "vc"
            refine ⟨.inl ⟨rfl, _, SqL.of haz⟩, ?_⟩
            walk_at "vc"
            refine ⟨show 2 ≤ sizeLine by decide, fun t ht => ?_⟩
            walk_at "vc"
            have s11 : Same H10 (upd H10 t (.tup (npV (m, j)))) := same_upd ht
            refine x_append (s11 _ _ haz) (by rw [htz.len]; exact Nat.lt_of_le_of_lt c3 (by decide)) ?_
            exact ⟨_, _, rfl, (K3.put (F := F) (A := A) (B := B) (.inr (.inr rfl))).same (sm10.trans s11) hF0 hA0 hB0, k10.trans ((K3.of s11).trans (K3.put (.inr (.inr rfl)))), (l10.same s11).pZ (p := (m, j)) (s11 _ _ haz) (htz.same s11) upd_same⟩
        · rw [ev, show (some (V.int (bst s.g s.l s.rows[m] s.rows[j]))).isSome = true from rfl]
          rw [if_pos hbt, if_pos hbt, if_pos hbt, List.append_nil, List.append_nil]
          walk_at "vc"
          refine ⟨.inl ⟨rfl, _, SqL.of hax⟩, ?_⟩
          walk_at "vc"
          refine ⟨D, _, rfl, by rw [← ev]; exact DGet.k (k := .inl (j : Int)) hD10, ?_⟩
          walk_at "vc"
          refine ⟨show 3 ≤ sizeLine by decide, fun t ht => ?_⟩
          walk_at "vc"
          have s11 : Same H10 (upd H10 t (.tup (p3V (m, j, bst s.g s.l s.rows[m] s.rows[j])))) := same_upd ht
          refine x_append (s11 _ _ hax) (by rw [htx.len]; exact Nat.lt_of_le_of_lt c1 (by decide)) ?_
          exact ⟨_, _, rfl, (K3.put (F := F) (A := A) (B := B) (.inl rfl)).same (sm10.trans s11) hF0 hA0 hB0, k10.trans ((K3.of s11).trans (K3.put (.inl rfl))), (l10.same s11).pX (p := (m, j, bst s.g s.l s.rows[m] s.rows[j])) (s11 _ _ hax) (htx.same s11) upd_same⟩
      · rintro σ H9 ⟨y9, y10, rfl, sm9, k9, l9⟩
        rw [← prA_succ, ← prA_succ, ← prA_succ] at l9
        exact ⟨_, _, _, _, _, rfl, sm9, k8.trans k9, l9⟩
    · rintro σ H5 ⟨y6, y7, y8, y9, y10, rfl, sm5, k5, l5⟩
      rw [List.length_map] at l5
      walk_at "vc"
      refine ⟨show 3 ≤ sizeLine by decide, fun r hr => ?_⟩
      exact q _ r F A B (sm5.trans (same_upd hr)) (same_none sm5 hr) hF0 hA0 hB0 upd_same (l5.same (same_upd hr))


theorem okunlike_places {f : Addr} {fd : FuncData} {funlike_under : Addr} {fdunlike_under : FuncData} (F : Fun K "unlike_places" "unlike_places" sunlike_places f fd) (B : Bl mg) (Dunlike_under : Dn P w K mg base "unlike_under" 1 ["seed", "likes", "place"] (spunlike_under K) funlike_under fdunlike_under) : FnOk P w K mg base CX0 2 f fd ["seeds", "likes", "first"] (spunlike_places K) := by
  refine F.ok scunlike_places (fun vs H Q E h => ?_) (fun cdv A outer s H vs Q E hr h => ?_)
  · first
      | (obtain ⟨_, rfl, _⟩ := h; rfl)
      | (obtain ⟨_, _, rfl, _⟩ := h; rfl)
      | (obtain ⟨_, _, _, rfl, _⟩ := h; rfl)
      | (obtain ⟨_, _, _, _, rfl, _⟩ := h; rfl)
      | (obtain ⟨_, _, _, _, _, rfl, _⟩ := h; rfl)
      | (obtain ⟨_, _, _, _, _, _, rfl, _⟩ := h; rfl)
      | (obtain ⟨_, _, _, _, _, _, _, rfl, _⟩ := h; rfl)
      | (obtain ⟨_, _, _, _, _, _, _, _, rfl, _⟩ := h; rfl)
      | (obtain ⟨_, _, _, _, _, _, _, _, _, rfl, _⟩ := h; rfl)
      | (obtain ⟨_, _, _, _, _, _, _, _, _, _, rfl, _⟩ := h; rfl)
      | (obtain ⟨_, _, _, _, _, _, _, _, _, _, _, rfl, _⟩ := h; rfl)
      | (obtain ⟨_, _, _, _, _, _, _, _, _, _, _, _, rfl, _⟩ := h; rfl)
      | (obtain ⟨_, _, _, _, _, _, _, _, _, _, _, _, _, rfl, _⟩ := h; rfl)
      | (obtain ⟨_, _, _, _, _, _, _, _, _, _, _, _, _, _, rfl, _⟩ := h; rfl)
      | (obtain ⟨_, _, _, _, _, _, _, _, _, _, _, _, _, _, _, rfl, _⟩ := h; rfl)
      | (obtain ⟨_, _, _, _, _, _, _, _, _, _, _, _, _, _, _, _, rfl, _⟩ := h; rfl)
      | (obtain ⟨_, _, _, _, _, _, _, _, _, _, _, _, _, _, _, _, _, rfl, _⟩ := h; rfl)
  · obtain ⟨sp, sds, z, f', rfl, hsp, hsd, hsl, hz, q⟩ := h
    have zz : (S z).length ≤ sizeLine := hp_sz (by rw [len_S]; omega)
    refine ⟨_, 
  (pss_one (ps_ret (pe_lc2 (own := [("seed", 3), ("place", 4)]) (vs1 := [4]) rfl scunlike_places.nd (pi_list (pv 0)) (blkOk_by (N := nunlike_places) (sc := defScope sunlike_places) (by decide +kernel)) (by decide) (fun _ _ _ _ _ => (pg_name (i := 3) scunlike_places.nd rfl (.inl rfl))) (fun _ _ _ _ _ => pts_nil) (fun _ _ _ _ _ => (pi_range1 rfl B.m_range (pa_cons (pe_op op_add (pe_op op_sub (pe_callB call_len_str (by rfl) B.m_len PySem.boot_len (pa_cons (pv 1) pa_nil)) (pe_callB call_len_str (by rfl) B.m_len PySem.boot_len (pa_cons (pv 3) pa_nil))) pe_int) pa_nil))) (fun _ _ _ _ _ => (pg_name (i := 4) scunlike_places.nd rfl (.inl rfl))) (fun _ _ _ _ _ => pts_nil) (fun _ _ _ _ _ => (pe_lc (own := [("at", 5)]) (g := gName 5) (tt := tYes) rfl scunlike_places.nd (show PI _ _ _ (iList K _) from (pi_list (pe_call Dunlike_under.ok hr (by rfl) Dunlike_under.g Dunlike_under.kp Dunlike_under.b .nil pass0 (pa_cons (pv 3) (pa_cons (pv 1) (pa_cons (pv 4) pa_nil)))))) (blkOk_in (N := nunlike_places) (sc := defScope sunlike_places) rfl rfl (by decide +kernel)) (fun _ _ _ _ _ => (pg_name (i := 5) scunlike_places.nd rfl (.inl rfl))) (fun _ _ _ _ _ => pts_nil) (fun _ _ _ _ _ => (pe_op op_add (pv 2) (pv 5)))))))), ?_⟩
    walk_at "vc"
    refine x_lc2 ?_
    walk_at "vc"
    refine ⟨sp, rfl, ⟨_, hsp⟩, fun D hD => ?_⟩
    have h1s : Ones sds := fun sd h => (hsd sd h).one
    refine lo_it (walk_list (a := sp) (xs := sds.map strV)) (fun i H' => Same H H' ∧ ∃ bs : List Addr, H' D = some (.lst (bs.map V.ref)) ∧ D ∉ bs ∧ Lsn H' bs (upL sds z f' i)) ⟨same_upd hD, [], upd_same, (fun h => by cases h), Lsn.nil⟩ (fun i H' _ h => h.1.seq hsp) ?_ ?_
    · rintro k x H1 H2 hk ⟨sm1, bs1, hD1, nD1, hL1⟩ ⟨rfl, hx⟩
      rw [List.length_map] at hk
      have hkk : sds[k]? = some sds[k] := List.getElem?_eq_getElem hk
      have hm := List.getElem_mem hk
      have hsdk := hsd _ hm
      have ex : x = V.str (S sds[k]) := by
        have hx : (sds.map strV)[k]? = some x := hx
        rw [List.getElem?_map, hkk] at hx
        exact (Option.some.inj hx).symm
      subst ex
      rw [upL_succ, hkk]
      show _ ; dsimp only [Option.getD_some]
      have hwl := upL_len (sds := sds) (f := f') hz k
      generalize sds[k] = sd at hsdk hm
      have hs8 := hsdk.most
      have hs1 := hsdk.one
      have zsd : (S sd).length ≤ sizeLine := hp_sz (by rw [len_S]; omega)
      walk_at "vc"
      refine ⟨rfl, ?_⟩
      walk_at "vc"
      have ls : (S sd).length = sd.length := len_S sd
      have lz2 : (S z).length = z.length := len_S z
      refine ⟨_, rfl, by omega, by omega, ?_⟩
      rw [ls, lz2]
      refine lo_it walk_range (fun p H' => Same H H' ∧ ∃ bs : List Addr, H' D = some (.lst (bs.map V.ref)) ∧ D ∉ bs ∧ Lsn H' bs (upL sds z f' k ++ upP sd z f' p)) ⟨sm1, bs1, hD1, nD1, by rw [show upP sd z f' 0 = [] from rfl, List.append_nil]; exact hL1⟩ (fun _ _ _ _ => trivial) ?_ ?_
      · rintro p x H3 H4 hp ⟨sm3, bs3, hD3, nD3, hL3⟩ ⟨rfl, hx⟩
        have hp' : p + sd.length ≤ z.length := by omega
        have ex : x = .int ((p : Nat) : Int) := by
          have hx : x = V.int (0 + (p : Int)) := hx
          rw [hx, Int.zero_add]
        subst ex
        walk_at "vc"
        refine ⟨rfl, ?_⟩
        walk_at "vc"
        refine ⟨sd, z, p, rfl, by omega, hp', by omega, fun E5 H5 sm5 hE0 hE => ?_⟩
        walk_at "vc"
        refine ⟨E5, rfl, ⟨_, SqL.of hE⟩, fun b hb => ?_⟩
        have hD5 := sm5 _ _ hD3
        have hul : (ulL sd z p).length ≤ 8 := by
          unfold ulL
          exact Nat.le_trans (filter_len_le _ _) hs8
        refine lc_it (walk_list (a := E5) (xs := (ulL sd z p).map fun k => V.int ((p + k : Nat) : Int))) (fun i H' => Same H5 H' ∧ H' b = some (.lst ((((ulL sd z p).take i).map fun k => ((f' + (p + k) : Nat) : Int)).map V.int))) ⟨same_upd hb, upd_same⟩ (fun i H' _ h => SqL.of (h.1 _ _ hE)) ?_ ?_
        · rintro j y H6 H7 hj ⟨sm6, hb6⟩ ⟨rfl, hy⟩
          rw [List.length_map] at hj
          have ey : y = V.int ((p + (ulL sd z p)[j] : Nat) : Int) := by
            have hy : ((ulL sd z p).map fun k => V.int ((p + k : Nat) : Int))[j]? = some y := hy
            rw [List.getElem?_map, List.getElem?_eq_getElem hj] at hy
            exact (Option.some.inj hy).symm
          subst ey
          walk_at "vc"
          refine ⟨rfl, ?_⟩
          walk_at "vc"
          refine ⟨_, hb6, ?_, sm6.putN hb, ?_⟩
          · rw [List.length_map, List.length_map, List.length_take]
            exact Nat.lt_of_le_of_lt (by omega : _ ≤ 10000) (by decide)
          · rw [upd_same, List.take_succ_eq_append_getElem hj, List.map_append, List.map_append (l₂ := List.map _ _)]
            have e : (f' : Int) + ((p + (ulL sd z p)[j] : Nat) : Int) = ((f' + (p + (ulL sd z p)[j]) : Nat) : Int) := by omega
            rw [e]
            rfl
        · rintro H6 ⟨sm6, hb6⟩
          rw [List.length_map, List.take_length] at hb6
          have hD6 := sm6 _ _ hD5
          have hbD : b ≠ D := fun e => by
            rw [e, hD5] at hb
            cases hb
          have nb3 : b ∉ bs3 := fun hm3 => by
            obtain ⟨j, hj, ej⟩ := List.mem_iff_getElem.mp hm3
            have hj2 : j < (upL sds z f' k ++ upP sd z f' p).length := by rw [← hL3.1]; exact hj
            have := sm5 _ _ (hL3.2 j b _ (by rw [List.getElem?_eq_getElem hj, ej]) (List.getElem?_eq_getElem hj2))
            rw [hb] at this
            cases this
          have smf := sm3.trans (sm5.trans sm6)
          have hk3 : 1001 * k ≤ 3003 := by omega
          refine ⟨_, hD6, ?_, smf.putN hD, bs3 ++ [b], by rw [upd_same, List.map_append]; rfl, fun hm4 => ?_, ?_⟩
          · rw [List.length_map, hL3.1, List.length_append, upP_len]
            exact Nat.lt_of_le_of_lt (by omega : _ ≤ 10000) (by decide)
          · rcases List.mem_append.mp hm4 with h | h
            · exact nD3 h
            · exact hbD (List.mem_singleton.mp h).symm
          · rw [upP_succ, ← List.append_assoc]
            refine Lsn.snoc (((hL3.same sm5).same sm6).k1 nD3 K1.at) ?_
            rw [upd_ne hbD]
            exact hb6
      · rintro H3 ⟨sm3, hD3⟩
        exact ⟨sm3, hD3⟩
    · rintro H1 ⟨sm1, bs1, hD1, _, hL1⟩
      rw [List.length_map] at hL1
      exact q D bs1 H1 sm1 hD hD1 hL1


theorem oklane {f : Addr} {fd : FuncData} {PT : Addr} {aTooLow : Addr} {uFEWEST_LETTERS uMOST_LETTERS uALPHABET uLONGEST_ROW uLEAST_WEIGHT uMOST_WEIGHT uLIKE uUNLIKE uSHORTEST_SEED uLONGEST_SEED uPICK uGAP uFEWEST_SEEDS uMOST_SEEDS uBAR uENDLESS uLOW uREACHES uUNSEEDED : Value} {fneed_seeds : Addr} {fdneed_seeds : FuncData} {fneed_above : Addr} {fdneed_above : FuncData} {flikes_of : Addr} {fdlikes_of : FuncData} {fbar : Addr} {fdbar : FuncData} {fis_seeded : Addr} {fdis_seeded : FuncData} {fgreatest_worth : Addr} {fdgreatest_worth : FuncData} {flane_reaches : Addr} {fdlane_reaches : FuncData} {funlike_places : Addr} {fdunlike_places : FuncData} {flane_begin : Addr} {fdlane_begin : FuncData} (F : Fun K "lane" "lane" slane f fd) (B : Bl mg) (C : Cs mg uFEWEST_LETTERS uMOST_LETTERS uALPHABET uLONGEST_ROW uLEAST_WEIGHT uMOST_WEIGHT uLIKE uUNLIKE uSHORTEST_SEED uLONGEST_SEED uPICK uGAP uFEWEST_SEEDS uMOST_SEEDS uBAR uENDLESS uLOW uREACHES uUNSEEDED) (Dneed_seeds : Dn P w K mg base "need_seeds" 2 ["seeds"] (spneed_seeds K) fneed_seeds fdneed_seeds) (Dneed_above : DnX P w K mg base "need_above" 3 ["told", "limit"] (spneed_above K aTooLow) fneed_above fdneed_above) (Dlikes_of : Dn P w K mg base "likes_of" 2 ["one", "other", "shift"] (splikes_of K) flikes_of fdlikes_of) (Dbar : Dn P w K mg base "bar" 5 ["seeds", "scale"] (spbar K PT) fbar fdbar) (Dis_seeded : Dn P w K mg base "is_seeded" 3 ["seeds", "likes"] (spis_seeded K) fis_seeded fdis_seeded) (Dgreatest_worth : Dn P w K mg base "greatest_worth" 2 ["likes", "scale"] (spgreatest_worth K) fgreatest_worth fdgreatest_worth) (Dlane_reaches : Dn P w K mg base "lane_reaches" 4 ["one", "other", "shift", "scale", "told"] (splane_reaches K) flane_reaches fdlane_reaches) (Dunlike_places : Dn P w K mg base "unlike_places" 2 ["seeds", "likes", "first"] (spunlike_places K) funlike_places fdunlike_places) (Dlane_begin : Dn P w K mg base "lane_begin" 1 ["shift"] (splane_begin K) flane_begin fdlane_begin) : FnOk P w K mg base (L2.CX P w) 6 f fd ["one", "other", "shift", "seeds", "scale", "told"] (splane K PT aTooLow) := by
  refine F.okX sclane (fun vs H Q E h => ?_) (fun cdv A outer s H vs Q E hr h => ?_)
  · first
      | (obtain ⟨_, rfl, _⟩ := h; rfl)
      | (obtain ⟨_, _, rfl, _⟩ := h; rfl)
      | (obtain ⟨_, _, _, rfl, _⟩ := h; rfl)
      | (obtain ⟨_, _, _, _, rfl, _⟩ := h; rfl)
      | (obtain ⟨_, _, _, _, _, rfl, _⟩ := h; rfl)
      | (obtain ⟨_, _, _, _, _, _, rfl, _⟩ := h; rfl)
      | (obtain ⟨_, _, _, _, _, _, _, rfl, _⟩ := h; rfl)
      | (obtain ⟨_, _, _, _, _, _, _, _, rfl, _⟩ := h; rfl)
      | (obtain ⟨_, _, _, _, _, _, _, _, _, rfl, _⟩ := h; rfl)
      | (obtain ⟨_, _, _, _, _, _, _, _, _, _, rfl, _⟩ := h; rfl)
      | (obtain ⟨_, _, _, _, _, _, _, _, _, _, _, rfl, _⟩ := h; rfl)
      | (obtain ⟨_, _, _, _, _, _, _, _, _, _, _, _, rfl, _⟩ := h; rfl)
      | (obtain ⟨_, _, _, _, _, _, _, _, _, _, _, _, _, rfl, _⟩ := h; rfl)
      | (obtain ⟨_, _, _, _, _, _, _, _, _, _, _, _, _, _, rfl, _⟩ := h; rfl)
      | (obtain ⟨_, _, _, _, _, _, _, _, _, _, _, _, _, _, _, rfl, _⟩ := h; rfl)
      | (obtain ⟨_, _, _, _, _, _, _, _, _, _, _, _, _, _, _, _, rfl, _⟩ := h; rfl)
      | (obtain ⟨_, _, _, _, _, _, _, _, _, _, _, _, _, _, _, _, _, rfl, _⟩ := h; rfl)
  · obtain ⟨o, t, d, sp, ps, sds, g, l, told, rfl, hsp, hps, hsd, h1, h3, g1, g9, l1, l9, ho, ht, d1, d2, hT, qa, qe⟩ := h
    refine ⟨_, 
  (pss_cons (ps_expr (pe_call Dneed_seeds.ok (hr.mono (by decide)) (by rfl) Dneed_seeds.g Dneed_seeds.kp Dneed_seeds.b .nil pass0 (pa_cons (pv 3) pa_nil))) 
  (pss_cons (ps_expr (pe_call Dneed_above.ok (hr.mono (by decide)) (by rfl) Dneed_above.g Dneed_above.kp Dneed_above.b .nil (passes_call (takes_of rfl rfl rfl rfl) (fun _ _ _ _ h => h)) (pa_cons (pv 5) (pa_cons (pe_call Dbar.ok hr (by rfl) Dbar.g Dbar.kp Dbar.b .nil pass0 (pa_cons (pv 3) (pa_cons (pv 4) pa_nil))) pa_nil)))) (PSs.nox 
  (pss_cons (ps_setLc (i := 6) (own := [("begin", 8), ("end", 9), ("_", 10)]) (g := gTup K 3 (gCons (gName 8) (gCons (gName 9) (gCons (gName 10) gNil)))) (tt := tYes) rfl sclane.nd rfl rfl (sw_true rfl rfl rfl (by decide +kernel)) (pi_list (pe_call Dlane_reaches.ok (hr.mono (by decide)) (by rfl) Dlane_reaches.g Dlane_reaches.kp Dlane_reaches.b .nil pass0 (pa_cons (pv 0) (pa_cons (pv 1) (pa_cons (pv 2) (pa_cons (pv 4) (pa_cons (pv 5) pa_nil))))))) (blkOk_by (N := nlane) (sc := defScope slane) (by decide +kernel)) (fun _ _ _ _ _ => (pg_tup rfl (pgs_cons (pg_name (i := 8) sclane.nd rfl (.inl rfl)) (pgs_cons (pg_name (i := 9) sclane.nd rfl (.inl rfl)) (pgs_cons (pg_name (i := 10) sclane.nd rfl (.inl rfl)) pgs_nil))))) (fun _ _ _ _ _ => pts_nil) (fun _ _ _ _ _ => (pe_tup (pa_cons (pv 2) (pa_cons (pv 8) (pa_cons (pv 9) pa_nil)))))) 
  (pss_cons (ps_if (pt_truth (pv 6) (by intro _; rfl)) 
    (pss_one (ps_ret (pe_tup (pa_cons (pe_glob rfl C.c_REACHES.2 C.c_REACHES.1) (pa_cons (pv 6) pa_nil))))) pss_nil) 
  (pss_cons (ps_set (i := 7) sclane.nd rfl (.inl rfl) (pe_call Dlikes_of.ok (hr.mono (by decide)) (by rfl) Dlikes_of.g Dlikes_of.kp Dlikes_of.b .nil pass0 (pa_cons (pv 0) (pa_cons (pv 1) (pa_cons (pv 2) pa_nil))))) 
  (pss_cons (ps_if (pt_not (pt_val (pe_call Dis_seeded.ok (hr.mono (by decide)) (by rfl) Dis_seeded.g Dis_seeded.kp Dis_seeded.b .nil pass0 (pa_cons (pv 3) (pa_cons (pv 7) pa_nil))))) 
    (pss_one (ps_ret (pe_tup (pa_cons (pe_glob rfl C.c_UNSEEDED.2 C.c_UNSEEDED.1) (pa_cons (pe_lc (own := [("places", 11)]) (g := gName 11) (tt := tYes) rfl sclane.nd (pi_list (pe_call Dunlike_places.ok (hr.mono (by decide)) (by rfl) Dunlike_places.g Dunlike_places.kp Dunlike_places.b .nil pass0 (pa_cons (pv 3) (pa_cons (pv 7) (pa_cons (pe_call Dlane_begin.ok (hr.mono (by decide)) (by rfl) Dlane_begin.g Dlane_begin.kp Dlane_begin.b .nil pass0 (pa_cons (pv 2) pa_nil)) pa_nil))))) (blkOk_by (N := nlane) (sc := defScope slane) (by decide +kernel)) (fun _ _ _ _ _ => (pg_name (i := 11) sclane.nd rfl (.inl rfl))) (fun _ _ _ _ _ => pts_nil) (fun _ _ _ _ _ => (pe_ix (show IxR _ (rIxL K) from ix_list) (pv 11) pe_int (fun _ _ => rfl)))) pa_nil))))) pss_nil) 
  (pss_one (ps_ret (pe_tup (pa_cons (pe_glob rfl C.c_LOW.2 C.c_LOW.1) (pa_cons (pe_call Dgreatest_worth.ok (hr.mono (by decide)) (by rfl) Dgreatest_worth.g Dgreatest_worth.kp Dgreatest_worth.b .nil pass0 (pa_cons (pv 7) (pa_cons (pv 4) pa_nil))) pa_nil)))))))))))), ?_⟩
    walk_at "vc"
    refine ⟨sp, sds, rfl, hsp, hsd, h1, h3, ?_⟩
    walk_at "vc"
    refine ⟨sp, ps, sds, g, l, rfl, hsp, hps, hsd, h1, h3, g1, g9, l1, l9, hT, fun lp H1 st lp0 hlp _ => ?_⟩
    walk_at "vc"
    refine ⟨told, lp, barM sds g l, rfl, SqT.of hlp, fun ha => ?_, fun hn dd H' sm hd => qe hn dd lp H' (st.trans (SmT.of sm)) hd (sm _ _ hlp)⟩
    have q := qa ha
    obtain ⟨m, z, hb, hm⟩ := ha
    have hT1 := st.t hT
    have hsp1 := st.seq hsp
    have hps1 := st.seqT hps
    walk_at "vc"
    refine ⟨o, t, d, ps, g, l, told, rfl, hps1, g1, by omega, l1, by omega, ho, ht, d1, d2, fun D1 H2 as sm2 hD0 hD hT2 => ?_⟩
    walk_at "vc"
    refine ⟨D1, rfl, ⟨_, SqL.of hD⟩, fun D hDn => ?_⟩
    have hll := lrL_len g l told o t d
    have eR := rchL_lr g l told o t d
    generalize lrL g l told o t d = L at hT2 hll eR
    refine lc_it (walk_list (a := D1) (xs := as.map V.ref)) (fun i H' => Same H2 H' ∧ ∃ bs : List Addr, H' D = some (.lst (bs.map V.ref)) ∧ Tup triV H' bs ((L.take i).map fun q => (d, q.1, q.2.1))) ⟨same_upd hDn, [], upd_same, Tup.nil⟩ (fun i H' _ h => SqL.of (h.1 _ _ hD)) ?_ ?_
    · rintro j x H3 H4 hj ⟨sm3, bs, hD3, hT3⟩ ⟨rfl, hx⟩
      rw [List.length_map] at hj
      have hj3 : j < L.length := by rw [← hT2.1]; exact hj
      obtain rfl : x = .ref as[j] := by
        have hx : (as.map V.ref)[j]? = some x := hx
        rw [List.getElem?_map, List.getElem?_eq_getElem hj] at hx
        exact (Option.some.inj hx).symm
      have htj := (hT2.same sm3).2 j _ L[j] (List.getElem?_eq_getElem hj) (List.getElem?_eq_getElem hj3)
      rw [List.take_succ_eq_append_getElem hj3, List.map_append]
      have hjl : ((L.take j).map fun q => ((d, q.1, q.2.1) : Tri)).length ≤ 100 := by
        rw [List.length_map, List.length_take]
        omega
      generalize L[j] = qq at htj ⊢
      obtain ⟨a, b, c⟩ := qq
      have htj : _ = some (HO.tup [.int a, .int b, .int c]) := htj
      refine x_gTup (SqT.of htj) rfl ?_
      walk_at "vc"
      refine ⟨rfl, ?_⟩
      walk_at "vc"
      refine ⟨show 3 ≤ sizeLine by decide, fun T hTn => ?_⟩
      have hpush := tup_push (f := triV) (p := ((d, a, b) : Tri)) hDn sm3 hD3 hT3 hTn
      refine ⟨_, (upd_ne (ne_of_none hD3 hTn)).trans hD3, ?_, hpush.1, bs ++ [T], hpush.2.1, hpush.2.2⟩
      rw [List.length_map, hT3.1]
      exact Nat.lt_of_le_of_lt hjl (by decide)
    · rintro H3 ⟨sm3, bs, hD3, hT3⟩
      rw [List.length_map, hT2.1, List.take_length, ← eR] at hT3
      walk_at "vc"
      have hdn0 : H D = none := st.free hT (Same.none sm2 hDn)
      have st3 : SmT PT qL H H3 := st.trans ((SmT.of sm2).trans (SmT.of sm3))
      have hlk := likL_Lk o t d
      have hlz := likL_len o t d
      have hzl : (likL o t d).length ≤ 100 := by
        rw [hlz]
        unfold lkn bgn
        omega
      refine ⟨!(bs.map V.ref).isEmpty, .inl ⟨_, SqL.of hD3, rfl⟩, ?_⟩
      by_cases hne : rchL g l told o t d = []
      · have hb0 : bs = [] := by
          have := hT3.1
          rw [hne] at this
          exact List.length_eq_zero_iff.mp this
        rw [hb0, show (!(([] : List Addr).map V.ref).isEmpty) = false from rfl]
        walk_at "vc"
        refine ⟨o, t, d, rfl, by omega, by omega, d1, d2, fun H4 sm4 => ?_⟩
        walk_at "vc"
        have st4 := st3.trans (SmT.of sm4)
        refine ⟨sp, sds, likL o t d, rfl, st4.seq hsp, hsd, h1, h3, hlk, by omega, fun H5 sm5 => ?_⟩
        have st5 := st4.trans (SmT.of sm5)
        by_cases hsb : seededB sds (likL o t d) = true
        · rw [hsb]
          walk_at "vc"
          have hup := seeded_up (g := g) (l := l) hsd hlk g1 hsb
          have hpos : 0 < (likL o t d).length := by
            obtain ⟨i, j, x1, x2, _⟩ := hup
            omega
          refine ⟨likL o t d, ps, g, l, rfl, st5.seqT hps, hlk, hpos, by omega, by omega, by omega, by omega, by omega, fun H6 w sm6 hw => ?_⟩
          walk_at "vc"
          refine ⟨show 2 ≤ sizeLine by decide, fun p hp => ?_⟩
          have st6 := st5.trans (SmT.of sm6)
          refine q p _ (st6.trans (SmT.new hp)) (st6.free hT hp) ?_ ⟨_, _, upd_same, .inl ⟨_, rfl⟩⟩
          unfold papP
          rw [if_pos hne, if_pos hsb, gwL_eq hw]
          exact upd_same
        · rw [Bool.eq_false_iff.mpr hsb]
          walk_at "vc"
          refine ⟨d, rfl, ?_⟩
          refine ⟨sp, sds, likL o t d, bgn d, rfl, st5.seq hsp, hsd, h3, by omega, fun D2 us H6 sm6 hD20 hD2 hU => ?_⟩
          walk_at "vc"
          have hh1 : Ones sds := fun sd h => (hsd sd h).one
          obtain ⟨hup1, hup2⟩ := up_head (f := bgn d) hh1 (Bool.eq_false_iff.mpr hsb) sds.length (Nat.le_refl _)
          have hul := upL_len (sds := sds) (z := likL o t d) (f := bgn d) (by omega) sds.length
          have st6 := st5.trans (SmT.of sm6)
          refine ⟨D2, rfl, ⟨_, SqL.of hD2⟩, fun E hE0 => ?_⟩
          refine lc_it (walk_list (a := D2) (xs := us.map V.ref)) (fun i H' => Same H6 H' ∧ H' E = some (.lst (((uwL sds (likL o t d) (bgn d) sds.length).take i).map V.int))) ⟨same_upd hE0, upd_same⟩ (fun i H' _ h => SqL.of (h.1 _ _ hD2)) ?_ ?_
          · rintro j x H7 H8 hj ⟨sm7, hE7⟩ ⟨rfl, hx⟩
            rw [List.length_map] at hj
            have hj2 : j < (upL sds (likL o t d) (bgn d) sds.length).length := by rw [← hU.1]; exact hj
            obtain rfl : x = .ref us[j] := by
              have hx : (us.map V.ref)[j]? = some x := hx
              rw [List.getElem?_map, List.getElem?_eq_getElem hj] at hx
              exact (Option.some.inj hx).symm
            have hu := sm7 _ _ (hU.2 j _ _ (List.getElem?_eq_getElem hj) (List.getElem?_eq_getElem hj2))
            have hne2 := hup2 _ (List.getElem_mem hj2)
            have hjw : j < (uwL sds (likL o t d) (bgn d) sds.length).length := by rw [hup1, List.length_map]; exact hj2
            have hv : ((upL sds (likL o t d) (bgn d) sds.length)[j].map V.int)[0]? = some (V.int (uwL sds (likL o t d) (bgn d) sds.length)[j]) := by
              have e1 : (uwL sds (likL o t d) (bgn d) sds.length)[j]? = ((upL sds (likL o t d) (bgn d) sds.length).map (fun u => u.head?.getD 0))[j]? := by rw [hup1]
              rw [List.getElem?_eq_getElem hjw, List.getElem?_map, List.getElem?_eq_getElem hj2] at e1
              have e2 := Option.some.inj e1
              rw [List.getElem?_map, e2]
              cases ee : (upL sds (likL o t d) (bgn d) sds.length)[j] with
              | nil => exact absurd ee hne2
              | cons a r => rfl
            walk_at "vc"
            refine ⟨rfl, ?_⟩
            walk_at "vc"
            refine x_ixL (v := .int (uwL sds (likL o t d) (bgn d) sds.length)[j]) (SqL.of hu) (atI_nat (j := 0) hv) ?_
            refine ⟨_, hE7, ?_, sm7.putN hE0, ?_⟩
            · rw [List.length_map, List.length_take]
              exact Nat.lt_of_le_of_lt (by rw [hup1, List.length_map]; omega : _ ≤ 10000) (by decide)
            · rw [upd_same, List.take_succ_eq_append_getElem hjw, List.map_append]
              rfl
          · rintro H7 ⟨sm7, hE⟩
            rw [List.length_map, hU.1, show (upL sds (likL o t d) (bgn d) sds.length).length = (uwL sds (likL o t d) (bgn d) sds.length).length by rw [hup1, List.length_map], List.take_length] at hE
            walk_at "vc"
            refine ⟨show 2 ≤ sizeLine by decide, fun p hp => ?_⟩
            have st7 := st6.trans (SmT.of sm7)
            have hpE : E ≠ p := ne_of_none hE hp
            refine q p _ (st7.trans (SmT.new hp)) (st7.free hT hp) ?_ ⟨_, _, upd_same, .inr ⟨E, _, rfl, st6.free hT hE0, (upd_ne hpE).trans hE, ?_⟩⟩
            · unfold papP
              rw [if_pos hne, if_neg hsb]
              exact ⟨E, upd_same, (upd_ne hpE).trans hE⟩
            · rw [List.length_map, hup1, List.length_map]
              omega
      · have hb0 : ¬ bs = [] := fun e => hne (by
          have := hT3.1
          rw [e] at this
          exact List.length_eq_zero_iff.mp this.symm)
        have hbe : (!(bs.map V.ref).isEmpty) = true := by
          cases bs with
          | nil => exact absurd rfl hb0
          | cons a b => rfl
        rw [hbe]
        walk_at "vc"
        refine ⟨show 2 ≤ sizeLine by decide, fun p hp => ?_⟩
        have hpD : D ≠ p := ne_of_none hD3 hp
        refine q p _ (st3.trans (SmT.new hp)) (st3.free hT hp) ?_ ⟨_, _, upd_same, .inr ⟨D, _, rfl, hdn0, (upd_ne hpD).trans hD3, ?_⟩⟩
        · unfold papP
          rw [if_neg hne]
          exact ⟨D, bs, upd_same, (upd_ne hpD).trans hD3, hT3.same (same_upd hp)⟩
        · rw [List.length_map, hT3.1, eR, List.length_map]
          omega


theorem ok_each_is_under {f : Addr} {fd : FuncData} (F : Fun K "_each_is_under" "_each_is_under" s_each_is_under f fd) (B : Bl mg) : FnOk P w K mg base CX0 1 f fd ["places", "under"] (sp_each_is_under K) := by
  refine F.ok sc_each_is_under (fun vs H Q E h => ?_) (fun cdv A outer s H vs Q E hr h => ?_)
  · first
      | (obtain ⟨_, rfl, _⟩ := h; rfl)
      | (obtain ⟨_, _, rfl, _⟩ := h; rfl)
      | (obtain ⟨_, _, _, rfl, _⟩ := h; rfl)
      | (obtain ⟨_, _, _, _, rfl, _⟩ := h; rfl)
      | (obtain ⟨_, _, _, _, _, rfl, _⟩ := h; rfl)
      | (obtain ⟨_, _, _, _, _, _, rfl, _⟩ := h; rfl)
      | (obtain ⟨_, _, _, _, _, _, _, rfl, _⟩ := h; rfl)
      | (obtain ⟨_, _, _, _, _, _, _, _, rfl, _⟩ := h; rfl)
      | (obtain ⟨_, _, _, _, _, _, _, _, _, rfl, _⟩ := h; rfl)
      | (obtain ⟨_, _, _, _, _, _, _, _, _, _, rfl, _⟩ := h; rfl)
      | (obtain ⟨_, _, _, _, _, _, _, _, _, _, _, rfl, _⟩ := h; rfl)
      | (obtain ⟨_, _, _, _, _, _, _, _, _, _, _, _, rfl, _⟩ := h; rfl)
      | (obtain ⟨_, _, _, _, _, _, _, _, _, _, _, _, _, rfl, _⟩ := h; rfl)
      | (obtain ⟨_, _, _, _, _, _, _, _, _, _, _, _, _, _, rfl, _⟩ := h; rfl)
      | (obtain ⟨_, _, _, _, _, _, _, _, _, _, _, _, _, _, _, rfl, _⟩ := h; rfl)
      | (obtain ⟨_, _, _, _, _, _, _, _, _, _, _, _, _, _, _, _, rfl, _⟩ := h; rfl)
      | (obtain ⟨_, _, _, _, _, _, _, _, _, _, _, _, _, _, _, _, _, rfl, _⟩ := h; rfl)
  · obtain ⟨pp, up, P', bs, U, rfl, hp, hu, hL, hpl, hul, q⟩ := h
    refine ⟨_, 
  (pss_one (ps_ret (pe_and (pe_cmpR op_eq (pe_callB call_len_seq (by rfl) B.m_len PySem.boot_len (pa_cons (pv 0) pa_nil)) (pe_callB call_len_seq (by rfl) B.m_len PySem.boot_len (pa_cons (pv 1) pa_nil)) (nomark _)) (pe_one (pe_callB (cr_all rfl) (by rfl) B.m_all (by decide +kernel) (pa_cons (pe_lc (own := [("place", 2), ("spots", 3)]) (g := gTup K 2 (gCons (gName 2) (gCons (gName 3) gNil))) (tt := tYes) rfl sc_each_is_under.nd (pi_zip (by rfl) B.m_zip (pa_cons (pv 0) (pa_cons (pv 1) pa_nil))) (blkOk_by (N := n_each_is_under) (sc := defScope s_each_is_under) (by decide +kernel)) (fun _ _ _ _ _ => (pg_tup rfl (pgs_cons (pg_name (i := 2) sc_each_is_under.nd rfl (.inl rfl)) (pgs_cons (pg_name (i := 3) sc_each_is_under.nd rfl (.inl rfl)) pgs_nil)))) (fun _ _ _ _ _ => pts_nil) (fun _ _ _ _ _ => (pe_cmpR (show OpR _ (compareOp .In) (rIn K false) from op_in_seq) (pv 2) (pv 3) (by rfl)))) pa_nil)))))), ?_⟩
    walk_at "vc"
    refine ite2 (fun e => ?_) (fun e => ?_)
    · have e1 : (((P'.map V.int).length : Nat) : Int) = (((bs.map V.ref).length : Nat) : Int) := V.int.inj (of_decide_eq_true e)
      rw [List.length_map, List.length_map] at e1
      have e2 : P'.length = U.length := by rw [← hL.1]; omega
      walk_at "vc"
      refine x_iZip ?_
      walk_at "vc"
      refine ⟨pp, up, _, _, rfl, SqL.of hp, SqL.of hu, fun D hD => ?_⟩
      refine lc_it (walk_zip (K := K) (a := pp) (b := up) (xs := P'.map V.int) (ys := bs.map V.ref) (n := P'.length) (by rw [List.length_map, List.length_map, hL.1]; omega)) (fun i H' => Same H H' ∧ H' D = some (.lst (((List.range i).map (inB P' U)).map V.bl))) ⟨same_upd hD, upd_same⟩ (fun i H' _ h => ⟨SqL.of (h.1 _ _ hp), SqL.of (h.1 _ _ hu)⟩) ?_ ?_
      · rintro i x H1 H2 hi ⟨sm1, hD1⟩ ⟨T, xa, xb, rfl, hTn, rfl, exa, exb⟩
        have hiU : i < U.length := by omega
        have hib : i < bs.length := by rw [hL.1]; exact hiU
        obtain rfl : xa = .int P'[i] := by
          have exa : (P'.map V.int)[i]? = some xa := exa
          rw [List.getElem?_map, List.getElem?_eq_getElem hi] at exa
          exact (Option.some.inj exa).symm
        obtain rfl : xb = .ref bs[i] := by
          have exb : (bs.map V.ref)[i]? = some xb := exb
          rw [List.getElem?_map, List.getElem?_eq_getElem hib] at exb
          exact (Option.some.inj exb).symm
        have hu1 := sm1 _ _ (hL.2 i _ _ (List.getElem?_eq_getElem hib) (List.getElem?_eq_getElem hiU))
        have eI : inB P' U i = decide (P'[i] ∈ U[i]) := by
          unfold inB
          rw [List.getElem?_eq_getElem hi, List.getElem?_eq_getElem hiU]
          rfl
        have s2 : Same H1 (upd H1 T (.tup [.int P'[i], .ref bs[i]])) := same_upd hTn
        have hTT : upd H1 T (.tup [.int P'[i], .ref bs[i]]) T = some (.tup [.int P'[i], .ref bs[i]]) := upd_same
        generalize upd H1 T (.tup [.int P'[i], .ref bs[i]]) = H2 at s2 hTT ⊢
        refine x_gTup (SqT.of hTT) rfl ?_
        walk_at "vc"
        refine ⟨rfl, ?_⟩
        walk_at "vc"
        refine ⟨bs[i], _, rfl, .inl (SqL.of (s2 _ _ hu1)), rfl, flat_ints _, ?_⟩
        refine ⟨_, s2 _ _ hD1, ?_, (sm1.trans s2).putN hD, ?_⟩
        · rw [List.length_map, List.length_map, List.length_range]
          exact Nat.lt_of_le_of_lt (by omega : _ ≤ 10000) (by decide)
        · rw [upd_same, List.range_succ, List.map_append, List.map_append, inV_int, ← eI]
          rfl
      · rintro H1 ⟨sm1, hD1⟩
        refine ⟨D, _, rfl, SqL.of hD1, ?_⟩
        have : underB P' U = ((List.range P'.length).map (inB P' U)).all id := by
          unfold underB
          rw [decide_eq_true e2, Bool.true_and, List.all_map]
          rfl
        rw [← this]
        exact q _ sm1
    · have e2 : ¬ P'.length = U.length := fun h => e (by
        rw [List.length_map, List.length_map, hL.1, h]
        exact decide_eq_true rfl)
      walk_at "vc"
      have : underB P' U = false := by unfold underB; rw [decide_eq_false e2]; rfl
      rw [this] at q
      exact q _ fun _ _ e => e


theorem okshows {f : Addr} {fd : FuncData} {PT : Addr} {aTooLow : Addr} {uFEWEST_LETTERS uMOST_LETTERS uALPHABET uLONGEST_ROW uLEAST_WEIGHT uMOST_WEIGHT uLIKE uUNLIKE uSHORTEST_SEED uLONGEST_SEED uPICK uGAP uFEWEST_SEEDS uMOST_SEEDS uBAR uENDLESS uLOW uREACHES uUNSEEDED : Value} {flane : Addr} {fdlane : FuncData} {f_each_is_under : Addr} {fd_each_is_under : FuncData} {funlike_places : Addr} {fdunlike_places : FuncData} {flikes_of : Addr} {fdlikes_of : FuncData} {flane_begin : Addr} {fdlane_begin : FuncData} (F : Fun K "shows" "shows" sshows f fd) (B : Bl mg) (C : Cs mg uFEWEST_LETTERS uMOST_LETTERS uALPHABET uLONGEST_ROW uLEAST_WEIGHT uMOST_WEIGHT uLIKE uUNLIKE uSHORTEST_SEED uLONGEST_SEED uPICK uGAP uFEWEST_SEEDS uMOST_SEEDS uBAR uENDLESS uLOW uREACHES uUNSEEDED) (Dlane : DnX P w K mg base "lane" 6 ["one", "other", "shift", "seeds", "scale", "told"] (splane K PT aTooLow) flane fdlane) (D_each_is_under : Dn P w K mg base "_each_is_under" 1 ["places", "under"] (sp_each_is_under K) f_each_is_under fd_each_is_under) (Dunlike_places : Dn P w K mg base "unlike_places" 2 ["seeds", "likes", "first"] (spunlike_places K) funlike_places fdunlike_places) (Dlikes_of : Dn P w K mg base "likes_of" 2 ["one", "other", "shift"] (splikes_of K) flikes_of fdlikes_of) (Dlane_begin : Dn P w K mg base "lane_begin" 1 ["shift"] (splane_begin K) flane_begin fdlane_begin) : FnOk P w K mg base (L2.CX P w) 7 f fd ["one", "other", "shift", "seeds", "scale", "told", "paper"] (spshows K PT aTooLow) := by
  refine F.okX scshows (fun vs H Q E h => ?_) (fun cdv A outer s H vs Q E hr h => ?_)
  · first
      | (obtain ⟨_, rfl, _⟩ := h; rfl)
      | (obtain ⟨_, _, rfl, _⟩ := h; rfl)
      | (obtain ⟨_, _, _, rfl, _⟩ := h; rfl)
      | (obtain ⟨_, _, _, _, rfl, _⟩ := h; rfl)
      | (obtain ⟨_, _, _, _, _, rfl, _⟩ := h; rfl)
      | (obtain ⟨_, _, _, _, _, _, rfl, _⟩ := h; rfl)
      | (obtain ⟨_, _, _, _, _, _, _, rfl, _⟩ := h; rfl)
      | (obtain ⟨_, _, _, _, _, _, _, _, rfl, _⟩ := h; rfl)
      | (obtain ⟨_, _, _, _, _, _, _, _, _, rfl, _⟩ := h; rfl)
      | (obtain ⟨_, _, _, _, _, _, _, _, _, _, rfl, _⟩ := h; rfl)
      | (obtain ⟨_, _, _, _, _, _, _, _, _, _, _, rfl, _⟩ := h; rfl)
      | (obtain ⟨_, _, _, _, _, _, _, _, _, _, _, _, rfl, _⟩ := h; rfl)
      | (obtain ⟨_, _, _, _, _, _, _, _, _, _, _, _, _, rfl, _⟩ := h; rfl)
      | (obtain ⟨_, _, _, _, _, _, _, _, _, _, _, _, _, _, rfl, _⟩ := h; rfl)
      | (obtain ⟨_, _, _, _, _, _, _, _, _, _, _, _, _, _, _, rfl, _⟩ := h; rfl)
      | (obtain ⟨_, _, _, _, _, _, _, _, _, _, _, _, _, _, _, _, rfl, _⟩ := h; rfl)
      | (obtain ⟨_, _, _, _, _, _, _, _, _, _, _, _, _, _, _, _, _, rfl, _⟩ := h; rfl)
  · obtain ⟨o, t, d, sp, ps, pp, sds, g, l, told, P, rfl, hsp, hps, hsd, h1, h3, g1, g9, l1, l9, ho, ht, d1, d2, hP, hfew, hT, qa, qe⟩ := h
    refine ⟨_, 
  (pss_cons (ps_asg (pe_call Dlane.ok hr (by rfl) Dlane.g Dlane.kp Dlane.b .nil (passes_call (takes_of rfl rfl rfl rfl) (fun _ _ _ _ h => h)) (pa_cons (pv 0) (pa_cons (pv 1) (pa_cons (pv 2) (pa_cons (pv 3) (pa_cons (pv 4) (pa_cons (pv 5) pa_nil))))))) (pg_tup rfl (pgs_cons (pg_name (i := 7) scshows.nd rfl (.inl rfl)) (pgs_cons (pg_name (i := 8) scshows.nd rfl (.inl rfl)) pgs_nil)))) (PSs.nox 
  (pss_cons (ps_asg (pv 6) (pg_tup rfl (pgs_cons (pg_name (i := 9) scshows.nd rfl (.inl rfl)) (pgs_cons (pg_name (i := 10) scshows.nd rfl (.inl rfl)) pgs_nil)))) 
  (pss_cons (ps_if (pt_cmpR op_ne (pv 9) (pv 7) (nomark _)) 
    (pss_one (ps_ret pe_bl)) pss_nil) 
  (pss_cons (ps_if (pt_cmpR op_eq (pv 9) (pe_glob rfl C.c_UNSEEDED.2 C.c_UNSEEDED.1) (nomark _)) 
    (pss_one (ps_ret (pe_call D_each_is_under.ok (hr.mono (by decide)) (by rfl) D_each_is_under.g D_each_is_under.kp D_each_is_under.b .nil pass0 (pa_cons (pv 10) (pa_cons (pe_call Dunlike_places.ok (hr.mono (by decide)) (by rfl) Dunlike_places.g Dunlike_places.kp Dunlike_places.b .nil pass0 (pa_cons (pv 3) (pa_cons (pe_call Dlikes_of.ok (hr.mono (by decide)) (by rfl) Dlikes_of.g Dlikes_of.kp Dlikes_of.b .nil pass0 (pa_cons (pv 0) (pa_cons (pv 1) (pa_cons (pv 2) pa_nil)))) (pa_cons (pe_call Dlane_begin.ok (hr.mono (by decide)) (by rfl) Dlane_begin.g Dlane_begin.kp Dlane_begin.b .nil pass0 (pa_cons (pv 2) pa_nil)) pa_nil)))) pa_nil))))) pss_nil) 
  (pss_cons (ps_if (pt_cmpR op_eq (pv 9) (pe_glob rfl C.c_LOW.2 C.c_LOW.1) (nomark _)) 
    (pss_one (ps_ret (pe_chain op_le op_lt (pv 8) (pv 10) (pv 5)))) pss_nil) 
  (pss_one (ps_ret (pe_cmpR (op_eqD hr.units) (pv 10) (pv 8) (nomark _)))))))))), ?_⟩
    walk_at "vc"
    refine ⟨o, t, d, sp, ps, sds, g, l, told, rfl, hsp, hps, hsd, h1, h3, g1, g9, l1, l9, ho, ht, d1, d2, hT, fun ha p H' st1 hp0 hO _ => ?_, qe⟩
    have q := qa ha
    obtain ⟨m, z, hb, hm⟩ := ha
    unfold shB at q
    cases eO : papP g l told sds o t d with
    | re L =>
      rw [eO] at hO q
      obtain ⟨D, as, hp1, hD, hTD⟩ := hO
      cases P with
      | re M =>
        obtain ⟨D2, as2, hpp, hD2, hT2⟩ := hP
        have hpp1 := st1.tup hpp
        walk_at "vc"
        rw [decide_eq_true rfl]
        walk_at "vc"
        rw [decide_eq_false (by decide)]
        walk_at "vc"
        rw [decide_eq_false (by decide)]
        walk_at "vc"
        exact eq_tris (st1.lst hD2) ⟨hT2.1, fun j a q' e1 e2 => st1.tup (hT2.2 j a q' e1 e2)⟩ hD hTD (q _ st1)
      | lo k =>
        have hpp1 := st1.tup hP
        walk_at "vc"
        rw [decide_eq_false (by decide)]
        walk_at "vc"
        exact q _ st1
      | un M =>
        obtain ⟨D2, hpp, hD2⟩ := hP
        have hpp1 := st1.tup hpp
        walk_at "vc"
        rw [decide_eq_false (by decide)]
        walk_at "vc"
        exact q _ st1
    | lo v =>
      rw [eO] at hO q
      have hp1 : H' p = _ := hO
      cases P with
      | re M =>
        obtain ⟨D2, as2, hpp, hD2, hT2⟩ := hP
        have hpp1 := st1.tup hpp
        walk_at "vc"
        rw [decide_eq_false (by decide)]
        walk_at "vc"
        exact q _ st1
      | lo k =>
        have hpp1 := st1.tup hP
        walk_at "vc"
        rw [decide_eq_true rfl]
        walk_at "vc"
        rw [decide_eq_false (by decide)]
        walk_at "vc"
        rw [decide_eq_true rfl]
        walk_at "vc"
        refine ite2 (fun e => ?_) (fun e => ?_)
        · have e' : v ≤ k := of_decide_eq_true e
          have q' := q _ st1
          replace q' : Q (.bl (decide (v ≤ k ∧ k < told))) H' := q'
          rw [show decide (v ≤ k ∧ k < told) = decide (k < told) by simp [e']] at q'
          walk_at "vc"
          exact q'
        · have e' : ¬ v ≤ k := fun h => e (decide_eq_true h)
          have q' := q _ st1
          replace q' : Q (.bl (decide (v ≤ k ∧ k < told))) H' := q'
          rw [show decide (v ≤ k ∧ k < told) = false by simp [e']] at q'
          walk_at "vc"
          exact q'
      | un M =>
        obtain ⟨D2, hpp, hD2⟩ := hP
        have hpp1 := st1.tup hpp
        walk_at "vc"
        rw [decide_eq_false (by decide)]
        walk_at "vc"
        exact q _ st1
    | un L =>
      rw [eO] at hO q
      obtain ⟨D, hp1, hD⟩ := hO
      cases P with
      | re M =>
        obtain ⟨D2, as2, hpp, hD2, hT2⟩ := hP
        have hpp1 := st1.tup hpp
        walk_at "vc"
        rw [decide_eq_false (by decide)]
        walk_at "vc"
        exact q _ st1
      | lo k =>
        have hpp1 := st1.tup hP
        walk_at "vc"
        rw [decide_eq_false (by decide)]
        walk_at "vc"
        exact q _ st1
      | un M =>
        obtain ⟨D2, hpp, hD2⟩ := hP
        have hpp1 := st1.tup hpp
        have hD21 := st1.lst hD2
        walk_at "vc"
        rw [decide_eq_true rfl]
        walk_at "vc"
        rw [decide_eq_true rfl]
        walk_at "vc"
        refine ⟨o, t, d, rfl, by omega, by omega, d1, d2, fun H2 sm2 => ?_⟩
        walk_at "vc"
        refine ⟨d, rfl, ?_⟩
        have hlz := likL_len o t d
        have hzl : (likL o t d).length ≤ 100 := by
          rw [hlz]
          unfold lkn bgn
          omega
        refine ⟨sp, sds, likL o t d, bgn d, rfl, sm2.seq (st1.seq hsp), hsd, h3, by omega, fun E bs H3 sm3 hE0 hE hU => ?_⟩
        have hul := upL_len (sds := sds) (z := likL o t d) (f := bgn d) (by omega) sds.length
        walk_at "vc"
        refine ⟨D2, E, M, bs, _, rfl, sm3 _ _ (sm2 _ _ hD21), hE, hU, hfew, by omega, fun H4 sm4 => ?_⟩
        walk_at "vc"
        exact q _ (st1.trans (SmT.of (sm2.trans (sm3.trans sm4))))


theorem ok_law_next {f : Addr} {fd : FuncData} (F : Fun K "_law_next" "_law_next" s_law_next f fd) (B : Bl mg) : FnOk P w K mg base CX0 1 f fd ["_law_h", "_law_many"] (sp_law_next K) := by
  refine F.ok sc_law_next (fun vs H Q E h => ?_) (fun cdv A outer s H vs Q E hr h => ?_)
  · first
      | (obtain ⟨_, rfl, _⟩ := h; rfl)
      | (obtain ⟨_, _, rfl, _⟩ := h; rfl)
      | (obtain ⟨_, _, _, rfl, _⟩ := h; rfl)
      | (obtain ⟨_, _, _, _, rfl, _⟩ := h; rfl)
      | (obtain ⟨_, _, _, _, _, rfl, _⟩ := h; rfl)
      | (obtain ⟨_, _, _, _, _, _, rfl, _⟩ := h; rfl)
      | (obtain ⟨_, _, _, _, _, _, _, rfl, _⟩ := h; rfl)
      | (obtain ⟨_, _, _, _, _, _, _, _, rfl, _⟩ := h; rfl)
      | (obtain ⟨_, _, _, _, _, _, _, _, _, rfl, _⟩ := h; rfl)
      | (obtain ⟨_, _, _, _, _, _, _, _, _, _, rfl, _⟩ := h; rfl)
      | (obtain ⟨_, _, _, _, _, _, _, _, _, _, _, rfl, _⟩ := h; rfl)
      | (obtain ⟨_, _, _, _, _, _, _, _, _, _, _, _, rfl, _⟩ := h; rfl)
      | (obtain ⟨_, _, _, _, _, _, _, _, _, _, _, _, _, rfl, _⟩ := h; rfl)
      | (obtain ⟨_, _, _, _, _, _, _, _, _, _, _, _, _, _, rfl, _⟩ := h; rfl)
      | (obtain ⟨_, _, _, _, _, _, _, _, _, _, _, _, _, _, _, rfl, _⟩ := h; rfl)
      | (obtain ⟨_, _, _, _, _, _, _, _, _, _, _, _, _, _, _, _, rfl, _⟩ := h; rfl)
      | (obtain ⟨_, _, _, _, _, _, _, _, _, _, _, _, _, _, _, _, _, rfl, _⟩ := h; rfl)
  · obtain ⟨a, b, m, rfl, ⟨nab, s0, i0, cs, ha, hb, hcs⟩, hm, hm2, q⟩ := h
    refine ⟨_, 
  (pss_cons (ps_set (i := 2) sc_law_next.nd rfl (.inl rfl) (pe_op op_mod (pe_ix ix_list (pv 0) pe_int (fun _ _ => rfl)) (pe_callB (call_max2 rfl) (by rfl) B.m_max (by decide +kernel) (pa_cons pe_int (pa_cons (pe_callB call_len_seq (by rfl) B.m_len PySem.boot_len (pa_cons (pe_ix ix_list (pv 0) pe_int (fun _ _ => rfl)) pa_nil)) pa_nil))))) 
  (pss_cons (ps_set (i := 3) sc_law_next.nd rfl (.inl rfl) (pe_ifExp (pt_cmpR (op_neD hr.units) (pe_ix ix_list (pv 0) pe_int (fun _ _ => rfl)) (pe_lst pa_nil) (nomark _)) (pe_ix ix_list (pe_ix ix_list (pv 0) pe_int (fun _ _ => rfl)) (pv 2) (fun _ _ => rfl)) pe_int)) 
  (pss_cons (ps_if (pt_cmpR op_ge (pv 3) (pe_op op_pow pe_int pe_int) (nomark _)) 
    (pss_cons (ps_asg (pe_op op_fdiv (pv 3) (pv 1)) (pg_sub (pe_ix ix_list (pv 0) pe_int (fun _ _ => rfl)) (pv 2) set_list)) 
    (pss_one (ps_ret (pe_op op_mod (pv 3) (pv 1))))) pss_nil) 
  (pss_cons (ps_asg (pe_op op_mod (pe_op op_add (pe_op op_add (pe_op op_mul (pe_ix ix_list (pv 0) pe_int (fun _ _ => rfl)) pe_int) (pe_op op_mul (pv 3) pe_int)) pe_int) pe_int) (pg_sub (pv 0) pe_int set_list)) 
  (pss_cons (ps_asg (pe_op op_add (pe_ix ix_list (pv 0) pe_int (fun _ _ => rfl)) pe_int) (pg_sub (pv 0) pe_int set_list)) 
  (pss_one (ps_ret (pe_op op_mod (pe_op op_fdiv (pe_ix ix_list (pv 0) pe_int (fun _ _ => rfl)) pe_int) (pv 1))))))))), ?_⟩
    walk_at "vc"
    refine ⟨by decide, fun p hp => ?_⟩
    have kp : Kp a b H (upd H p (.lst [])) := Kp.new hp
    have ha1 : upd H p (.lst []) a = some (HO.lst [V.int s0, V.ref b, V.int i0]) := by rw [upd_ne (ne_of_none ha hp)]; exact ha
    have hb1 : upd H p (.lst []) b = some (HO.lst (List.map V.int cs)) := by rw [upd_ne (ne_of_none hb hp)]; exact hb
    have hp1 : upd H p (.lst []) p = some (HO.lst []) := upd_same
    generalize upd H p (.lst []) = H1 at kp ha1 hb1 hp1
    refine ⟨.list (cs.map PyData.int), .list [], .lst (SqL.of hb1) (dp_ints cs), .lst (SqL.of hp1) .nil, shaped_ints cs, by decide +kernel, ?_⟩
    have hat : ∃ at_ : Int, (i0 % if ((cs.map V.int).length : Int) > 1 then ((cs.map V.int).length : Int) else 1) = at_ ∧ 0 ≤ at_ ∧ (cs ≠ [] → at_ < (cs.length : Int)) := by
      refine ⟨_, rfl, Int.emod_nonneg _ (by split <;> omega), fun hne => ?_⟩
      have hl : 0 < cs.length := List.length_pos_iff.mpr hne
      rw [List.length_map]
      by_cases h1 : (cs.length : Int) > 1
      · rw [if_pos h1]
        exact Int.emod_lt_of_pos _ (by omega)
      · rw [if_neg h1]
        have := Int.emod_lt_of_pos i0 (show (0 : Int) < 1 by omega)
        omega
    obtain ⟨at_, eat, hat0, hat1⟩ := hat
    rw [eat]
    rw [eqv_ints_nil]
    walk_at "vc"
    by_cases hne : cs = []
    · subst hne
      refine iteF ?_
      walk_at "vc"
      refine ite2 (fun e => absurd (of_decide_eq_true e) (by decide)) (fun e => ?_)
      walk_at "vc"
      refine q _ _ (Int.emod_nonneg _ (by omega)) (Int.emod_lt_of_pos _ hm) ⟨nab, _, _, [], upd_same, ?_, by decide⟩ (kp.trans (Kp.at_a.trans Kp.at_a))
      walk_at "hp"
    · have hb0 : (!cs.isEmpty) = true := by
        cases cs with
        | nil => exact absurd rfl hne
        | cons _ _ => rfl
      rw [hb0]
      refine iteT ?_
      have hl : at_.toNat < cs.length := by have := hat1 hne; omega
      have hix : atI (cs.map V.int) at_ = some (.int cs[at_.toNat]) := atI_of hat0 (ints_at hl)
      have hix2 : ixN (cs.map V.int).length at_ = some at_.toNat := ixN_of hat0 (by rw [List.length_map]; exact hat1 hne)
      walk_at "vc"
      refine ite2 (fun e => ?_) (fun e => ?_)
      · walk_at "vc"
        refine q _ _ (Int.emod_nonneg _ (by omega)) (Int.emod_lt_of_pos _ hm) ⟨nab, s0, i0, cs.set at_.toNat (cs[at_.toNat] / m), ?_, ?_, by rw [List.length_set]; exact hcs⟩ (kp.trans Kp.at_b)
        · walk_at "hp"
        · rw [← map_set_int]
          exact upd_same
      · walk_at "vc"
        refine q _ _ (Int.emod_nonneg _ (by omega)) (Int.emod_lt_of_pos _ hm) ⟨nab, _, _, cs, upd_same, ?_, hcs⟩ (kp.trans (Kp.at_a.trans Kp.at_a))
        walk_at "hp"


theorem ok_law_letters {f : Addr} {fd : FuncData} {f_law_next : Addr} {fd_law_next : FuncData} (F : Fun K "_law_letters" "_law_letters" s_law_letters f fd) (B : Bl mg) (D_law_next : Dn P w K mg base "_law_next" 1 ["_law_h", "_law_many"] (sp_law_next K) f_law_next fd_law_next) : FnOk P w K mg base CX0 2 f fd ["_law_h"] (sp_law_letters K) := by
  refine F.ok sc_law_letters (fun vs H Q E h => ?_) (fun cdv A outer s H vs Q E hr h => ?_)
  · first
      | (obtain ⟨_, rfl, _⟩ := h; rfl)
      | (obtain ⟨_, _, rfl, _⟩ := h; rfl)
      | (obtain ⟨_, _, _, rfl, _⟩ := h; rfl)
      | (obtain ⟨_, _, _, _, rfl, _⟩ := h; rfl)
      | (obtain ⟨_, _, _, _, _, rfl, _⟩ := h; rfl)
      | (obtain ⟨_, _, _, _, _, _, rfl, _⟩ := h; rfl)
      | (obtain ⟨_, _, _, _, _, _, _, rfl, _⟩ := h; rfl)
      | (obtain ⟨_, _, _, _, _, _, _, _, rfl, _⟩ := h; rfl)
      | (obtain ⟨_, _, _, _, _, _, _, _, _, rfl, _⟩ := h; rfl)
      | (obtain ⟨_, _, _, _, _, _, _, _, _, _, rfl, _⟩ := h; rfl)
      | (obtain ⟨_, _, _, _, _, _, _, _, _, _, _, rfl, _⟩ := h; rfl)
      | (obtain ⟨_, _, _, _, _, _, _, _, _, _, _, _, rfl, _⟩ := h; rfl)
      | (obtain ⟨_, _, _, _, _, _, _, _, _, _, _, _, _, rfl, _⟩ := h; rfl)
      | (obtain ⟨_, _, _, _, _, _, _, _, _, _, _, _, _, _, rfl, _⟩ := h; rfl)
      | (obtain ⟨_, _, _, _, _, _, _, _, _, _, _, _, _, _, _, rfl, _⟩ := h; rfl)
      | (obtain ⟨_, _, _, _, _, _, _, _, _, _, _, _, _, _, _, _, rfl, _⟩ := h; rfl)
      | (obtain ⟨_, _, _, _, _, _, _, _, _, _, _, _, _, _, _, _, _, rfl, _⟩ := h; rfl)
  · obtain ⟨a, b, rfl, hs, q⟩ := h
    refine ⟨_, 
  (pss_cons (ps_set (i := 1) sc_law_letters.nd rfl (.inr rfl) (pe_call D_law_next.ok hr (by rfl) D_law_next.g D_law_next.kp D_law_next.b .nil pass0 (pa_cons (pv 0) (pa_cons pe_int pa_nil)))) 
  (pss_one (ps_ret (pe_join pe_str (pe_lc (own := [("_law_k", 2)]) (g := gName 2) (tt := tYes) rfl sc_law_letters.nd (pi_range1 rfl B.m_range (pa_cons (pe_op op_add pe_int (pe_call D_law_next.ok hr (by rfl) D_law_next.g D_law_next.kp D_law_next.b .nil pass0 (pa_cons (pv 0) (pa_cons pe_int pa_nil)))) pa_nil)) (blkOk_by (N := n_law_letters) (sc := defScope s_law_letters) (by decide +kernel)) (fun _ _ _ _ _ => (pg_name (i := 2) sc_law_letters.nd rfl (.inl rfl))) (fun _ _ _ _ _ => pts_nil) (fun _ _ _ _ _ => (pe_ix ix_str pe_str (pe_op op_mod (pe_op op_add (pv 1) (pe_op op_mul pe_int (pv 2))) pe_int) (fun _ _ => rfl)))))))), ?_⟩
    walk_at "vc"
    refine ⟨a, b, 26, rfl, hs, by omega, by omega, fun r H1 r0 r1 hs1 k1 => ?_⟩
    walk_at "vc"
    refine ⟨a, b, 5, rfl, hs1, by omega, by omega, fun r' H2 r2 r3 hs2 k2 => ?_⟩
    walk_at "vc"
    intro D hD
    have hf : ∀ i, i < (2 + r').toNat → atI (("abcdefghijklmnopqrstuvwxyz" : Str).cps.toList) ((r + 7 * (0 + (i : Int))) % 26) = some (97 + (r.toNat + 7 * i) % 26) := fun i hi => by
      have e : (r + 7 * (0 + (i : Int))) % 26 = (((r.toNat + 7 * i) % 26 : Nat) : Int) := by omega
      rw [e]
      refine atI_nat ?_
      have h : (r.toNat + 7 * i) % 26 < 26 := Nat.mod_lt _ (by decide)
      generalize (r.toNat + 7 * i) % 26 = j at h
      have e2 : ("abcdefghijklmnopqrstuvwxyz" : Str).cps.toList = (List.range 26).map (97 + ·) := by decide +kernel
      rw [e2, List.getElem?_map, List.getElem?_range h]
      rfl
    refine lc_range (fun i H' => Same H2 H' ∧ H' D = some (.lst ((List.range i).map fun k => V.str (sg (97 + (r.toNat + 7 * k) % 26))))) ⟨same_upd hD, upd_same⟩ (fun i H' hi h => ?_) (fun H' h => ?_)
    · walk_at "vc"
      refine ⟨rfl, ?_⟩
      walk_at "vc"
      refine x_ixS (by decide +kernel) (hf i hi) ?_
      exact pv_step hD h.1 h.2 (by omega) rfl
    · refine join_end (cs := letL r.toNat (2 + r').toNat) ?_ (by rw [letL_len]; omega) ?_
      · rw [h.2]
        unfold letL
        rw [List.map_map]
        rfl
      · refine q r.toNat (2 + r').toNat H' (by omega) (by omega) (by omega) ?_ (k1.trans (k2.trans (Kp.of h.1)))
        obtain ⟨n, s, i, cs, h1, h2, h3⟩ := hs2
        exact ⟨n, s, i, cs, h.1 _ _ h1, h.1 _ _ h2, h3⟩


theorem ok_law_row {f : Addr} {fd : FuncData} {f_law_next : Addr} {fd_law_next : FuncData} (F : Fun K "_law_row" "_law_row" s_law_row f fd) (B : Bl mg) (D_law_next : Dn P w K mg base "_law_next" 1 ["_law_h", "_law_many"] (sp_law_next K) f_law_next fd_law_next) : FnOk P w K mg base CX0 2 f fd ["_law_h", "_law_letters_here", "_law_most"] (sp_law_row K) := by
  refine F.ok sc_law_row (fun vs H Q E h => ?_) (fun cdv A outer s H vs Q E hr h => ?_)
  · first
      | (obtain ⟨_, rfl, _⟩ := h; rfl)
      | (obtain ⟨_, _, rfl, _⟩ := h; rfl)
      | (obtain ⟨_, _, _, rfl, _⟩ := h; rfl)
      | (obtain ⟨_, _, _, _, rfl, _⟩ := h; rfl)
      | (obtain ⟨_, _, _, _, _, rfl, _⟩ := h; rfl)
      | (obtain ⟨_, _, _, _, _, _, rfl, _⟩ := h; rfl)
      | (obtain ⟨_, _, _, _, _, _, _, rfl, _⟩ := h; rfl)
      | (obtain ⟨_, _, _, _, _, _, _, _, rfl, _⟩ := h; rfl)
      | (obtain ⟨_, _, _, _, _, _, _, _, _, rfl, _⟩ := h; rfl)
      | (obtain ⟨_, _, _, _, _, _, _, _, _, _, rfl, _⟩ := h; rfl)
      | (obtain ⟨_, _, _, _, _, _, _, _, _, _, _, rfl, _⟩ := h; rfl)
      | (obtain ⟨_, _, _, _, _, _, _, _, _, _, _, _, rfl, _⟩ := h; rfl)
      | (obtain ⟨_, _, _, _, _, _, _, _, _, _, _, _, _, rfl, _⟩ := h; rfl)
      | (obtain ⟨_, _, _, _, _, _, _, _, _, _, _, _, _, _, rfl, _⟩ := h; rfl)
      | (obtain ⟨_, _, _, _, _, _, _, _, _, _, _, _, _, _, _, rfl, _⟩ := h; rfl)
      | (obtain ⟨_, _, _, _, _, _, _, _, _, _, _, _, _, _, _, _, rfl, _⟩ := h; rfl)
      | (obtain ⟨_, _, _, _, _, _, _, _, _, _, _, _, _, _, _, _, _, rfl, _⟩ := h; rfl)
  · obtain ⟨a, b, l, m, rfl, hs, hl0, hl1, hm0, hm1, q⟩ := h
    have el : (S l).length = l.length := len_S l
    have hl : (S l).length ≤ sizeLine := hp_sz (by omega)
    refine ⟨_, 
  (pss_one (ps_ret (pe_join pe_str (pe_lc (own := [("_law_k", 3)]) (g := gName 3) (tt := tYes) rfl sc_law_row.nd (pi_range1 rfl B.m_range (pa_cons (pe_call D_law_next.ok hr (by rfl) D_law_next.g D_law_next.kp D_law_next.b .nil pass0 (pa_cons (pv 0) (pa_cons (pe_op op_add (pv 2) pe_int) pa_nil))) pa_nil)) (blkOk_by (N := n_law_row) (sc := defScope s_law_row) (by decide +kernel)) (fun _ _ _ _ _ => (pg_name (i := 3) sc_law_row.nd rfl (.inl rfl))) (fun _ _ _ _ _ => pts_nil) (fun _ _ _ _ _ => (pe_ix ix_str (pv 1) (pe_call D_law_next.ok hr (by rfl) D_law_next.g D_law_next.kp D_law_next.b .nil pass0 (pa_cons (pv 0) (pa_cons (pe_callB call_len_str (by rfl) B.m_len PySem.boot_len (pa_cons (pv 1) pa_nil)) pa_nil))) (fun _ _ => rfl))))))), ?_⟩
    walk_at "vc"
    refine ⟨a, b, m + 1, rfl, hs, by omega, by omega, fun r H1 r0 r1 hs1 k1 => ?_⟩
    walk_at "vc"
    intro D hD
    refine lc_range (fun i H' => Dr a b H1 D (fun c => c ∈ l) i H') (Dr.start hs1 hD) (fun i H' hi h => ?_) (fun H' h => ?_)
    · walk_at "vc"
      refine ⟨rfl, ?_⟩
      walk_at "vc"
      have hsd : Src H' a b := by obtain ⟨_, _, _, x, _⟩ := h; exact x
      refine ⟨a, b, ((S l).length : Nat), rfl, hsd, by omega, by omega, fun r' H2 r2 r3 hs2 k2 => ?_⟩
      have hr' : r'.toNat < l.length := by omega
      refine x_ixS hl (atI_of r2 (List.getElem?_eq_getElem hr')) ?_
      exact h.step hD hs1 (by omega) hs2 k2 (List.getElem_mem hr')
    · obtain ⟨cs, hcl, hok, hsd, kd, hDd⟩ := h
      refine join_end (cs := cs) hDd (by omega) ?_
      exact q cs H' (by omega) hok hsd (k1.trans kd)


theorem ok_law_near {f : Addr} {fd : FuncData} {f_law_row : Addr} {fd_law_row : FuncData} {f_law_next : Addr} {fd_law_next : FuncData} (F : Fun K "_law_near" "_law_near" s_law_near f fd) (B : Bl mg) (D_law_row : Dn P w K mg base "_law_row" 2 ["_law_h", "_law_letters_here", "_law_most"] (sp_law_row K) f_law_row fd_law_row) (D_law_next : Dn P w K mg base "_law_next" 1 ["_law_h", "_law_many"] (sp_law_next K) f_law_next fd_law_next) : FnOk P w K mg base CX0 3 f fd ["_law_h", "_law_row_here", "_law_letters_here"] (sp_law_near K) := by
  refine F.ok sc_law_near (fun vs H Q E h => ?_) (fun cdv A outer s H vs Q E hr h => ?_)
  · first
      | (obtain ⟨_, rfl, _⟩ := h; rfl)
      | (obtain ⟨_, _, rfl, _⟩ := h; rfl)
      | (obtain ⟨_, _, _, rfl, _⟩ := h; rfl)
      | (obtain ⟨_, _, _, _, rfl, _⟩ := h; rfl)
      | (obtain ⟨_, _, _, _, _, rfl, _⟩ := h; rfl)
      | (obtain ⟨_, _, _, _, _, _, rfl, _⟩ := h; rfl)
      | (obtain ⟨_, _, _, _, _, _, _, rfl, _⟩ := h; rfl)
      | (obtain ⟨_, _, _, _, _, _, _, _, rfl, _⟩ := h; rfl)
      | (obtain ⟨_, _, _, _, _, _, _, _, _, rfl, _⟩ := h; rfl)
      | (obtain ⟨_, _, _, _, _, _, _, _, _, _, rfl, _⟩ := h; rfl)
      | (obtain ⟨_, _, _, _, _, _, _, _, _, _, _, rfl, _⟩ := h; rfl)
      | (obtain ⟨_, _, _, _, _, _, _, _, _, _, _, _, rfl, _⟩ := h; rfl)
      | (obtain ⟨_, _, _, _, _, _, _, _, _, _, _, _, _, rfl, _⟩ := h; rfl)
      | (obtain ⟨_, _, _, _, _, _, _, _, _, _, _, _, _, _, rfl, _⟩ := h; rfl)
      | (obtain ⟨_, _, _, _, _, _, _, _, _, _, _, _, _, _, _, rfl, _⟩ := h; rfl)
      | (obtain ⟨_, _, _, _, _, _, _, _, _, _, _, _, _, _, _, _, rfl, _⟩ := h; rfl)
      | (obtain ⟨_, _, _, _, _, _, _, _, _, _, _, _, _, _, _, _, _, rfl, _⟩ := h; rfl)
  · obtain ⟨a, b, r, l, rfl, hs, hl0, hl1, hr1, hrl, q⟩ := h
    have el : (S l).length = l.length := len_S l
    have er : (S r).length = r.length := len_S r
    have hl : (S l).length ≤ sizeLine := hp_sz (by omega)
    refine ⟨_, 
  (pss_cons (ps_set (i := 3) sc_law_near.nd rfl (.inl rfl) (pe_call D_law_row.ok hr (by rfl) D_law_row.g D_law_row.kp D_law_row.b .nil pass0 (pa_cons (pv 0) (pa_cons (pv 2) (pa_cons pe_int pa_nil))))) 
  (pss_cons (ps_set (i := 4) sc_law_near.nd rfl (.inl rfl) (pe_op op_add pe_int (pe_call D_law_next.ok (hr.mono (by decide)) (by rfl) D_law_next.g D_law_next.kp D_law_next.b .nil pass0 (pa_cons (pv 0) (pa_cons pe_int pa_nil))))) 
  (pss_cons (ps_for PassesOwn.never rfl (pi_str (pv 1)) (pg_name (i := 5) sc_law_near.nd rfl (.inl rfl)) 
    (pss_cons (ps_set (i := 6) sc_law_near.nd rfl (.inl rfl) (pe_call D_law_next.ok (hr.mono (by decide)) (by rfl) D_law_next.g D_law_next.kp D_law_next.b .nil pass0 (pa_cons (pv 0) (pa_cons (pv 4) pa_nil)))) 
    (pss_one (ps_if (pt_cmpR op_gt (pv 6) pe_int (nomark _)) 
      (pss_one (ps_set (i := 3) sc_law_near.nd rfl (.inl rfl) (pe_op op_add_str (pv 3) (pv 5)))) 
      (pss_one (ps_if (pt_cmpR op_gt (pe_call D_law_next.ok (hr.mono (by decide)) (by rfl) D_law_next.g D_law_next.kp D_law_next.b .nil pass0 (pa_cons (pv 0) (pa_cons pe_int pa_nil))) pe_int (nomark _)) 
        (pss_one (ps_set (i := 3) sc_law_near.nd rfl (.inl rfl) (pe_op op_add_str (pv 3) (pe_ix ix_str (pv 2) (pe_call D_law_next.ok (hr.mono (by decide)) (by rfl) D_law_next.g D_law_next.kp D_law_next.b .nil pass0 (pa_cons (pv 0) (pa_cons (pe_callB call_len_str (by rfl) B.m_len PySem.boot_len (pa_cons (pv 2) pa_nil)) pa_nil))) (fun _ _ => rfl))))) pss_nil)))))) 
  (pss_one (ps_ret (pe_slice sl_str (pe_op op_add_str (pv 3) (pe_call D_law_row.ok hr (by rfl) D_law_row.g D_law_row.kp D_law_row.b .nil pass0 (pa_cons (pv 0) (pa_cons (pv 2) (pa_cons pe_int pa_nil))))) po_none (po_some pe_int))))))), ?_⟩
    walk_at "vc"
    refine ⟨a, b, l, 6, rfl, hs, hl0, hl1, by omega, by omega, fun f H1 hf1 hf2 hs1 k1 => ?_⟩
    walk_at "vc"
    refine ⟨a, b, 12, rfl, hs1, by omega, by omega, fun kk H2 kk0 kk1 hs2 k2 => ?_⟩
    walk_at "vc"
    refine for_it (walk_str (z := S r)) (fun i σ H' => ∃ (z : List Nat) (y5 y6 : Option V), σ = [some (.ref a), some (.str (S r)), some (.str (S l)), some (.str (S z)), some (.int (2 + kk)), y5, y6] ∧ z.length ≤ 6 + i ∧ (∀ c ∈ z, c ∈ l) ∧ Src H' a b ∧ Kp a b H H')
      ⟨f, none, none, rfl, by omega, hf2, hs2, k1.trans k2⟩ (fun _ _ _ _ _ => trivial) ?_ ?_
    · rintro i x σ H3 H4 hi ⟨z, y5, y6, rfl, hz1, hz2, hs3, k3⟩ ⟨rfl, c, hc, rfl⟩
      have hi' : i < r.length := hi
      have hcl : c ∈ l := by
        refine hrl c ?_
        have : r[i]? = some c := by simpa [S] using hc
        exact List.mem_of_getElem? this
      have ez : (S z).length = z.length := len_S z
      have fin : ∀ (z' : List Nat) (y5 y6 : Option V) (H5 : Hp), z'.length ≤ 6 + (i + 1) → (∀ c ∈ z', c ∈ l) → Src H5 a b → Kp a b H4 H5 → ∃ (z : List Nat) (y5' y6' : Option V), [some (V.ref a), some (.str (S r)), some (.str (S l)), some (.str (S z')), some (.int (2 + kk)), y5, y6] = [some (.ref a), some (.str (S r)), some (.str (S l)), some (.str (S z)), some (.int (2 + kk)), y5', y6'] ∧ z.length ≤ 6 + (i + 1) ∧ (∀ c ∈ z, c ∈ l) ∧ Src H5 a b ∧ Kp a b H H5 :=
        fun z' y5 y6 H5 h1 h2 h3 h4 => ⟨z', y5, y6, rfl, h1, h2, h3, k3.trans h4⟩
      have hadd : ∀ d : Nat, d ∈ l → (z ++ [d]).length ≤ 6 + (i + 1) ∧ ∀ c ∈ z ++ [d], c ∈ l := fun d hd => by
        refine ⟨by rw [List.length_append]; show z.length + 1 ≤ _; omega, fun c hc => ?_⟩
        rcases List.mem_append.mp hc with h | h
        · exact hz2 c h
        · rw [List.mem_singleton.mp h]
          exact hd
      walk_at "vc"
      refine ⟨a, b, 2 + kk, rfl, hs3, by omega, by omega, fun w1 H5 w10 w11 hs5 k5 => ?_⟩
      walk_at "vc"
      refine ite2 (fun e => ?_) (fun e => ?_)
      · walk_at "vc"
        refine ⟨S z, sg c, rfl, rfl, hp_sz (by show (S z).length + 1 ≤ _; omega), ?_⟩
        rw [sg_S, S_app]
        exact fin (z ++ [c]) _ _ H5 (hadd c hcl).1 (hadd c hcl).2 hs5 k5
      · walk_at "vc"
        refine ⟨a, b, 3, rfl, hs5, by omega, by omega, fun w2 H6 w20 w21 hs6 k6 => ?_⟩
        walk_at "vc"
        refine ite2 (fun e => ?_) (fun e => ?_)
        · walk_at "vc"
          refine ⟨a, b, ((S l).length : Nat), rfl, hs6, by omega, by omega, fun w3 H7 w30 w31 hs7 k7 => ?_⟩
          have hw : w3.toNat < l.length := by omega
          refine x_ixS hl (atI_of w30 (List.getElem?_eq_getElem hw)) ?_
          refine ⟨S z, sg l[w3.toNat], rfl, rfl, hp_sz (by show (S z).length + 1 ≤ _; omega), ?_⟩
          walk_at "vc"
          rw [sg_S, S_app]
          exact fin (z ++ [l[w3.toNat]]) _ _ H7 (hadd _ (List.getElem_mem hw)).1 (hadd _ (List.getElem_mem hw)).2 hs7 (k5.trans (k6.trans k7))
        · walk_at "vc"
          exact fin z _ _ H6 (by omega) hz2 hs6 (k5.trans k6)
    · rintro σ H3 ⟨z, y5, y6, rfl, hz1, hz2, hs3, k3⟩
      have hz1' : z.length ≤ 6 + r.length := hz1
      walk_at "vc"
      refine ⟨a, b, l, 6, rfl, hs3, hl0, hl1, by omega, by omega, fun f2 H4 hg1 hg2 hs4 k4 => ?_⟩
      refine ⟨S z, S f2, rfl, rfl, hp_sz (by rw [len_S, len_S]; omega), ?_⟩
      rw [S_app]
      walk_at "vc"
      refine x_slS (hp_sz (by rw [len_S, List.length_append]; omega)) ?_
      have hall : ∀ c ∈ z ++ f2, c ∈ l := fun c hc => by
        rcases List.mem_append.mp hc with h | h
        · exact hz2 c h
        · exact hg2 c h
      have ecut : cutS (S (z ++ f2)) none (some 60) = S ((z ++ f2).take 60) := cutS_take (z ++ f2) 60
      rw [ecut]
      exact q _ H4 (by rw [List.length_take]; omega) (fun c hc => hall c (List.mem_of_mem_take hc)) hs4 (k3.trans k4)


theorem ok_law_scale {f : Addr} {fd : FuncData} {f_law_next : Addr} {fd_law_next : FuncData} (F : Fun K "_law_scale" "_law_scale" s_law_scale f fd) (B : Bl mg) (D_law_next : Dn P w K mg base "_law_next" 1 ["_law_h", "_law_many"] (sp_law_next K) f_law_next fd_law_next) : FnOk P w K mg base CX0 2 f fd ["_law_h"] (sp_law_scale K) := by
  refine F.ok sc_law_scale (fun vs H Q E h => ?_) (fun cdv A outer s H vs Q E hr h => ?_)
  · first
      | (obtain ⟨_, rfl, _⟩ := h; rfl)
      | (obtain ⟨_, _, rfl, _⟩ := h; rfl)
      | (obtain ⟨_, _, _, rfl, _⟩ := h; rfl)
      | (obtain ⟨_, _, _, _, rfl, _⟩ := h; rfl)
      | (obtain ⟨_, _, _, _, _, rfl, _⟩ := h; rfl)
      | (obtain ⟨_, _, _, _, _, _, rfl, _⟩ := h; rfl)
      | (obtain ⟨_, _, _, _, _, _, _, rfl, _⟩ := h; rfl)
      | (obtain ⟨_, _, _, _, _, _, _, _, rfl, _⟩ := h; rfl)
      | (obtain ⟨_, _, _, _, _, _, _, _, _, rfl, _⟩ := h; rfl)
      | (obtain ⟨_, _, _, _, _, _, _, _, _, _, rfl, _⟩ := h; rfl)
      | (obtain ⟨_, _, _, _, _, _, _, _, _, _, _, rfl, _⟩ := h; rfl)
      | (obtain ⟨_, _, _, _, _, _, _, _, _, _, _, _, rfl, _⟩ := h; rfl)
      | (obtain ⟨_, _, _, _, _, _, _, _, _, _, _, _, _, rfl, _⟩ := h; rfl)
      | (obtain ⟨_, _, _, _, _, _, _, _, _, _, _, _, _, _, rfl, _⟩ := h; rfl)
      | (obtain ⟨_, _, _, _, _, _, _, _, _, _, _, _, _, _, _, rfl, _⟩ := h; rfl)
      | (obtain ⟨_, _, _, _, _, _, _, _, _, _, _, _, _, _, _, _, rfl, _⟩ := h; rfl)
      | (obtain ⟨_, _, _, _, _, _, _, _, _, _, _, _, _, _, _, _, _, rfl, _⟩ := h; rfl)
  · obtain ⟨a, b, rfl, hs, q⟩ := h
    refine ⟨_, 
  (pss_one (ps_ret (pe_tup (pa_cons (pe_op op_add pe_int (pe_call D_law_next.ok hr (by rfl) D_law_next.g D_law_next.kp D_law_next.b .nil pass0 (pa_cons (pv 0) (pa_cons (pe_ix ix_list (pe_lst (pa_cons pe_int (pa_cons pe_int pa_nil))) (pe_call D_law_next.ok hr (by rfl) D_law_next.g D_law_next.kp D_law_next.b .nil pass0 (pa_cons (pv 0) (pa_cons pe_int pa_nil))) (fun _ _ => rfl)) pa_nil)))) (pa_cons (pe_op op_add pe_int (pe_call D_law_next.ok hr (by rfl) D_law_next.g D_law_next.kp D_law_next.b .nil pass0 (pa_cons (pv 0) (pa_cons pe_int pa_nil)))) pa_nil))))), ?_⟩
    walk_at "vc"
    refine ⟨by decide, fun p hp => ?_⟩
    walk_at "vc"
    refine ⟨a, b, 2, rfl, hs.new hp, by omega, by omega, fun r H1 r0 r1 hs1 k1 => ?_⟩
    have hp1 : H1 p = some (.lst [.int 9, .int 3]) := k1 p _ (hs.ne_a hp) (hs.ne_b hp) upd_same
    have key : ∃ m : Int, atI [V.int 9, V.int 3] r = some (.int m) ∧ 0 < m ∧ m ≤ 9 := by
      have : r = 0 ∨ r = 1 := by omega
      rcases this with rfl | rfl
      · exact ⟨9, rfl, by omega, by omega⟩
      · exact ⟨3, rfl, by omega, by omega⟩
    obtain ⟨m, em, m0, m1⟩ := key
    walk_at "vc"
    refine ⟨a, b, m, rfl, hs1, by omega, by omega, fun r' H2 r2 r3 hs2 k2 => ?_⟩
    walk_at "vc"
    refine ⟨a, b, 9, rfl, hs2, by omega, by omega, fun r'' H3 r4 r5 hs3 k3 => ?_⟩
    walk_at "vc"
    refine ⟨show 2 ≤ sizeLine by decide, fun t ht => ?_⟩
    exact q _ _ t _ (by omega) (by omega) (by omega) (by omega) upd_same (hs3.ne_a ht) (hs3.ne_b ht) (hs3.new ht) ((Kp.new hp).trans (k1.trans (k2.trans (k3.trans (Kp.new ht)))))


theorem ok_law_seed {f : Addr} {fd : FuncData} {f_law_next : Addr} {fd_law_next : FuncData} (F : Fun K "_law_seed" "_law_seed" s_law_seed f fd) (B : Bl mg) (D_law_next : Dn P w K mg base "_law_next" 1 ["_law_h", "_law_many"] (sp_law_next K) f_law_next fd_law_next) : FnOk P w K mg base CX0 2 f fd ["_law_h", "_law_most"] (sp_law_seed K) := by
  refine F.ok sc_law_seed (fun vs H Q E h => ?_) (fun cdv A outer s H vs Q E hr h => ?_)
  · first
      | (obtain ⟨_, rfl, _⟩ := h; rfl)
      | (obtain ⟨_, _, rfl, _⟩ := h; rfl)
      | (obtain ⟨_, _, _, rfl, _⟩ := h; rfl)
      | (obtain ⟨_, _, _, _, rfl, _⟩ := h; rfl)
      | (obtain ⟨_, _, _, _, _, rfl, _⟩ := h; rfl)
      | (obtain ⟨_, _, _, _, _, _, rfl, _⟩ := h; rfl)
      | (obtain ⟨_, _, _, _, _, _, _, rfl, _⟩ := h; rfl)
      | (obtain ⟨_, _, _, _, _, _, _, _, rfl, _⟩ := h; rfl)
      | (obtain ⟨_, _, _, _, _, _, _, _, _, rfl, _⟩ := h; rfl)
      | (obtain ⟨_, _, _, _, _, _, _, _, _, _, rfl, _⟩ := h; rfl)
      | (obtain ⟨_, _, _, _, _, _, _, _, _, _, _, rfl, _⟩ := h; rfl)
      | (obtain ⟨_, _, _, _, _, _, _, _, _, _, _, _, rfl, _⟩ := h; rfl)
      | (obtain ⟨_, _, _, _, _, _, _, _, _, _, _, _, _, rfl, _⟩ := h; rfl)
      | (obtain ⟨_, _, _, _, _, _, _, _, _, _, _, _, _, _, rfl, _⟩ := h; rfl)
      | (obtain ⟨_, _, _, _, _, _, _, _, _, _, _, _, _, _, _, rfl, _⟩ := h; rfl)
      | (obtain ⟨_, _, _, _, _, _, _, _, _, _, _, _, _, _, _, _, rfl, _⟩ := h; rfl)
      | (obtain ⟨_, _, _, _, _, _, _, _, _, _, _, _, _, _, _, _, _, rfl, _⟩ := h; rfl)
  · obtain ⟨a, b, m, rfl, hs, hm0, hm1, q⟩ := h
    refine ⟨_, 
  (pss_cons (ps_set (i := 2) sc_law_seed.nd rfl (.inl rfl) (pe_op op_add pe_int (pe_call D_law_next.ok hr (by rfl) D_law_next.g D_law_next.kp D_law_next.b .nil pass0 (pa_cons (pv 0) (pa_cons (pv 1) pa_nil))))) 
  (pss_cons (ps_if (pt_cmpR op_eq (pv 2) pe_int (nomark _)) 
    (pss_one (ps_ret pe_str)) pss_nil) 
  (pss_one (ps_ret (pe_op op_add_str (pe_op op_add_str pe_str (pe_join pe_str (pe_lc (own := [("_law_k", 3)]) (g := gName 3) (tt := tYes) rfl sc_law_seed.nd (pi_range1 rfl B.m_range (pa_cons (pe_op op_sub (pv 2) pe_int) pa_nil)) (blkOk_by (N := n_law_seed) (sc := defScope s_law_seed) (by decide +kernel)) (fun _ _ _ _ _ => (pg_name (i := 3) sc_law_seed.nd rfl (.inl rfl))) (fun _ _ _ _ _ => pts_nil) (fun _ _ _ _ _ => (pe_ix ix_str pe_str (pe_call D_law_next.ok hr (by rfl) D_law_next.g D_law_next.kp D_law_next.b .nil pass0 (pa_cons (pv 0) (pa_cons pe_int pa_nil))) (fun _ _ => rfl)))))) pe_str))))), ?_⟩
    walk_at "vc"
    refine ⟨a, b, (m : Nat), rfl, hs, by omega, by omega, fun r H1 r0 r1 hs1 k1 => ?_⟩
    walk_at "vc"
    refine ite2 (fun e => ?_) (fun e => ?_)
    · walk_at "vc"
      exact q [35] H1 ⟨Nat.le_refl _, hm0, fun c hc => .inl (List.mem_singleton.mp hc), rfl, rfl⟩ hs1 k1
    · have e1 : 1 + r ≠ 1 := fun h => e (decide_eq_true (by rw [h]))
      walk_at "vc"
      intro D hD
      have en : (1 + r - 2).toNat = (r - 1).toNat := by omega
      rw [en]
      refine lc_range (fun i H' => Dr a b H1 D (fun c => c = 35 ∨ c = 45) i H') (Dr.start hs1 hD) (fun i H' hi h => ?_) (fun H' h => ?_)
      · have hsd : Src H' a b := by obtain ⟨_, _, _, x, _⟩ := h; exact x
        walk_at "vc"
        refine ⟨rfl, ?_⟩
        walk_at "vc"
        refine ⟨a, b, 2, rfl, hsd, by omega, by omega, fun r' H3 r2 r3 hs3 k3 => ?_⟩
        have key : ∃ c : Nat, atI ("#-" : Str).cps.toList r' = some c ∧ (c = 35 ∨ c = 45) := by
          have : r' = 0 ∨ r' = 1 := by omega
          rcases this with rfl | rfl
          · exact ⟨35, by decide +kernel, .inl rfl⟩
          · exact ⟨45, by decide +kernel, .inr rfl⟩
        obtain ⟨c, ec, hc⟩ := key
        refine x_ixS (by decide +kernel) ec ?_
        exact h.step (c := c) hD hs1 (by omega) hs3 k3 hc
      · obtain ⟨cs, hcl, hok, hsd, kd, hDd⟩ := h
        refine x_join (ys := cs.map sg) (SqL.of (by rw [lst_map_signs]; exact hDd)) (by have e := signs_len cs; show ((List.map sg cs).map (·.length)).sum + (cs.map sg).length * ("" : Str).length ≤ _; omega) ?_
        rw [show Txt.join (Str.ofString "") (cs.map sg) = S cs from join_signs _]
        have e1 : (Str.ofString "#") = S [35] := rfl
        rw [e1]
        refine ⟨S [35], S cs, rfl, rfl, hp_sz (by rw [len_S, len_S]; show 1 + cs.length ≤ _; omega), ?_⟩
        rw [S_app]
        walk_at "vc"
        refine ⟨S ([35] ++ cs), S [35], rfl, rfl, hp_sz (by rw [len_S, len_S, List.length_append]; show 1 + cs.length + 1 ≤ _; omega), ?_⟩
        rw [S_app]
        refine q ([35] ++ cs ++ [35]) H' ⟨?_, ?_, fun c hc => ?_, rfl, ?_⟩ hsd (k1.trans kd)
        · rw [List.length_append]
          show 1 ≤ _ + 1
          omega
        · rw [List.length_append, List.length_append]
          show 1 + cs.length + 1 ≤ m
          omega
        · rcases List.mem_append.mp hc with z | z
          · rcases List.mem_append.mp z with z | z
            · exact .inl (List.mem_singleton.mp z)
            · exact hok c z
          · exact .inl (List.mem_singleton.mp z)
        · rw [List.getElem?_append_right (by simp)]
          simp


theorem ok_law_seeds {f : Addr} {fd : FuncData} {f_law_seed : Addr} {fd_law_seed : FuncData} {f_law_next : Addr} {fd_law_next : FuncData} (F : Fun K "_law_seeds" "_law_seeds" s_law_seeds f fd) (B : Bl mg) (D_law_seed : Dn P w K mg base "_law_seed" 2 ["_law_h", "_law_most"] (sp_law_seed K) f_law_seed fd_law_seed) (D_law_next : Dn P w K mg base "_law_next" 1 ["_law_h", "_law_many"] (sp_law_next K) f_law_next fd_law_next) : FnOk P w K mg base CX0 3 f fd ["_law_h", "_law_most"] (sp_law_seeds K) := by
  refine F.ok sc_law_seeds (fun vs H Q E h => ?_) (fun cdv A outer s H vs Q E hr h => ?_)
  · first
      | (obtain ⟨_, rfl, _⟩ := h; rfl)
      | (obtain ⟨_, _, rfl, _⟩ := h; rfl)
      | (obtain ⟨_, _, _, rfl, _⟩ := h; rfl)
      | (obtain ⟨_, _, _, _, rfl, _⟩ := h; rfl)
      | (obtain ⟨_, _, _, _, _, rfl, _⟩ := h; rfl)
      | (obtain ⟨_, _, _, _, _, _, rfl, _⟩ := h; rfl)
      | (obtain ⟨_, _, _, _, _, _, _, rfl, _⟩ := h; rfl)
      | (obtain ⟨_, _, _, _, _, _, _, _, rfl, _⟩ := h; rfl)
      | (obtain ⟨_, _, _, _, _, _, _, _, _, rfl, _⟩ := h; rfl)
      | (obtain ⟨_, _, _, _, _, _, _, _, _, _, rfl, _⟩ := h; rfl)
      | (obtain ⟨_, _, _, _, _, _, _, _, _, _, _, rfl, _⟩ := h; rfl)
      | (obtain ⟨_, _, _, _, _, _, _, _, _, _, _, _, rfl, _⟩ := h; rfl)
      | (obtain ⟨_, _, _, _, _, _, _, _, _, _, _, _, _, rfl, _⟩ := h; rfl)
      | (obtain ⟨_, _, _, _, _, _, _, _, _, _, _, _, _, _, rfl, _⟩ := h; rfl)
      | (obtain ⟨_, _, _, _, _, _, _, _, _, _, _, _, _, _, _, rfl, _⟩ := h; rfl)
      | (obtain ⟨_, _, _, _, _, _, _, _, _, _, _, _, _, _, _, _, rfl, _⟩ := h; rfl)
      | (obtain ⟨_, _, _, _, _, _, _, _, _, _, _, _, _, _, _, _, _, rfl, _⟩ := h; rfl)
  · obtain ⟨a, b, m, rfl, hs, hm0, hm1, q⟩ := h
    refine ⟨_, 
  (pss_one (ps_ret (pe_lc (own := [("_law_k", 2)]) (g := gName 2) (tt := tYes) rfl sc_law_seeds.nd (pi_range1 rfl B.m_range (pa_cons (pe_op op_add pe_int (pe_call D_law_next.ok (hr.mono (by decide)) (by rfl) D_law_next.g D_law_next.kp D_law_next.b .nil pass0 (pa_cons (pv 0) (pa_cons pe_int pa_nil)))) pa_nil)) (blkOk_by (N := n_law_seeds) (sc := defScope s_law_seeds) (by decide +kernel)) (fun _ _ _ _ _ => (pg_name (i := 2) sc_law_seeds.nd rfl (.inl rfl))) (fun _ _ _ _ _ => pts_nil) (fun _ _ _ _ _ => (pe_call D_law_seed.ok hr (by rfl) D_law_seed.g D_law_seed.kp D_law_seed.b .nil pass0 (pa_cons (pv 0) (pa_cons (pv 1) pa_nil))))))), ?_⟩
    walk_at "vc"
    refine ⟨a, b, 3, rfl, hs, by omega, by omega, fun r H1 r0 r1 hs1 k1 => ?_⟩
    walk_at "vc"
    intro D hD
    have na := hs1.ne_a hD
    have nb := hs1.ne_b hD
    refine lc_range (fun i H' => ∃ sds : List (List Nat), sds.length = i ∧ (∀ sd ∈ sds, Sd m sd) ∧ Src H' a b ∧ Kp a b H1 H' ∧ H' D = some (.lst (sds.map strV))) ⟨[], rfl, (fun c h => nomatch h), hs1.new hD, Kp.new hD, upd_same⟩ (fun i H' hi h => ?_) (fun H' h => ?_)
    · obtain ⟨sds, hl, hok, hsd, kd, hDd⟩ := h
      walk_at "vc"
      refine ⟨rfl, ?_⟩
      walk_at "vc"
      refine ⟨a, b, m, rfl, hsd, hm0, hm1, fun sd H2 hsd2 hs2 k2 => ?_⟩
      refine ⟨_, k2 D _ na nb hDd, by rw [List.length_map, hl]; exact Nat.lt_of_le_of_lt (by omega : i ≤ 1000) (by decide), sds ++ [sd], by rw [List.length_append, hl]; rfl, fun s hs' => ?_, hs2.upd na nb, fun p o h1 h2 e => ?_, ?_⟩
      · rcases List.mem_append.mp hs' with z | z
        · exact hok s z
        · rw [List.mem_singleton.mp z]
          exact hsd2
      · rw [upd_ne (ne_of_none e hD)]
        exact k2 p o h1 h2 (kd p o h1 h2 e)
      · rw [upd_same, List.map_append]
        rfl
    · obtain ⟨sds, hl, hok, hsd, kd, hDd⟩ := h
      have hD0 : H D = none := by
        cases e : H D with
        | none => rfl
        | some o =>
          have := k1 D o na nb e
          rw [hD] at this
          cases this
      exact q D sds H' hok (by omega) (by omega) hDd hD0 na nb hsd (k1.trans kd)


theorem ok_law_rows {f : Addr} {fd : FuncData} {f_law_next : Addr} {fd_law_next : FuncData} {f_law_near : Addr} {fd_law_near : FuncData} {f_law_row : Addr} {fd_law_row : FuncData} (F : Fun K "_law_rows" "_law_rows" s_law_rows f fd) (B : Bl mg) (D_law_next : Dn P w K mg base "_law_next" 1 ["_law_h", "_law_many"] (sp_law_next K) f_law_next fd_law_next) (D_law_near : Dn P w K mg base "_law_near" 3 ["_law_h", "_law_row_here", "_law_letters_here"] (sp_law_near K) f_law_near fd_law_near) (D_law_row : Dn P w K mg base "_law_row" 2 ["_law_h", "_law_letters_here", "_law_most"] (sp_law_row K) f_law_row fd_law_row) : FnOk P w K mg base CX0 4 f fd ["_law_h", "_law_letters_here", "_law_most"] (sp_law_rows K) := by
  refine F.ok sc_law_rows (fun vs H Q E h => ?_) (fun cdv A outer s H vs Q E hr h => ?_)
  · first
      | (obtain ⟨_, rfl, _⟩ := h; rfl)
      | (obtain ⟨_, _, rfl, _⟩ := h; rfl)
      | (obtain ⟨_, _, _, rfl, _⟩ := h; rfl)
      | (obtain ⟨_, _, _, _, rfl, _⟩ := h; rfl)
      | (obtain ⟨_, _, _, _, _, rfl, _⟩ := h; rfl)
      | (obtain ⟨_, _, _, _, _, _, rfl, _⟩ := h; rfl)
      | (obtain ⟨_, _, _, _, _, _, _, rfl, _⟩ := h; rfl)
      | (obtain ⟨_, _, _, _, _, _, _, _, rfl, _⟩ := h; rfl)
      | (obtain ⟨_, _, _, _, _, _, _, _, _, rfl, _⟩ := h; rfl)
      | (obtain ⟨_, _, _, _, _, _, _, _, _, _, rfl, _⟩ := h; rfl)
      | (obtain ⟨_, _, _, _, _, _, _, _, _, _, _, rfl, _⟩ := h; rfl)
      | (obtain ⟨_, _, _, _, _, _, _, _, _, _, _, _, rfl, _⟩ := h; rfl)
      | (obtain ⟨_, _, _, _, _, _, _, _, _, _, _, _, _, rfl, _⟩ := h; rfl)
      | (obtain ⟨_, _, _, _, _, _, _, _, _, _, _, _, _, _, rfl, _⟩ := h; rfl)
      | (obtain ⟨_, _, _, _, _, _, _, _, _, _, _, _, _, _, _, rfl, _⟩ := h; rfl)
      | (obtain ⟨_, _, _, _, _, _, _, _, _, _, _, _, _, _, _, _, rfl, _⟩ := h; rfl)
      | (obtain ⟨_, _, _, _, _, _, _, _, _, _, _, _, _, _, _, _, _, rfl, _⟩ := h; rfl)
  · obtain ⟨a, b, lt, m, rfl, hs, l0, l1, hc, m0, m1, q⟩ := h
    refine ⟨_, 
  (pss_cons (ps_set (i := 3) sc_law_rows.nd rfl (.inl rfl) (pe_lst pa_nil)) 
  (pss_cons (ps_for PassesOwn.never rfl (pi_range1 rfl B.m_range (pa_cons (pe_call D_law_next.ok (hr.mono (by decide)) (by rfl) D_law_next.g D_law_next.kp D_law_next.b .nil pass0 (pa_cons (pv 0) (pa_cons (pe_op op_add (pv 2) pe_int) pa_nil))) pa_nil)) (pg_name (i := 4) sc_law_rows.nd rfl (.inl rfl)) 
    (pss_one (ps_if (PW.pt (pw_and (pt_cmpR (op_neD hr.units) (pv 3) (pe_lst pa_nil) (nomark _)) (pw_and1 (pt_cmpR op_gt (pe_call D_law_next.ok (hr.mono (by decide)) (by rfl) D_law_next.g D_law_next.kp D_law_next.b .nil pass0 (pa_cons (pv 0) (pa_cons pe_int pa_nil))) pe_int (nomark _))))) 
      (pss_one (ps_expr (pe_bm PySem.F.plainAttrs_list PySem.F.slot_list_append PySem.F.type_list_append mt_append (pv 3) (pa_cons (pe_call D_law_near.ok hr (by rfl) D_law_near.g D_law_near.kp D_law_near.b .nil pass0 (pa_cons (pv 0) (pa_cons (pe_ix ix_list (pv 3) (pe_un un_neg pe_int) (fun _ _ => rfl)) (pa_cons (pv 1) pa_nil)))) pa_nil)))) 
      (pss_one (ps_expr (pe_bm PySem.F.plainAttrs_list PySem.F.slot_list_append PySem.F.type_list_append mt_append (pv 3) (pa_cons (pe_call D_law_row.ok (hr.mono (by decide)) (by rfl) D_law_row.g D_law_row.kp D_law_row.b .nil pass0 (pa_cons (pv 0) (pa_cons (pv 1) (pa_cons pe_int pa_nil)))) pa_nil))))))) 
  (pss_one (ps_ret (pv 3))))), ?_⟩
    walk_at "vc"
    refine ⟨by decide, fun rp hrp => ?_⟩
    have na := hs.ne_a hrp
    have nb := hs.ne_b hrp
    have hs1 := hs.new (o := .lst []) hrp
    have k1 : Kp a b H (upd H rp (.lst [])) := Kp.new hrp
    have hrp1 : upd H rp (.lst []) rp = some (.lst []) := upd_same
    generalize upd H rp (.lst []) = H1 at hs1 k1 hrp1
    walk_at "vc"
    refine ⟨a, b, m + 1, rfl, hs1, by omega, by omega, fun n H2 n0 n1 hs2 k2 => ?_⟩
    have hrp2 := k2 _ _ na nb hrp1
    walk_at "vc"
    refine for_range (fun i σ H' => ∃ (rows : List (List Nat)) (y4 : Option V), σ = [some (.ref a), some (.str (S lt)), some (.int m), some (.ref rp), y4] ∧ rows.length = i ∧ (∀ z ∈ rows, z.length ≤ 60 ∧ ∀ c ∈ z, c ∈ lt) ∧ H' rp = some (.lst (rows.map strV)) ∧ Src H' a b ∧ Kp a b H H') ⟨[], _, rfl, rfl, fun z h => (nomatch h), hrp2, hs2, k1.trans k2⟩ ?_ ?_
    · rintro i σ H3 hi ⟨rows, y4, rfl, hl, hok, hrp3, hs3, k3⟩
      have hi1 : i ≤ 1000 := by omega
      have push : ∀ (z : List Nat) (H' : Hp), z.length ≤ 60 → (∀ c ∈ z, c ∈ lt) → H' rp = some (.lst (rows.map strV)) → Src H' a b → Kp a b H H' → ∃ (rows' : List (List Nat)) (y4' : Option V), [some (V.ref a), some (.str (S lt)), some (.int m), some (.ref rp), some (V.int (0 + (i : Int)))] = [some (V.ref a), some (.str (S lt)), some (.int m), some (.ref rp), y4'] ∧ rows'.length = i + 1 ∧ (∀ z ∈ rows', z.length ≤ 60 ∧ ∀ c ∈ z, c ∈ lt) ∧ upd H' rp (.lst (rows.map strV ++ [V.str (S z)])) rp = some (.lst (rows'.map strV)) ∧ Src (upd H' rp (.lst (rows.map strV ++ [V.str (S z)]))) a b ∧ Kp a b H (upd H' rp (.lst (rows.map strV ++ [V.str (S z)]))) := fun z H' hz hzl e1 e2 e3 => by
        refine ⟨rows ++ [z], _, rfl, by rw [List.length_append, hl]; rfl, fun y hy => ?_, ?_, e2.upd na nb, fun p o h1 h2 e => ?_⟩
        · rcases List.mem_append.mp hy with h | h
          · exact hok y h
          · rw [List.mem_singleton.mp h]
            exact ⟨hz, hzl⟩
        · rw [upd_same, List.map_append]
          rfl
        · rw [upd_ne (ne_of_none e hrp)]
          exact e3 p o h1 h2 e
      have hsz : (rows.map strV).length < sizeLine := by
        rw [List.length_map]
        exact Nat.lt_of_le_of_lt (by omega : _ ≤ 1000) (by decide)
      have plain : ∀ H4 : Hp, H4 rp = some (.lst (rows.map strV)) → Src H4 a b → Kp a b H H4 → ∀ (D : Ends), True := fun _ _ _ _ _ => trivial
      walk_at "vc"
      refine ⟨by decide, fun p hp => ?_⟩
      refine neS_nil (cs := rows) (fun z hz c hcz => hc c ((hok z hz).2 c hcz)) ((upd_ne (ne_of_none hrp3 hp)).trans hrp3) upd_same ?_
      have hs4 := hs3.new (o := .lst []) hp
      have hrp4 : upd H3 p (.lst []) rp = _ := (upd_ne (ne_of_none hrp3 hp)).trans hrp3
      have k4 : Kp a b H (upd H3 p (.lst [])) := k3.trans (Kp.new hp)
      generalize upd H3 p (.lst []) = H4 at hs4 hrp4 k4
      by_cases hne : rows = []
      · rw [show (!rows.isEmpty) = false by rw [hne]; rfl]
        walk_at "vc"
        refine ⟨.inl ⟨rfl, _, SqL.of hrp4⟩, ?_⟩
        walk_at "vc"
        refine ⟨a, b, lt, 60, rfl, hs4, l0, l1, by omega, by omega, fun z H5 hz hzl hs5 k5 => ?_⟩
        walk_at "vc"
        refine x_append (k5 _ _ na nb hrp4) hsz ?_
        exact push z H5 (by omega) hzl (k5 _ _ na nb hrp4) hs5 (k4.trans k5)
      · rw [show (!rows.isEmpty) = true by cases rows <;> first | exact absurd rfl hne | rfl]
        walk_at "vc"
        refine ⟨a, b, 3, rfl, hs4, by omega, by omega, fun c H5 _ _ hs5 k5 => ?_⟩
        have hrp5 := k5 _ _ na nb hrp4
        walk_at "vc"
        refine ite2 (fun e => ?_) (fun e => ?_)
        · walk_at "vc"
          refine ⟨.inl ⟨rfl, _, SqL.of hrp5⟩, ?_⟩
          walk_at "vc"
          have hm : rows.getLast hne ∈ rows := List.getLast_mem hne
          refine x_ixL (v := .str (S (rows.getLast hne))) (SqL.of hrp5) ?_ ?_
          · have h0 : 0 < rows.length := List.length_pos_iff.mpr hne
            unfold atI ixN
            rw [List.length_map, if_neg (by omega), if_pos (by omega)]
            show (rows.map strV)[_]? = _
            rw [List.getElem?_map, show (-1 + (rows.length : Int)).toNat = rows.length - 1 by omega, ← List.getLast?_eq_getElem?, List.getLast?_eq_some_getLast hne]
            rfl
          walk_at "vc"
          refine ⟨a, b, _, lt, rfl, hs5, l0, l1, by have := (hok _ hm).1; omega, (hok _ hm).2, fun z H6 hz hzl hs6 k6 => ?_⟩
          walk_at "vc"
          refine x_append (k6 _ _ na nb hrp5) hsz ?_
          exact push z H6 hz hzl (k6 _ _ na nb hrp5) hs6 (k4.trans (k5.trans k6))
        · walk_at "vc"
          refine ⟨.inl ⟨rfl, _, SqL.of hrp5⟩, ?_⟩
          walk_at "vc"
          refine ⟨a, b, lt, 60, rfl, hs5, l0, l1, by omega, by omega, fun z H6 hz hzl hs6 k6 => ?_⟩
          walk_at "vc"
          refine x_append (k6 _ _ na nb hrp5) hsz ?_
          exact push z H6 (by omega) hzl (k6 _ _ na nb hrp5) hs6 (k4.trans (k5.trans k6))
    · rintro σ H3 ⟨rows, y4, rfl, hl, hok, hrp3, hs3, k3⟩
      walk_at "vc"
      exact q rp rows H3 (by omega) hok hrp3 hrp na nb hs3 k3


theorem ok_law_shelf {f : Addr} {fd : FuncData} {PT : Addr} {cShelf fiShelf : Addr} {fdShelf___init__ : FuncData} {fShelf_lay : Addr} {fdShelf_lay : FuncData} (F : Fun K "_law_shelf" "_law_shelf" s_law_shelf f fd) (B : Bl mg) (TShelf : KlShelf K mg cShelf fiShelf) (DShelf___init__ : Dm P w K mg base cShelf "__init__" 6 ["self", "letters", "scale", "seeds"] (spShelf___init__ K PT cShelf) fiShelf fdShelf___init__) (DShelf_lay : Dm P w K mg base cShelf "lay" 2 ["self", "row"] (spShelf_lay K cShelf) fShelf_lay fdShelf_lay) : FnOk P w K mg base CX0 8 f fd ["_law_letters_here", "_law_scale_here", "_law_seeds_here", "_law_rows_here"] (sp_law_shelf K PT cShelf) := by
  refine F.ok sc_law_shelf (fun vs H Q E h => ?_) (fun cdv A outer s H vs Q E hr h => ?_)
  · first
      | (obtain ⟨_, rfl, _⟩ := h; rfl)
      | (obtain ⟨_, _, rfl, _⟩ := h; rfl)
      | (obtain ⟨_, _, _, rfl, _⟩ := h; rfl)
      | (obtain ⟨_, _, _, _, rfl, _⟩ := h; rfl)
      | (obtain ⟨_, _, _, _, _, rfl, _⟩ := h; rfl)
      | (obtain ⟨_, _, _, _, _, _, rfl, _⟩ := h; rfl)
      | (obtain ⟨_, _, _, _, _, _, _, rfl, _⟩ := h; rfl)
      | (obtain ⟨_, _, _, _, _, _, _, _, rfl, _⟩ := h; rfl)
      | (obtain ⟨_, _, _, _, _, _, _, _, _, rfl, _⟩ := h; rfl)
      | (obtain ⟨_, _, _, _, _, _, _, _, _, _, rfl, _⟩ := h; rfl)
      | (obtain ⟨_, _, _, _, _, _, _, _, _, _, _, rfl, _⟩ := h; rfl)
      | (obtain ⟨_, _, _, _, _, _, _, _, _, _, _, _, rfl, _⟩ := h; rfl)
      | (obtain ⟨_, _, _, _, _, _, _, _, _, _, _, _, _, rfl, _⟩ := h; rfl)
      | (obtain ⟨_, _, _, _, _, _, _, _, _, _, _, _, _, _, rfl, _⟩ := h; rfl)
      | (obtain ⟨_, _, _, _, _, _, _, _, _, _, _, _, _, _, _, rfl, _⟩ := h; rfl)
      | (obtain ⟨_, _, _, _, _, _, _, _, _, _, _, _, _, _, _, _, rfl, _⟩ := h; rfl)
      | (obtain ⟨_, _, _, _, _, _, _, _, _, _, _, _, _, _, _, _, _, rfl, _⟩ := h; rfl)
  · obtain ⟨sc, sp, rp, lets, g, l, sds, rows, rfl, hlets, hsc, hg1, hg2, hl1, hl2, hsp, hsd, h1, h3, hrp, hrl, hrz, hT, q⟩ := h
    refine ⟨_, 
  (pss_cons (ps_set (i := 4) sc_law_shelf.nd rfl (.inl rfl) (pe_make TShelf.make DShelf___init__.ok hr (by rfl) TShelf.mg DShelf___init__.b .nil pass0 (pa_cons (pv 0) (pa_cons (pv 1) (pa_cons (pe_callTy call_list_of (by rfl) B.m_list (by decide +kernel) (pa_cons (pv 2) pa_nil)) pa_nil))))) 
  (pss_cons (ps_for PassesOwn.never rfl (pi_list (pv 3)) (pg_name (i := 5) sc_law_shelf.nd rfl (.inl rfl)) 
    (pss_one (ps_expr (pe_meth (pv 4) TShelf.cl DShelf_lay.mt DShelf_lay.ok (hr.mono (by decide)) DShelf_lay.b .nil pass0 (pa_cons (pv 5) pa_nil))))) 
  (pss_one (ps_ret (pv 4))))), ?_⟩
    walk_at "vc"
    intro hd hhd
    have sm1 : Same H (upd H hd (.lst (sds.map strV))) := same_upd hhd
    have hhd1 : upd H hd (.lst (sds.map strV)) hd = some (.lst (sds.map strV)) := upd_same
    generalize upd H hd (.lst (sds.map strV)) = H1 at sm1 hhd1
    walk_at "vc"
    intro x dx hx hdx hne
    have c1 : Same H1 (upd (upd H1 dx (.own x)) x (.ins cShelf dx [])) := fun b o e => by
      rw [upd_ne (ne_of_none e hx), upd_ne (ne_of_none e hdx)]
      exact e
    refine ⟨x, dx, sc, hd, lets, g, l, sds, rfl, upd_same, hlets, c1 _ _ (sm1 _ _ hsc), hg1, hg2, hl1, hl2, c1 _ _ hhd1, hsd, h1, h3, (hT.ext sm1).ext c1, fun f0 H2 sh0 fo0 kp0 => ⟨rfl, ?_⟩⟩
    have sm2 : SmT PT qL H H2 := (SmT.of sm1).trans (kp0.to hx c1)
    have fn0 : ∀ b ∈ f0, H b = none := fun b hb => by
      have : H1 b = none := by
        rcases fo0 b hb with e | e
        · rw [e]; exact hx
        · exact upd2_none e
      cases e : H b with
      | none => rfl
      | some o =>
        rw [sm1 b o e] at this
        cases this
    walk_at "vc"
    refine x_iListi (sm2.seq hrp) ?_
    refine for_list (K := K) (a := rp) (xs := rows.map strV) (fun i σ H' => ∃ (foot : List Addr) (y5 : Option V), σ = [some (.str (S lets)), some (.ref sc), some (.ref sp), some (.ref rp), some (.ref x), y5] ∧ ShAt cShelf H' x foot ⟨lets, g, l, sds, rows.take i⟩ ∧ (∀ b ∈ foot, H b = none) ∧ SmT PT qL H H') ⟨f0, _, rfl, sh0, fn0, sm2⟩ (fun i σ H' _ ⟨_, _, _, _, _, s⟩ => s.seq hrp) ?_ ?_
    · rintro i xx σ H3 hxx ⟨foot, y5, rfl, sh, fn, sm3⟩
      have hi : i < rows.length := by
        have := (List.getElem?_eq_some_iff.mp hxx).1
        rw [List.length_map] at this
        exact this
      have ex : xx = V.str (S rows[i]) := by
        rw [List.getElem?_map, List.getElem?_eq_getElem hi] at hxx
        exact (Option.some.inj hxx).symm
      subst ex
      have hm := hrz _ (List.getElem_mem hi)
      walk_at "vc"
      obtain ⟨dxi, fsi, i1, i2, _⟩ := sh.ins
      refine ⟨x, dxi, fsi, rfl, i1, i2, ?_⟩
      walk_at "vc"
      refine ⟨x, foot, _, rows[i], rfl, sh, hlets, by show (rows.take i).length ≤ 20; rw [List.length_take]; omega, hm.1, hm.2, fun foot' H4 sh4 fr gr => ?_⟩
      refine ⟨foot', _, rfl, ?_, fun b hb => ?_, ?_⟩
      · rw [List.take_succ_eq_append_getElem hi]
        exact sh4
      · rcases gr b hb with e | e
        · exact fn b e
        · exact sm3.free hT e
      · exact sh.smFr sm3 fr fn
    · rintro σ H3 ⟨foot, y5, rfl, sh, fn, sm3⟩
      rw [List.length_map, List.take_length] at sh
      walk_at "vc"
      exact q x foot H3 sh fn sm3


theorem ok_law_ask {f : Addr} {fd : FuncData} {PT : Addr} {aTooLow : Addr} {cShelf fiShelf : Addr} {fpairs : Addr} {fdpairs : FuncData} {flane : Addr} {fdlane : FuncData} {fshows : Addr} {fdshows : FuncData} {fShelf_find : Addr} {fdShelf_find : FuncData} (F : Fun K "_law_ask" "_law_ask" s_law_ask f fd) (B : Bl mg) (TShelf : KlShelf K mg cShelf fiShelf) (Dpairs : DnX P w K mg base "pairs" 6 ["shelf", "told"] (sppairs K aTooLow cShelf) fpairs fdpairs) (Dlane : DnX P w K mg base "lane" 6 ["one", "other", "shift", "seeds", "scale", "told"] (splane K PT aTooLow) flane fdlane) (Dshows : DnX P w K mg base "shows" 7 ["one", "other", "shift", "seeds", "scale", "told", "paper"] (spshows K PT aTooLow) fshows fdshows) (DShelf_find : DmX P w K mg base cShelf "find" 5 ["self", "row", "told"] (spShelf_find K aTooLow cShelf) fShelf_find fdShelf_find) : FnOk P w K mg base (L2.CX P w) 8 f fd ["_law_way", "_law_shelf_here", "_law_row_here", "_law_told", "_law_seeds_here", "_law_scale_here"] (sp_law_ask K PT aTooLow cShelf) := by
  refine F.okX sc_law_ask (fun vs H Q E h => ?_) (fun cdv A outer s H vs Q E hr h => ?_)
  · first
      | (obtain ⟨_, rfl, _⟩ := h; rfl)
      | (obtain ⟨_, _, rfl, _⟩ := h; rfl)
      | (obtain ⟨_, _, _, rfl, _⟩ := h; rfl)
      | (obtain ⟨_, _, _, _, rfl, _⟩ := h; rfl)
      | (obtain ⟨_, _, _, _, _, rfl, _⟩ := h; rfl)
      | (obtain ⟨_, _, _, _, _, _, rfl, _⟩ := h; rfl)
      | (obtain ⟨_, _, _, _, _, _, _, rfl, _⟩ := h; rfl)
      | (obtain ⟨_, _, _, _, _, _, _, _, rfl, _⟩ := h; rfl)
      | (obtain ⟨_, _, _, _, _, _, _, _, _, rfl, _⟩ := h; rfl)
      | (obtain ⟨_, _, _, _, _, _, _, _, _, _, rfl, _⟩ := h; rfl)
      | (obtain ⟨_, _, _, _, _, _, _, _, _, _, _, rfl, _⟩ := h; rfl)
      | (obtain ⟨_, _, _, _, _, _, _, _, _, _, _, _, rfl, _⟩ := h; rfl)
      | (obtain ⟨_, _, _, _, _, _, _, _, _, _, _, _, _, rfl, _⟩ := h; rfl)
      | (obtain ⟨_, _, _, _, _, _, _, _, _, _, _, _, _, _, rfl, _⟩ := h; rfl)
      | (obtain ⟨_, _, _, _, _, _, _, _, _, _, _, _, _, _, _, rfl, _⟩ := h; rfl)
      | (obtain ⟨_, _, _, _, _, _, _, _, _, _, _, _, _, _, _, _, rfl, _⟩ := h; rfl)
      | (obtain ⟨_, _, _, _, _, _, _, _, _, _, _, _, _, _, _, _, _, rfl, _⟩ := h; rfl)
  · obtain ⟨way, p, foot, s, o, told, sp, ps, rfl, hs, hlets, hrl, hrz, ho, hol, hsp, hps, hbo, h1t, hT, qa, qe⟩ := h
    have hk := hs.ok
    refine ⟨_, 
  (pss_one (ps_if (pt_cmpR op_eq (pv 0) pe_int (nomark _)) 
    (pss_one (ps_expr (pe_meth (pv 1) TShelf.cl DShelf_find.mt DShelf_find.ok (hr.mono (by decide)) DShelf_find.b .nil (passes_call (takes_of rfl rfl rfl rfl) (fun _ _ _ _ h => h)) (pa_cons (pv 2) (pa_cons (pv 3) pa_nil))))) 
    (pss_one (ps_if (pt_cmpR op_eq (pv 0) pe_int (nomark _)) 
      (pss_one (ps_expr (pe_call Dpairs.ok (hr.mono (by decide)) (by rfl) Dpairs.g Dpairs.kp Dpairs.b .nil (passes_call (takes_of rfl rfl rfl rfl) (fun _ _ _ _ h => h)) (pa_cons (pv 1) (pa_cons (pv 3) pa_nil))))) 
      (pss_one (ps_if (pt_cmpR op_eq (pv 0) pe_int (nomark _)) 
        (pss_one (ps_expr (pe_call Dlane.ok (hr.mono (by decide)) (by rfl) Dlane.g Dlane.kp Dlane.b .nil (passes_call (takes_of rfl rfl rfl rfl) (fun _ _ _ _ h => h)) (pa_cons (pv 2) (pa_cons (pv 2) (pa_cons pe_int (pa_cons (pv 4) (pa_cons (pv 5) (pa_cons (pv 3) pa_nil))))))))) 
        (pss_one (ps_expr (pe_call Dshows.ok hr (by rfl) Dshows.g Dshows.kp Dshows.b .nil (passes_call (takes_of rfl rfl rfl rfl) (fun _ _ _ _ h => h)) (pa_cons (pv 2) (pa_cons (pv 2) (pa_cons pe_int (pa_cons (pv 4) (pa_cons (pv 5) (pa_cons (pv 3) (pa_cons (pe_tup (pa_cons pe_str (pa_cons pe_int pa_nil))) pa_nil)))))))))))))))), ?_⟩
    walk_at "vc"
    refine ite2 (fun e => ?_) (fun e => ?_)
    · walk_at "vc"
      obtain ⟨dx, fs, i1, _, _, _, i5, _⟩ := hs.ins
      refine ⟨p, dx, fs, rfl, i1, i5, ?_⟩
      walk_at "vc"
      refine ⟨p, foot, s, o, told, rfl, hs, hlets, hrl, (fun z hz => (hrz z hz).1), ho, hol, hbo, fun ha H' r as sm _ _ _ => ?_, fun hn dd lp H' sm hd hl => qe hn dd lp H' (SmT.of sm) hd hl⟩
      exact qa ha _ (SmT.of sm)
    walk_at "vc"
    refine ite2 (fun e => ?_) (fun e => ?_)
    · walk_at "vc"
      refine ⟨p, foot, s, told, rfl, hs, hlets, hrl, hrz, hbo, h1t, fun ha H' r sm => ?_, fun hn dd lp H' sm hd hl => qe hn dd lp H' (SmT.of sm) hd hl⟩
      exact qa ha _ (SmT.of sm)
    walk_at "vc"
    refine ite2 (fun e => ?_) (fun e => ?_)
    · walk_at "vc"
      refine ⟨o, o, 0, sp, ps, s.sds, s.g, s.l, told, rfl, hsp, hps, hk.sd, hk.one, hk.three, hk.g1, hk.g2, hk.l1, hk.l2, by omega, by omega, by omega, by omega, hT, fun ha p' H' st _ _ _ => ?_, qe⟩
      exact qa ha _ st
    walk_at "vc"
    refine ⟨show 2 ≤ sizeLine by decide, fun tp htp => ?_⟩
    have s1 : Same H (upd H tp (.tup [.str (Str.ofString "low"), .int 0])) := same_upd htp
    have ht1 : PapAt (upd H tp (.tup [.str (Str.ofString "low"), .int 0])) tp (.lo 0) := upd_same
    generalize upd H tp (.tup [.str (Str.ofString "low"), .int 0]) = H1 at s1 ht1
    walk_at "vc"
    refine ⟨o, o, 0, sp, ps, tp, s.sds, s.g, s.l, told, .lo 0, rfl, s1.seq hsp, SqT_same s1 hps, hk.sd, hk.one, hk.three, hk.g1, hk.g2, hk.l1, hk.l2, by omega, by omega, by omega, by omega, ht1, trivial, hT.ext s1, fun ha H' st => ?_, fun hn dd lp H' st hd hl => qe hn dd lp H' ((SmT.of s1).trans st) hd hl⟩
    exact qa ha _ ((SmT.of s1).trans st)


theorem ok_law_bar {f : Addr} {fd : FuncData} {PT : Addr} {aBadRow : Addr} {aBadSeed : Addr} {aBadText : Addr} {aNoPlace : Addr} {aNoRow : Addr} {aReachError : Addr} {aTooLow : Addr} {fTooLow : Addr} {fdTooLow : FuncData} {cShelf fiShelf : Addr} {f_law_ask : Addr} {fd_law_ask : FuncData} (F : Fun K "_law_bar" "_law_bar" s_law_bar f fd) (B : Bl mg) (XBadRow : XcN K mg "BadRow" aBadRow) (XBadSeed : XcN K mg "BadSeed" aBadSeed) (XBadText : XcN K mg "BadText" aBadText) (XNoPlace : XcN K mg "NoPlace" aNoPlace) (XNoRow : XcN K mg "NoRow" aNoRow) (XReachError : XcN K mg "ReachError" aReachError) (XTooLow : XoF P w K mg base "TooLow" aTooLow fTooLow fdTooLow) (M : XM K aBadRow aBadSeed aBadText aNoPlace aNoRow aReachError aTooLow) (TShelf : KlShelf K mg cShelf fiShelf) (D_law_ask : DnX P w K mg base "_law_ask" 8 ["_law_way", "_law_shelf_here", "_law_row_here", "_law_told", "_law_seeds_here", "_law_scale_here"] (sp_law_ask K PT aTooLow cShelf) f_law_ask fd_law_ask) : FnOk P w K mg base CX0 9 f fd ["_law_way", "_law_shelf_here", "_law_row_here", "_law_told", "_law_seeds_here", "_law_scale_here"] (sp_law_bar K PT cShelf) := by
  refine F.ok sc_law_bar (fun vs H Q E h => ?_) (fun cdv A outer s H vs Q E hr h => ?_)
  · first
      | (obtain ⟨_, rfl, _⟩ := h; rfl)
      | (obtain ⟨_, _, rfl, _⟩ := h; rfl)
      | (obtain ⟨_, _, _, rfl, _⟩ := h; rfl)
      | (obtain ⟨_, _, _, _, rfl, _⟩ := h; rfl)
      | (obtain ⟨_, _, _, _, _, rfl, _⟩ := h; rfl)
      | (obtain ⟨_, _, _, _, _, _, rfl, _⟩ := h; rfl)
      | (obtain ⟨_, _, _, _, _, _, _, rfl, _⟩ := h; rfl)
      | (obtain ⟨_, _, _, _, _, _, _, _, rfl, _⟩ := h; rfl)
      | (obtain ⟨_, _, _, _, _, _, _, _, _, rfl, _⟩ := h; rfl)
      | (obtain ⟨_, _, _, _, _, _, _, _, _, _, rfl, _⟩ := h; rfl)
      | (obtain ⟨_, _, _, _, _, _, _, _, _, _, _, rfl, _⟩ := h; rfl)
      | (obtain ⟨_, _, _, _, _, _, _, _, _, _, _, _, rfl, _⟩ := h; rfl)
      | (obtain ⟨_, _, _, _, _, _, _, _, _, _, _, _, _, rfl, _⟩ := h; rfl)
      | (obtain ⟨_, _, _, _, _, _, _, _, _, _, _, _, _, _, rfl, _⟩ := h; rfl)
      | (obtain ⟨_, _, _, _, _, _, _, _, _, _, _, _, _, _, _, rfl, _⟩ := h; rfl)
      | (obtain ⟨_, _, _, _, _, _, _, _, _, _, _, _, _, _, _, _, rfl, _⟩ := h; rfl)
      | (obtain ⟨_, _, _, _, _, _, _, _, _, _, _, _, _, _, _, _, _, rfl, _⟩ := h; rfl)
  · obtain ⟨way, p, foot, s, o, told, sp, ps, rfl, hs, hlets, hrl, hrz, ho, hol, hsp, hps, hbo, h1t, hT, qa, qe⟩ := h
    refine ⟨_, 
  (pss_cons (ps_try_as (i := 6) rfl rfl sc_law_bar.nd rfl rfl ⟨rfl, by decide, .inl XReachError.gP⟩ takes0 (fun W pn xe tk _ => 
    (pss_one (ps_expr (pe_callS D_law_ask.ok hr (by rfl) D_law_ask.g D_law_ask.kp D_law_ask.b (fun σ => passAt tk σ) (pa_cons (pv 0) (pa_cons (pv 1) (pa_cons (pv 2) (pa_cons (pv 3) (pa_cons (pv 4) (pa_cons (pv 5) pa_nil)))))))))) (fun ae oe cls de pn hz hf => 
    (pss_cons (ps_if (PW.pt (pw_or (pt_val (pe_callB (call_isCT hz hf) (by rfl) B.m_isinstance (by decide +kernel) (pa_cons (pv 6) (pa_cons (pe_tup (pa_cons (pe_glob (v := .ref aBadRow) rfl XBadRow.gP rfl) (pa_cons (pe_glob (v := .ref aBadSeed) rfl XBadSeed.gP rfl) (pa_cons (pe_glob (v := .ref aBadText) rfl XBadText.gP rfl) (pa_cons (pe_glob (v := .ref aNoPlace) rfl XNoPlace.gP rfl) (pa_cons (pe_glob (v := .ref aNoRow) rfl XNoRow.gP rfl) pa_nil)))))) pa_nil)))) (pw_or1 (pt_not (pt_val (pe_callB (call_isC hz hf) (by rfl) B.m_isinstance (by decide +kernel) (pa_cons (pv 6) (pa_cons (pe_bltn (v := .ty "ValueError") (by rfl) B.m_ValueError (by decide +kernel) rfl) pa_nil)))))))) 
      (pss_one (ps_ret pe_str)) pss_nil) 
    (pss_one (ps_ret (pe_ifExp (pt_val (pe_callB (call_isC hz hf) (by rfl) B.m_isinstance (by decide +kernel) (pa_cons (pv 6) (pa_cons (pe_glob (v := .ref aTooLow) rfl XTooLow.gP rfl) pa_nil)))) (pe_xf XTooLow.xf XTooLow.hno hz hf (pv 6)) pe_str)))))) 
  (pss_one (ps_ret pe_non))), ?_⟩
    walk_at "vc"
    refine ⟨way, p, foot, s, o, told, sp, ps, rfl, hs, hlets, hrl, hrz, ho, hol, hsp, hps, hbo, h1t, hT, fun ha H1 st => ?_, fun hn dd lp H1 st hd hl => ?_⟩
    · walk_at "vc"
      exact qa ha _ st
    · refine ⟨true, PySem.W.exm_ref M.bs_ReachError M.hd_ReachError M.tp_ReachError M.s_TooLow_ReachError, fun _ a ha => ?_, fun h => nomatch h⟩
      walk_at "vc"
      refine ⟨show 5 ≤ sizeLine by decide, fun tp htp => ?_⟩
      have s2 : Same H1 (upd H1 tp (.tup [.ref aBadRow, .ref aBadSeed, .ref aBadText, .ref aNoPlace, .ref aNoRow])) := same_upd htp
      have ht2 : upd H1 tp (.tup [.ref aBadRow, .ref aBadSeed, .ref aBadText, .ref aNoPlace, .ref aNoRow]) tp = some (.tup [.ref aBadRow, .ref aBadSeed, .ref aBadText, .ref aNoPlace, .ref aNoRow]) := upd_same
      have hd2 := s2 _ _ hd
      have hl2 := s2 _ _ hl
      generalize upd H1 tp (.tup [.ref aBadRow, .ref aBadSeed, .ref aBadText, .ref aNoPlace, .ref aNoRow]) = H2 at s2 ht2 hd2 hl2
      walk_at "vc"
      have hC : Caught K (.ref aTooLow) (some dd) H2 aTooLow := ⟨rfl, M.ec_TooLow, .inr ⟨dd, _, rfl, hd2⟩⟩
      have T := M.s_TooLow_TooLow
      refine x_isCT hC ht2 (.cons (.own _) (.cons (.own _) (.cons (.own _) (.cons (.own _) (.cons (.own _) .nil))))) (kitAny_cons (kit_own M.hd_BadRow M.tp_BadRow M.s_TooLow_BadRow T) (fun _ => (kitAny_cons (kit_own M.hd_BadSeed M.tp_BadSeed M.s_TooLow_BadSeed T) (fun _ => (kitAny_cons (kit_own M.hd_BadText M.tp_BadText M.s_TooLow_BadText T) (fun _ => (kitAny_cons (kit_own M.hd_NoPlace M.tp_NoPlace M.s_TooLow_NoPlace T) (fun _ => (kitAny_cons (kit_own M.hd_NoRow M.tp_NoRow M.s_TooLow_NoRow T) (fun _ => kitAny_nil) (fun h => nomatch h))) (fun h => nomatch h))) (fun h => nomatch h))) (fun h => nomatch h))) (fun h => nomatch h)) ?_
      walk_at "vc"
      refine x_isC hC (.ty _) (kit_typ (by decide +kernel) M.v_TooLow) ?_
      walk_at "vc"
      refine x_isC hC (.own _) (kit_own M.hd_TooLow M.tp_TooLow T T) ?_
      walk_at "vc"
      refine ⟨.ref a, rfl, rfl, rfl, dd, _, .ref lp, rfl, hd2, rfl, ?_⟩
      exact qe hn lp _ (st.trans (SmT.of s2)) hl2


theorem oklaw {f : Addr} {fd : FuncData} {PT : Addr} {cShelf fiShelf : Addr} {f_law_letters : Addr} {fd_law_letters : FuncData} {f_law_seeds : Addr} {fd_law_seeds : FuncData} {f_law_scale : Addr} {fd_law_scale : FuncData} {fbar : Addr} {fdbar : FuncData} {f_law_rows : Addr} {fd_law_rows : FuncData} {f_law_row : Addr} {fd_law_row : FuncData} {f_law_shelf : Addr} {fd_law_shelf : FuncData} {f_law_next : Addr} {fd_law_next : FuncData} {f_law_bar : Addr} {fd_law_bar : FuncData} (F : Fun K "law" "law" slaw f fd) (B : Bl mg) (TShelf : KlShelf K mg cShelf fiShelf) (D_law_letters : Dn P w K mg base "_law_letters" 2 ["_law_h"] (sp_law_letters K) f_law_letters fd_law_letters) (D_law_seeds : Dn P w K mg base "_law_seeds" 3 ["_law_h", "_law_most"] (sp_law_seeds K) f_law_seeds fd_law_seeds) (D_law_scale : Dn P w K mg base "_law_scale" 2 ["_law_h"] (sp_law_scale K) f_law_scale fd_law_scale) (Dbar : Dn P w K mg base "bar" 5 ["seeds", "scale"] (spbar K PT) fbar fdbar) (D_law_rows : Dn P w K mg base "_law_rows" 4 ["_law_h", "_law_letters_here", "_law_most"] (sp_law_rows K) f_law_rows fd_law_rows) (D_law_row : Dn P w K mg base "_law_row" 2 ["_law_h", "_law_letters_here", "_law_most"] (sp_law_row K) f_law_row fd_law_row) (D_law_shelf : Dn P w K mg base "_law_shelf" 8 ["_law_letters_here", "_law_scale_here", "_law_seeds_here", "_law_rows_here"] (sp_law_shelf K PT cShelf) f_law_shelf fd_law_shelf) (D_law_next : Dn P w K mg base "_law_next" 1 ["_law_h", "_law_many"] (sp_law_next K) f_law_next fd_law_next) (D_law_bar : Dn P w K mg base "_law_bar" 9 ["_law_way", "_law_shelf_here", "_law_row_here", "_law_told", "_law_seeds_here", "_law_scale_here"] (sp_law_bar K PT cShelf) f_law_bar fd_law_bar) : FnOk P w K mg base CX0 10 f fd ["_law_script"] (splaw K PT) := by
  refine F.ok sclaw (fun vs H Q E h => ?_) (fun cdv A outer s H vs Q E hr h => ?_)
  · first
      | (obtain ⟨_, rfl, _⟩ := h; rfl)
      | (obtain ⟨_, _, rfl, _⟩ := h; rfl)
      | (obtain ⟨_, _, _, rfl, _⟩ := h; rfl)
      | (obtain ⟨_, _, _, _, rfl, _⟩ := h; rfl)
      | (obtain ⟨_, _, _, _, _, rfl, _⟩ := h; rfl)
      | (obtain ⟨_, _, _, _, _, _, rfl, _⟩ := h; rfl)
      | (obtain ⟨_, _, _, _, _, _, _, rfl, _⟩ := h; rfl)
      | (obtain ⟨_, _, _, _, _, _, _, _, rfl, _⟩ := h; rfl)
      | (obtain ⟨_, _, _, _, _, _, _, _, _, rfl, _⟩ := h; rfl)
      | (obtain ⟨_, _, _, _, _, _, _, _, _, _, rfl, _⟩ := h; rfl)
      | (obtain ⟨_, _, _, _, _, _, _, _, _, _, _, rfl, _⟩ := h; rfl)
      | (obtain ⟨_, _, _, _, _, _, _, _, _, _, _, _, rfl, _⟩ := h; rfl)
      | (obtain ⟨_, _, _, _, _, _, _, _, _, _, _, _, _, rfl, _⟩ := h; rfl)
      | (obtain ⟨_, _, _, _, _, _, _, _, _, _, _, _, _, _, rfl, _⟩ := h; rfl)
      | (obtain ⟨_, _, _, _, _, _, _, _, _, _, _, _, _, _, _, rfl, _⟩ := h; rfl)
      | (obtain ⟨_, _, _, _, _, _, _, _, _, _, _, _, _, _, _, _, rfl, _⟩ := h; rfl)
      | (obtain ⟨_, _, _, _, _, _, _, _, _, _, _, _, _, _, _, _, _, rfl, _⟩ := h; rfl)
  · obtain ⟨a0, ns, rfl, hS, hlen, hT, q⟩ := h
    refine ⟨_, 
  (pss_cons (ps_set (i := 1) sclaw.nd rfl (.inl rfl) (pe_lst (pa_cons pe_int (pa_cons (pe_callTy call_list_of (by rfl) B.m_list (by decide +kernel) (pa_cons (pv 0) pa_nil)) (pa_cons pe_int pa_nil))))) 
  (pss_cons (ps_set (i := 2) sclaw.nd rfl (.inl rfl) (pe_call D_law_letters.ok (hr.mono (by decide)) (by rfl) D_law_letters.g D_law_letters.kp D_law_letters.b .nil pass0 (pa_cons (pv 1) pa_nil))) 
  (pss_cons (ps_set (i := 3) sclaw.nd rfl (.inl rfl) (pe_call D_law_seeds.ok (hr.mono (by decide)) (by rfl) D_law_seeds.g D_law_seeds.kp D_law_seeds.b .nil pass0 (pa_cons (pv 1) (pa_cons pe_int pa_nil)))) 
  (pss_cons (ps_set (i := 4) sclaw.nd rfl (.inl rfl) (pe_call D_law_scale.ok (hr.mono (by decide)) (by rfl) D_law_scale.g D_law_scale.kp D_law_scale.b .nil pass0 (pa_cons (pv 1) pa_nil))) 
  (pss_cons (ps_set (i := 5) sclaw.nd rfl (.inr rfl) (pe_call Dbar.ok (hr.mono (by decide)) (by rfl) Dbar.g Dbar.kp Dbar.b .nil pass0 (pa_cons (pv 3) (pa_cons (pv 4) pa_nil)))) 
  (pss_cons (ps_set (i := 6) sclaw.nd rfl (.inl rfl) (pe_call D_law_rows.ok (hr.mono (by decide)) (by rfl) D_law_rows.g D_law_rows.kp D_law_rows.b .nil pass0 (pa_cons (pv 1) (pa_cons (pv 2) (pa_cons pe_int pa_nil))))) 
  (pss_cons (ps_set (i := 7) sclaw.nd rfl (.inl rfl) (pe_call D_law_row.ok (hr.mono (by decide)) (by rfl) D_law_row.g D_law_row.kp D_law_row.b .nil pass0 (pa_cons (pv 1) (pa_cons (pv 2) (pa_cons pe_int pa_nil))))) 
  (pss_cons (ps_set (i := 8) sclaw.nd rfl (.inl rfl) (pe_call D_law_shelf.ok (hr.mono (by decide)) (by rfl) D_law_shelf.g D_law_shelf.kp D_law_shelf.b .nil pass0 (pa_cons (pv 2) (pa_cons (pv 4) (pa_cons (pv 3) (pa_cons (pv 6) pa_nil)))))) 
  (pss_cons (ps_set (i := 9) sclaw.nd rfl (.inl rfl) (pe_lst (pa_cons (pe_op op_add pe_int (pe_call D_law_next.ok (hr.mono (by decide)) (by rfl) D_law_next.g D_law_next.kp D_law_next.b .nil pass0 (pa_cons (pv 1) (pa_cons pe_int pa_nil)))) pa_nil))) 
  (pss_cons (ps_if (pt_cmpR op_eq (pe_ix ix_tup (pv 5) pe_int (fun _ _ => rfl)) pe_str (nomark _)) 
    (pss_cons (ps_set (i := 9) sclaw.nd rfl (.inl rfl) (pe_lst (pa_cons pe_int (pa_cons (pe_ix ix_tup (pv 5) pe_int (fun _ _ => rfl)) (pa_cons (pe_op op_add pe_int (pe_call D_law_next.ok (hr.mono (by decide)) (by rfl) D_law_next.g D_law_next.kp D_law_next.b .nil pass0 (pa_cons (pv 1) (pa_cons (pe_op op_add (pe_ix ix_tup (pv 5) pe_int (fun _ _ => rfl)) pe_int) pa_nil)))) pa_nil))))) 
    (pss_one (ps_setLc (i := 9) (own := [("_law_told", 11)]) (g := gName 11) rfl sclaw.nd rfl rfl (sw_true rfl rfl rfl (by decide +kernel)) (pi_list (pv 9)) (blkOk_by (N := nlaw) (sc := defScope slaw) (by decide +kernel)) (fun _ _ _ _ _ => (pg_name (i := 11) sclaw.nd rfl (.inl rfl))) (fun _ _ _ _ _ => pts_one (pt_chain op_le op_le pe_int (pv 11) (pe_ix (show IxR _ (rIxT K) from ix_tup) (pv 5) pe_int (fun _ _ => rfl)))) (fun _ _ _ _ _ => (pv 11))))) pss_nil) 
  (pss_cons (ps_for PassesOwn.never rfl (pi_range1 rfl B.m_range (pa_cons pe_int pa_nil)) (pg_name (i := 10) sclaw.nd rfl (.inl rfl)) 
    (pss_cons (ps_for PassesOwn.never rfl (pi_list (pv 9)) (pg_name (i := 11) sclaw.nd rfl (.inl rfl)) 
      (pss_one (ps_if (pt_cmpR (op_neD hr.units) (pe_call D_law_bar.ok hr (by rfl) D_law_bar.g D_law_bar.kp D_law_bar.b .nil pass0 (pa_cons (pv 10) (pa_cons (pv 8) (pa_cons (pv 7) (pa_cons (pv 11) (pa_cons (pv 3) (pa_cons (pv 4) pa_nil))))))) (pv 5) (nomark _)) 
        (pss_one (ps_ret pe_bl)) pss_nil))) 
    (pss_one (ps_if (pt_cmpR op_eq (pe_ix ix_tup (pv 5) pe_int (fun _ _ => rfl)) pe_str (nomark _)) 
      (pss_one (ps_if (pt_cmpR op_notN (pe_call D_law_bar.ok hr (by rfl) D_law_bar.g D_law_bar.kp D_law_bar.b .nil pass0 (pa_cons (pv 10) (pa_cons (pv 8) (pa_cons (pv 7) (pa_cons (pe_op op_add (pe_ix ix_tup (pv 5) pe_int (fun _ _ => rfl)) pe_int) (pa_cons (pv 3) (pa_cons (pv 4) pa_nil))))))) pe_non (nomark _)) 
        (pss_one (ps_ret pe_bl)) pss_nil)) pss_nil)))) 
  (pss_one (ps_ret pe_bl))))))))))))), ?_⟩
    walk_at "vc"
    intro b hb
    walk_at "vc"
    refine ⟨show 3 ≤ sizeLine by decide, fun a ha => ?_⟩
    have nab : a ≠ b := fun e => by
      rw [e, upd_same] at ha
      cases ha
    have hs0 : Src (upd (upd H b (.lst (ns.map V.int))) a (.lst [.int 61, .ref b, .int 0])) a b := ⟨nab, 61, 0, ns, upd_same, by rw [upd_ne nab.symm, upd_same], hlen⟩
    have hT0 : LamX.TabS (upd (upd H b (.lst (ns.map V.int))) a (.lst [.int 61, .ref b, .int 0])) PT qL := (hT.ext (same_upd hb)).ext (same_upd ha)
    generalize upd (upd H b (.lst (ns.map V.int))) a (.lst [.int 61, .ref b, .int 0]) = H0 at hs0 hT0
    walk_at "vc"
    refine ⟨a, b, rfl, hs0, fun t n H1 ht26 hn2 hn6 hs1 k1 => ?_⟩
    have hT1 := k1.tab hs0 hT0
    have hLl : (letL t n).length = n := by unfold letL; rw [List.length_map, List.length_range]
    have hLc : ∀ c ∈ letL t n, c < 1114112 := fun c hc => by
      unfold letL at hc
      obtain ⟨k, _, rfl⟩ := List.mem_map.mp hc
      omega
    walk_at "vc"
    refine ⟨a, b, 5, rfl, hs1, by omega, by omega, fun sp sds H2 hsd5 h1 h3 hsp hsp0 nsa nsb hs2 k2 => ?_⟩
    have hsd : ∀ sd ∈ sds, Sd 8 sd := fun sd h => (hsd5 sd h).wide (by omega)
    have hT2 := k2.tab hs1 hT1
    walk_at "vc"
    refine ⟨a, b, rfl, hs2, fun g l ps H3 g1 g9 l1 l9 hps npa npb hs3 k3 => ?_⟩
    have hT3 := k3.tab hs2 hT2
    have hsp3 := k3 _ _ nsa nsb hsp
    walk_at "vc"
    refine ⟨sp, ps, sds, g, l, rfl, SqL.of hsp3, SqT.of hps, hsd, h1, h3, g1, g9, l1, l9, hT3, fun fp H4 st4 hfp0 hfp hok => ?_⟩
    have hT4 := st4.t hT3
    have hs4 := Src_smT hs3 st4
    have hsp4 := st4.lst hsp3
    have hps4 := st4.tup hps
    have nfa : fp ≠ a := by
      obtain ⟨_, e1⟩ := hs3.la
      exact (ne_of_none e1 hfp0).symm
    have nfb : fp ≠ b := by
      obtain ⟨_, e1⟩ := hs3.lb
      exact (ne_of_none e1 hfp0).symm
    walk_at "vc"
    refine ⟨a, b, letL t n, 2, rfl, hs4, by omega, by omega, hLc, by omega, by omega, fun rp rows H5 hrl hrz hrp hrp0 nra nrb hs5 k5 => ?_⟩
    have hT5 := k5.tab hs4 hT4
    have hsp5 := k5 _ _ nsa nsb hsp4
    have hps5 := k5 _ _ npa npb hps4
    have hfp5 := k5 _ _ nfa nfb hfp
    walk_at "vc"
    refine ⟨a, b, letL t n, 20, rfl, hs5, by omega, by omega, by omega, by omega, fun o H6 ho hol hs6 k6 => ?_⟩
    have hT6 := k6.tab hs5 hT5
    have hsp6 := k6 _ _ nsa nsb hsp5
    have hps6 := k6 _ _ npa npb hps5
    have hfp6 := k6 _ _ nfa nfb hfp5
    have hrp6 := k6 _ _ nra nrb hrp
    clear hs0 hs1 hs2 hs3 hs4 hs5 hT0 hT1 hT2 hT3 hT4 hT5 hsp hsp3 hsp4 hsp5 hps hps4 hps5 hfp hfp5 hrp k2 k3 k5 k6
    walk_at "vc"
    have hlets : Lets (letL t n) := ⟨t, n, rfl, ht26, hn2, hn6⟩
    refine ⟨ps, sp, rp, letL t n, g, l, sds, rows, rfl, hlets, hps6, g1, g9, l1, l9, SqL.of hsp6, hsd, h1, h3, SqL.of hrp6, by omega, hrz, hT6, fun x f H7 sh7 fn7 st7 => ?_⟩
    have hT7 := st7.t hT6
    have hs7 := Src_smT hs6 st7
    have hsp7 := st7.lst hsp6
    have hps7 := st7.tup hps6
    have hfp7 := st7.tup hfp6
    have naf : a ∉ f := fun hm => by
      obtain ⟨_, e1⟩ := hs6.la
      rw [fn7 a hm] at e1
      cases e1
    have nbf : b ∉ f := fun hm => by
      obtain ⟨_, e1⟩ := hs6.lb
      rw [fn7 b hm] at e1
      cases e1
    walk_at "vc"
    refine ⟨a, b, 1000, rfl, hs7, by omega, by omega, fun r0 H8 r00 r01 hs8 k8 => ?_⟩
    have hT8 := k8.tab hs7 hT7
    have hsp8 := k8 _ _ nsa nsb hsp7
    have hps8 := k8 _ _ npa npb hps7
    have hfp8 := k8 _ _ nfa nfb hfp7
    have sh8 := sh7.kp k8 hs7 naf nbf
    walk_at "vc"
    refine ⟨show 1 ≤ sizeLine by decide, fun q1 hq1 => ?_⟩
    have s9 : Same H8 (upd H8 q1 (.lst [.int (1 + r0)])) := same_upd hq1
    have hq9 : upd H8 q1 (.lst [.int (1 + r0)]) q1 = some (.lst ([1 + r0].map V.int)) := upd_same
    have hs9 := hs8.new (o := .lst [.int (1 + r0)]) hq1
    generalize upd H8 q1 (.lst [.int (1 + r0)]) = H9 at s9 hq9 hs9
    have hT9 := hT8.ext s9
    have hsp9 := s9 _ _ hsp8
    have hps9 := s9 _ _ hps8
    have hfp9 := s9 _ _ hfp8
    have sh9 := sh8.all s9
    clear hT6 hT7 hT8 hs6 hs7 hs8 hsp6 hsp7 hsp8 hps6 hps7 hps8 hfp6 hfp7 hfp8 hrp6 sh7 sh8
    walk_at "vc0"
    have h1s : Ones sds := fun sd h => (hsd sd h).one
    refine x_cutS (fun σ H' => ∃ (q1 : Addr) (L : List Int), σ = [some (.ref a0), some (.ref a), some (.str (S (letL t n))), some (.ref sp), some (.ref ps), some (.ref fp), some (.ref rp), some (.str (S o)), some (.ref x), some (.ref q1), none, none] ∧ H' sp = some (.lst (sds.map strV)) ∧ H' ps = some (.tup [.int g, .int l]) ∧ H' fp = some (.tup (barV (barM sds g l))) ∧ ShAt cShelf H' x f ⟨letL t n, g, l, sds, rows⟩ ∧ LamX.TabS H' PT qL ∧ H' q1 = some (.lst (L.map V.int)) ∧ ∀ td ∈ L, 1 ≤ td ∧ ¬ Above (barM sds g l) td) (fun nx hnx => ?_) ?_
    · cases hB : barM sds g l with
      | ring za zr =>
        have hf : H9 fp = some (.tup [.str "endless", .str (S za), .str (S zr)]) := by rw [hfp9, hB]; rfl
        walk_at "vc"
        rw [decide_eq_false (by decide +kernel)]
        walk_at "vc"
        refine hnx _ _ ⟨q1, [1 + r0], rfl, hsp9, hps9, hfp9, sh9, hT9, hq9, fun td htd => ?_⟩
        rw [List.mem_singleton.mp htd]
        refine ⟨by omega, fun ⟨m', z', e1, e2⟩ => ?_⟩
        rw [hB] at e1
        cases e1
      | bar m z =>
        have hf : H9 fp = some (.tup [.str "bar", .int m, .str (S z)]) := by rw [hfp9, hB]; rfl
        have hok' : IsBar sds g l m z := by
          have h := hok
          rw [hB] at h
          exact h
        have hm0 := bar_nn h1s hok'
        have hm9 : m ≤ 9000 := by
          have e1 := wor_le_count g l g1 l1 z hok'.lk
          rw [hok'.is] at e1
          have e2 : ((z.count 61 : Nat) : Int) ≤ 1000 := by
            have := List.count_le_length (a := 61) (l := z)
            have := hok'.len
            omega
          have e3 : g * ((z.count 61 : Nat) : Int) ≤ 9 * 1000 := Int.mul_le_mul g9 e2 (by omega) (by omega)
          omega
        walk_at "vc"
        rw [decide_eq_true rfl]
        walk_at "vc"
        refine ⟨a, b, m + 1, rfl, hs9, by omega, by omega, fun r1 H10 r10 r11 hs10 k10 => ?_⟩
        have hT10 := k10.tab hs9 hT9
        have hsp10 := k10 _ _ nsa nsb hsp9
        have hps10 := k10 _ _ npa npb hps9
        have hfp10 := k10 _ _ nfa nfb hfp9
        have hf10 := k10 _ _ nfa nfb hf
        have sh10 := sh9.kp k10 hs9 naf nbf
        clear hsp9 hps9 hfp9 hf sh9 hT9 hq9
        walk_at "vc"
        refine ⟨show 3 ≤ sizeLine by decide, fun q2 hq2 => ?_⟩
        have s11 : Same H10 (upd H10 q2 (.lst [.int 1, .int m, .int (1 + r1)])) := same_upd hq2
        have hq11 : upd H10 q2 (.lst [.int 1, .int m, .int (1 + r1)]) q2 = some (.lst ([1, m, 1 + r1].map V.int)) := upd_same
        generalize upd H10 q2 (.lst [.int 1, .int m, .int (1 + r1)]) = H11 at s11 hq11
        have hf11 := s11 _ _ hf10
        walk_at "vc"
        refine x_iListi (SqL.of hq11) (fun D hD => ?_)
        refine lc_list (K := K) (a := q2) (xs := [1, m, 1 + r1].map V.int) (fun j H' => ∃ L : List Int, Same H11 H' ∧ H' D = some (.lst (L.map V.int)) ∧ L.length ≤ j ∧ ∀ td ∈ L, 1 ≤ td ∧ td ≤ m) ⟨[], same_upd hD, upd_same, Nat.le_refl _, fun td h => by cases h⟩ (fun j H' _ ⟨_, w, _⟩ => w.seq (SqL.of hq11)) (fun j xx H' hx ⟨L, sm, hDL, hLj, hLm⟩ => ?_) (fun H' ⟨L, sm, hDL, hLj, hLm⟩ => ?_)
        · have hj : j < 3 := (List.getElem?_eq_some_iff.mp hx).1
          obtain ⟨i, rfl⟩ : ∃ i : Int, xx = .int i := by
            have : j = 0 ∨ j = 1 ∨ j = 2 := by omega
            rcases this with rfl | rfl | rfl <;> (cases hx; exact ⟨_, rfl⟩)
          have hf' := sm _ _ hf11
          have no : Same H11 H' ∧ H' D = some (.lst (L.map V.int)) ∧ L.length ≤ j + 1 ∧ ∀ td ∈ L, 1 ≤ td ∧ td ≤ m := ⟨sm, hDL, by omega, hLm⟩
          walk_at "vc"
          refine ⟨rfl, ?_⟩
          walk_at "vc"
          refine ite2 (fun e1 => ?_) (fun e1 => ?_)
          · have e1' : 1 ≤ i := of_decide_eq_true e1
            walk_at "vc"
            refine ite2 (fun e2 => ?_) (fun e2 => ?_)
            · have e2' : i ≤ m := of_decide_eq_true e2
              walk_at "vc"
              refine ⟨_, hDL, ?_, L ++ [i], sm.putN hD, ?_, ?_, ?_⟩
              · rw [List.length_map]
                exact Nat.lt_of_le_of_lt (by omega : _ ≤ 10) (by decide)
              · rw [upd_same, List.map_append]
                rfl
              · rw [List.length_append]
                show L.length + 1 ≤ _
                omega
              · intro td htd
                rcases List.mem_append.mp htd with h | h
                · exact hLm td h
                · rw [List.mem_singleton.mp h]
                  exact ⟨e1', e2'⟩
            · exact ⟨L, no⟩
          · walk_at "vc"
            exact ⟨L, no⟩
        · have sm' := s11.trans sm
          walk_at "vc"
          refine hnx _ _ ⟨D, L, rfl, sm' _ _ hsp10, sm' _ _ hps10, sm' _ _ hfp10, sh10.all sm', hT10.ext sm', hDL, fun td htd => ?_⟩
          refine ⟨(hLm td htd).1, fun ⟨m', z', e1, e2⟩ => ?_⟩
          rw [hB] at e1
          cases e1
          have := (hLm td htd).2
          omega
    clear hsp9 hps9 hfp9 sh9 hT9 hq9 hs9 s9
    rintro _ H10 ⟨q2, L, rfl, hsp10, hps10, hfp10, sh10, hT10, hq10, hL⟩
    walk_at "vc"
    refine for_range (n := 4) (fun i σ H' => ∃ y10 y11, σ = [some (.ref a0), some (.ref a), some (.str (S (letL t n))), some (.ref sp), some (.ref ps), some (.ref fp), some (.ref rp), some (.str (S o)), some (.ref x), some (.ref q2), y10, y11] ∧ SmT PT qL H10 H') ⟨_, _, rfl, SmT.refl _⟩ ?_ ?_
    · rintro i σ H11 hi ⟨y10, y11, rfl, st11⟩
      have hq11 := st11.lst hq10
      walk_at "vc0"
      refine x_iListi (SqL.of hq11) ?_
      refine for_list (K := K) (a := q2) (xs := L.map V.int) (fun j σ H' => ∃ y11, σ = [some (.ref a0), some (.ref a), some (.str (S (letL t n))), some (.ref sp), some (.ref ps), some (.ref fp), some (.ref rp), some (.str (S o)), some (.ref x), some (.ref q2), some (.int (0 + (i : Int))), y11] ∧ SmT PT qL H10 H') ⟨_, rfl, st11⟩ (fun j σ H' _ ⟨_, _, st⟩ => SqL.of (st.lst hq10)) ?_ ?_
      · rintro j xx σ H12 hx ⟨y11', rfl, st12⟩
        obtain ⟨td, htd, rfl⟩ : ∃ td, td ∈ L ∧ xx = .int td := by
          obtain ⟨td, h1, h2⟩ := List.mem_map.mp (List.mem_of_getElem? hx)
          exact ⟨td, h1, h2.symm⟩
        obtain ⟨h1t, hna⟩ := hL td htd
        walk_at "vc"
        refine ⟨_, x, f, ⟨letL t n, g, l, sds, rows⟩, o, td, sp, ps, rfl, sh10.smT st12, hlets, (by show rows.length ≤ 8; omega), hrz, by omega, hol, SqL.of (st12.lst hsp10), SqT.of (st12.tup hps10), hok, h1t, st12.t hT10, fun ha => absurd ha hna, fun _ lp H13 st13 hlp => ?_⟩
        have st := st12.trans st13
        walk_at "vc"
        refine ne_bar_same hok hlp (st.tup hfp10) ?_
        walk_at "vc"
        exact ⟨_, rfl, st⟩
      rintro σ H12 ⟨y11', rfl, st12⟩
      have hfp12 := st12.tup hfp10
      cases hB : barM sds g l with
      | ring za zr =>
        have hf : H12 fp = some (.tup [.str "endless", .str (S za), .str (S zr)]) := by rw [hfp12, hB]; rfl
        walk_at "vc"
        rw [decide_eq_false (by decide +kernel)]
        walk_at "vc"
        exact ⟨_, _, rfl, st12⟩
      | bar m z =>
        have hf : H12 fp = some (.tup [.str "bar", .int m, .str (S z)]) := by rw [hfp12, hB]; rfl
        have hok' : IsBar sds g l m z := by
          have h := hok
          rw [hB] at h
          exact h
        have hm0 := bar_nn h1s hok'
        walk_at "vc"
        rw [decide_eq_true rfl]
        walk_at "vc"
        refine ⟨_, x, f, ⟨letL t n, g, l, sds, rows⟩, o, m + 1, sp, ps, rfl, sh10.smT st12, hlets, (by show rows.length ≤ 8; omega), hrz, by omega, hol, SqL.of (st12.lst hsp10), SqT.of (st12.tup hps10), hok, by omega, st12.t hT10, fun _ H13 st13 => ?_, fun hn => absurd ⟨m, z, hB, by omega⟩ hn⟩
        walk_at "vc"
        refine ⟨rfl, ?_⟩
        rw [decide_eq_true rfl]
        walk_at "vc"
        exact ⟨_, _, rfl, st12.trans st13⟩
    · rintro σ H11 ⟨y10, y11, rfl, st11⟩
      walk_at "vc"
      exact q _

end
theorem all_mk {l : PySem.W.OpenLaw} {w : World} {K : PySem.W.Frag} {h : Heap} {mg : Str → Option Value} {fa : Addr} (X : K.In h) (G : h.Ns mainGlobals mg) (OT : TabF K mg h "_best_behind") (hfa : mg "law" = some (.ref fa))
    {cShelf : Addr} {aBadRow : Addr} {aBadSeed : Addr} {aBadText : Addr} {aNoPlace : Addr} {aNoRow : Addr} {aReachError : Addr} {aTooLow : Addr} {giTooLow ceTooLow cdTooLow : Addr} {oiTooLow kViTooLow dciTooLow pmiTooLow ctiTooLow koTooLow loTooLow : Value} {odiTooLow aniTooLow kdTooLow ldTooLow : Option Addr} {sliTooLow ksTooLow lsTooLow : Array (Option Value)} {cvTooLow : Array Value} {flTooLow : Str} {tfTooLow : Tok} {cc PT : Addr} {tec : Value} {tdd : Option Addr} {tvs : Array Value} {tsl : Array (Option Value)} {od0 an0 : Option Addr} {sl0 : Array (Option Value)} {oc0 kV0 dc0 pm0 cd0 ct0 : Value} {g0 : Addr} {od1 an1 : Option Addr} {sl1 : Array (Option Value)} {oc1 kV1 dc1 pm1 cd1 ct1 : Value} {g1 : Addr} {od2 an2 : Option Addr} {sl2 : Array (Option Value)} {oc2 kV2 dc2 pm2 cd2 ct2 : Value} {g2 : Addr} {od3 an3 : Option Addr} {sl3 : Array (Option Value)} {oc3 kV3 dc3 pm3 cd3 ct3 : Value} {g3 : Addr} {od4 an4 : Option Addr} {sl4 : Array (Option Value)} {oc4 kV4 dc4 pm4 cd4 ct4 : Value} {g4 : Addr} {od5 an5 : Option Addr} {sl5 : Array (Option Value)} {oc5 kV5 dc5 pm5 cd5 ct5 : Value} {g5 : Addr} {od6 an6 : Option Addr} {sl6 : Array (Option Value)} {oc6 kV6 dc6 pm6 cd6 ct6 : Value} {g6 : Addr} {od7 an7 : Option Addr} {sl7 : Array (Option Value)} {oc7 kV7 dc7 pm7 cd7 ct7 : Value} {g7 : Addr} {od8 an8 : Option Addr} {sl8 : Array (Option Value)} {oc8 kV8 dc8 pm8 cd8 ct8 : Value} {g8 : Addr} {od9 an9 : Option Addr} {sl9 : Array (Option Value)} {oc9 kV9 dc9 pm9 cd9 ct9 : Value} {g9 : Addr} {od10 an10 : Option Addr} {sl10 : Array (Option Value)} {oc10 kV10 dc10 pm10 cd10 ct10 : Value} {g10 : Addr} {od11 an11 : Option Addr} {sl11 : Array (Option Value)} {oc11 kV11 dc11 pm11 cd11 ct11 : Value} {g11 : Addr} {od12 an12 : Option Addr} {sl12 : Array (Option Value)} {oc12 kV12 dc12 pm12 cd12 ct12 : Value} {g12 : Addr} {od13 an13 : Option Addr} {sl13 : Array (Option Value)} {oc13 kV13 dc13 pm13 cd13 ct13 : Value} {g13 : Addr} {od14 an14 : Option Addr} {sl14 : Array (Option Value)} {oc14 kV14 dc14 pm14 cd14 ct14 : Value} {g14 : Addr} {od15 an15 : Option Addr} {sl15 : Array (Option Value)} {oc15 kV15 dc15 pm15 cd15 ct15 : Value} {g15 : Addr} {od16 an16 : Option Addr} {sl16 : Array (Option Value)} {oc16 kV16 dc16 pm16 cd16 ct16 : Value} {g16 : Addr} {od17 an17 : Option Addr} {sl17 : Array (Option Value)} {oc17 kV17 dc17 pm17 cd17 ct17 : Value} {g17 : Addr} {od18 an18 : Option Addr} {sl18 : Array (Option Value)} {oc18 kV18 dc18 pm18 cd18 ct18 : Value} {g18 : Addr} {od19 an19 : Option Addr} {sl19 : Array (Option Value)} {oc19 kV19 dc19 pm19 cd19 ct19 : Value} {g19 : Addr} {od20 an20 : Option Addr} {sl20 : Array (Option Value)} {oc20 kV20 dc20 pm20 ct20 : Value} {g20 : Addr} {od21 an21 : Option Addr} {sl21 : Array (Option Value)} {oc21 kV21 dc21 pm21 cd21 ct21 : Value} {g21 : Addr} {od22 an22 : Option Addr} {sl22 : Array (Option Value)} {oc22 kV22 dc22 pm22 cd22 ct22 : Value} {g22 : Addr} {od23 an23 : Option Addr} {sl23 : Array (Option Value)} {oc23 kV23 dc23 pm23 cd23 ct23 : Value} {g23 : Addr} {od24 an24 : Option Addr} {sl24 : Array (Option Value)} {oc24 kV24 dc24 pm24 cd24 ct24 : Value} {g24 : Addr} {od25 an25 : Option Addr} {sl25 : Array (Option Value)} {oc25 kV25 dc25 pm25 cd25 ct25 : Value} {g25 : Addr} {od26 an26 : Option Addr} {sl26 : Array (Option Value)} {oc26 kV26 dc26 pm26 cd26 ct26 : Value} {g26 : Addr} {od27 an27 : Option Addr} {sl27 : Array (Option Value)} {oc27 kV27 dc27 pm27 cd27 ct27 : Value} {g27 : Addr} {od28 an28 : Option Addr} {sl28 : Array (Option Value)} {oc28 kV28 dc28 pm28 cd28 ct28 : Value} {g28 : Addr} {od29 an29 : Option Addr} {sl29 : Array (Option Value)} {oc29 kV29 dc29 pm29 cd29 ct29 : Value} {g29 : Addr} {od30 an30 : Option Addr} {sl30 : Array (Option Value)} {oc30 kV30 dc30 pm30 cd30 ct30 : Value} {g30 : Addr} {od31 an31 : Option Addr} {sl31 : Array (Option Value)} {oc31 kV31 dc31 pm31 cd31 ct31 : Value} {g31 : Addr} {od32 an32 : Option Addr} {sl32 : Array (Option Value)} {oc32 kV32 dc32 pm32 cd32 ct32 : Value} {g32 : Addr} {od33 an33 : Option Addr} {sl33 : Array (Option Value)} {oc33 kV33 dc33 pm33 cd33 ct33 : Value} {g33 : Addr} {od34 an34 : Option Addr} {sl34 : Array (Option Value)} {oc34 kV34 dc34 pm34 cd34 ct34 : Value} {g34 : Addr} {od35 an35 : Option Addr} {sl35 : Array (Option Value)} {oc35 kV35 dc35 pm35 cd35 ct35 : Value} {g35 : Addr} {od36 an36 : Option Addr} {sl36 : Array (Option Value)} {oc36 kV36 dc36 pm36 cd36 ct36 : Value} {g36 : Addr} {od37 an37 : Option Addr} {sl37 : Array (Option Value)} {oc37 kV37 dc37 pm37 cd37 ct37 : Value} {g37 : Addr} {od38 an38 : Option Addr} {sl38 : Array (Option Value)} {oc38 kV38 dc38 pm38 cd38 ct38 : Value} {g38 : Addr} {od39 an39 : Option Addr} {sl39 : Array (Option Value)} {oc39 kV39 dc39 pm39 cd39 ct39 : Value} {g39 : Addr} {od40 an40 : Option Addr} {sl40 : Array (Option Value)} {oc40 kV40 dc40 pm40 cd40 ct40 : Value} {g40 : Addr} {od41 an41 : Option Addr} {sl41 : Array (Option Value)} {oc41 kV41 dc41 pm41 cd41 ct41 : Value} {g41 : Addr} {od42 an42 : Option Addr} {sl42 : Array (Option Value)} {oc42 kV42 dc42 pm42 cd42 ct42 : Value} {g42 : Addr} {od43 an43 : Option Addr} {sl43 : Array (Option Value)} {oc43 kV43 dc43 pm43 cd43 ct43 : Value} {g43 : Addr} {od44 an44 : Option Addr} {sl44 : Array (Option Value)} {oc44 kV44 dc44 pm44 cd44 ct44 : Value} {g44 : Addr} {od45 an45 : Option Addr} {sl45 : Array (Option Value)} {oc45 kV45 dc45 pm45 cd45 ct45 : Value} {g45 : Addr} {od46 an46 : Option Addr} {sl46 : Array (Option Value)} {oc46 kV46 dc46 pm46 cd46 ct46 : Value} {g46 : Addr} {od47 an47 : Option Addr} {sl47 : Array (Option Value)} {oc47 kV47 dc47 pm47 cd47 ct47 : Value} {g47 : Addr} {od48 an48 : Option Addr} {sl48 : Array (Option Value)} {oc48 kV48 dc48 pm48 cd48 ct48 : Value} {g48 : Addr} {od49 an49 : Option Addr} {sl49 : Array (Option Value)} {oc49 kV49 dc49 pm49 cd49 ct49 : Value} {g49 : Addr} {t_FEWEST_LETTERS : Tok} {t_MOST_LETTERS : Tok} {t_ALPHABET : Tok} {t_LONGEST_ROW : Tok} {t_LEAST_WEIGHT : Tok} {t_MOST_WEIGHT : Tok} {t_LIKE : Tok} {t_UNLIKE : Tok} {t_SHORTEST_SEED : Tok} {t_LONGEST_SEED : Tok} {t_PICK : Tok} {t_GAP : Tok} {t_FEWEST_SEEDS : Tok} {t_MOST_SEEDS : Tok} {t_BAR : Tok} {t_ENDLESS : Tok} {t_LOW : Tok} {t_REACHES : Tok} {t_UNSEEDED : Tok}
    (aCShelf : PySem.W.nsIn K mainGlobals "Shelf" = some (some (.ref cShelf))) (pgShelf : PySem.W.plainGet K cShelf Str.empty = true) (hdShelf : PySem.W.hasDictIn K cShelf = true) (poShelf : PySem.W.plainOver K cShelf = true) (saShelf : PySem.W.findIn K (.ref cShelf) "__setattr__" = some (some (.builtin "object.__setattr__"))) (mkShelf : PySem.W.makesIn K cShelf = true) (kcShelf : PySem.W.keepIn K (.ref cShelf) = true) (nShelf_letters : PySem.W.findIn K (.ref cShelf) "letters" = some none) (nShelf_scale : PySem.W.findIn K (.ref cShelf) "scale" = some none) (nShelf_seeds : PySem.W.findIn K (.ref cShelf) "seeds" = some none) (nShelf_limit : PySem.W.findIn K (.ref cShelf) "limit" = some none) (nShelf_laid : PySem.W.findIn K (.ref cShelf) "laid" = some none) (gxBadRow : PySem.W.nsIn K mainGlobals "BadRow" = some (some (.ref aBadRow))) (hdBadRow : PySem.W.hasDictIn K aBadRow = true) (tpBadRow : PySem.W.typeIn K (.ref aBadRow) = some (.type "type")) (bsBadRow : PySem.W.subIn K (.ref aBadRow) (.type "BaseException") = some true) (gxBadSeed : PySem.W.nsIn K mainGlobals "BadSeed" = some (some (.ref aBadSeed))) (hdBadSeed : PySem.W.hasDictIn K aBadSeed = true) (tpBadSeed : PySem.W.typeIn K (.ref aBadSeed) = some (.type "type")) (bsBadSeed : PySem.W.subIn K (.ref aBadSeed) (.type "BaseException") = some true) (gxBadText : PySem.W.nsIn K mainGlobals "BadText" = some (some (.ref aBadText))) (hdBadText : PySem.W.hasDictIn K aBadText = true) (tpBadText : PySem.W.typeIn K (.ref aBadText) = some (.type "type")) (bsBadText : PySem.W.subIn K (.ref aBadText) (.type "BaseException") = some true) (gxNoPlace : PySem.W.nsIn K mainGlobals "NoPlace" = some (some (.ref aNoPlace))) (hdNoPlace : PySem.W.hasDictIn K aNoPlace = true) (tpNoPlace : PySem.W.typeIn K (.ref aNoPlace) = some (.type "type")) (bsNoPlace : PySem.W.subIn K (.ref aNoPlace) (.type "BaseException") = some true) (gxNoRow : PySem.W.nsIn K mainGlobals "NoRow" = some (some (.ref aNoRow))) (hdNoRow : PySem.W.hasDictIn K aNoRow = true) (tpNoRow : PySem.W.typeIn K (.ref aNoRow) = some (.type "type")) (bsNoRow : PySem.W.subIn K (.ref aNoRow) (.type "BaseException") = some true) (gxReachError : PySem.W.nsIn K mainGlobals "ReachError" = some (some (.ref aReachError))) (hdReachError : PySem.W.hasDictIn K aReachError = true) (tpReachError : PySem.W.typeIn K (.ref aReachError) = some (.type "type")) (bsReachError : PySem.W.subIn K (.ref aReachError) (.type "BaseException") = some true) (gxTooLow : PySem.W.nsIn K mainGlobals "TooLow" = some (some (.ref aTooLow))) (hdTooLow : PySem.W.hasDictIn K aTooLow = true) (tpTooLow : PySem.W.typeIn K (.ref aTooLow) = some (.type "type")) (bsTooLow : PySem.W.subIn K (.ref aTooLow) (.type "BaseException") = some true) (obTooLow : L2.oexB K aTooLow = true) (kxTooLow : PySem.W.keepIn K (.ref aTooLow) = true) (saTooLow : PySem.W.findIn K (.ref aTooLow) "__setattr__" = some (some (.builtin "object.__setattr__"))) (icTooLow : PySem.W.findIn K (.ref aTooLow) "__init__" = some (some (.ref giTooLow))) (tiTooLow : PySem.W.typeIn K (.ref giTooLow) = some (.type "function")) (liTooLow : K.lookup giTooLow = some ⟨oiTooLow, odiTooLow, .func (PySem.W.fnX "__init__" "TooLow.__init__" (defArgs sTooLow___init__) (defBody sTooLow___init__) (defScope sTooLow___init__) [("__class__", ceTooLow)] .none kViTooLow dciTooLow pmiTooLow aniTooLow (.ref cdTooLow) ctiTooLow), sliTooLow⟩) (ciTooLow : PySem.W.codeIn K (.ref cdTooLow) "TooLow.__init__" = true) (clTooLow : K.lookup ceTooLow = some ⟨loTooLow, ldTooLow, .cell (some (.ref aTooLow)), lsTooLow⟩) (coTooLow : K.lookup cdTooLow = some ⟨koTooLow, kdTooLow, .fields cvTooLow, ksTooLow⟩) (cwTooLow : cvTooLow[2]? = some (.str flTooLow tfTooLow)) (alTooLow : PySem.W.ks_superIn K aTooLow aTooLow "__init__" = some (some (.builtin "ValueError.__init__"))) (baTooLow : PySem.W.findIn K (.ref aTooLow) "bar" = some none) (mrTooLow : PySem.W.mroIn K aTooLow (.ref aTooLow) = some true) (thTooLow : PySem.W.nsIn K cStatics "thirdparty.any" = some none) (spTooLow : PySem.W.nsIn K mainGlobals "super" = some none) (pfTooLow : (l.prog.main.file == flTooLow) = true) (ptTooLow : (l.prog.main.scope.names.lookup ("super" : Str)).isSome = false) (hgTooLow : PySem.W.findIn K (.ref aTooLow) "__getattribute__" = some (some (.builtin "BaseException.__getattribute__"))) (hkTooLow : PySem.W.findIn K (.ref aTooLow) "__getattr__" = some none) (hcTooLow : PySem.W.findIn K (.ref aTooLow) "__class__" = some (some (.builtin "object.__class__"))) (hmTooLow : PySem.W.mroIn K aTooLow (.type "object") = some true) (veTooLow : PySem.W.subIn K (.ref aTooLow) (.type "ValueError") = some true) (suTooLow_BadRow : PySem.W.subIn K (.ref aTooLow) (.ref aBadRow) = some false) (suTooLow_BadSeed : PySem.W.subIn K (.ref aTooLow) (.ref aBadSeed) = some false) (suTooLow_BadText : PySem.W.subIn K (.ref aTooLow) (.ref aBadText) = some false) (suTooLow_NoPlace : PySem.W.subIn K (.ref aTooLow) (.ref aNoPlace) = some false) (suTooLow_NoRow : PySem.W.subIn K (.ref aTooLow) (.ref aNoRow) = some false) (suTooLow_ReachError : PySem.W.subIn K (.ref aTooLow) (.ref aReachError) = some true) (suTooLow_TooLow : PySem.W.subIn K (.ref aTooLow) (.ref aTooLow) = some true) (xhn : PySem.W.specialIn K (.builtin "object.__class__") "__get__" = some (some (.builtin "getset_descriptor.__get__"))) (xht : PySem.W.takesIn K (.builtin "object.__class__") = some true) (a0 : PySem.W.nsIn K mainGlobals "need_letters" = some (some (.ref g0))) (l0 : K.lookup g0 = some ⟨oc0, od0, .func (PySem.W.fnOf "need_letters" "need_letters" (defArgs sneed_letters) (defBody sneed_letters) (defScope sneed_letters) .none kV0 dc0 pm0 an0 cd0 ct0), sl0⟩) (c0 : PySem.W.codeIn K cd0 "need_letters" = true) (k0 : PySem.W.keepIn K (.ref g0) = true) (a1 : PySem.W.nsIn K mainGlobals "need_row" = some (some (.ref g1))) (l1 : K.lookup g1 = some ⟨oc1, od1, .func (PySem.W.fnOf "need_row" "need_row" (defArgs sneed_row) (defBody sneed_row) (defScope sneed_row) .none kV1 dc1 pm1 an1 cd1 ct1), sl1⟩) (c1 : PySem.W.codeIn K cd1 "need_row" = true) (k1 : PySem.W.keepIn K (.ref g1) = true) (a2 : PySem.W.nsIn K mainGlobals "need_scale" = some (some (.ref g2))) (l2 : K.lookup g2 = some ⟨oc2, od2, .func (PySem.W.fnOf "need_scale" "need_scale" (defArgs sneed_scale) (defBody sneed_scale) (defScope sneed_scale) .none kV2 dc2 pm2 an2 cd2 ct2), sl2⟩) (c2 : PySem.W.codeIn K cd2 "need_scale" = true) (k2 : PySem.W.keepIn K (.ref g2) = true) (a3 : PySem.W.nsIn K mainGlobals "lane_begin" = some (some (.ref g3))) (l3 : K.lookup g3 = some ⟨oc3, od3, .func (PySem.W.fnOf "lane_begin" "lane_begin" (defArgs slane_begin) (defBody slane_begin) (defScope slane_begin) .none kV3 dc3 pm3 an3 cd3 ct3), sl3⟩) (c3 : PySem.W.codeIn K cd3 "lane_begin" = true) (k3 : PySem.W.keepIn K (.ref g3) = true) (a4 : PySem.W.nsIn K mainGlobals "likes_of" = some (some (.ref g4))) (l4 : K.lookup g4 = some ⟨oc4, od4, .func (PySem.W.fnOf "likes_of" "likes_of" (defArgs slikes_of) (defBody slikes_of) (defScope slikes_of) .none kV4 dc4 pm4 an4 cd4 ct4), sl4⟩) (c4 : PySem.W.codeIn K cd4 "likes_of" = true) (k4 : PySem.W.keepIn K (.ref g4) = true) (a5 : PySem.W.nsIn K mainGlobals "worth_of" = some (some (.ref g5))) (l5 : K.lookup g5 = some ⟨oc5, od5, .func (PySem.W.fnOf "worth_of" "worth_of" (defArgs sworth_of) (defBody sworth_of) (defScope sworth_of) .none kV5 dc5 pm5 an5 cd5 ct5), sl5⟩) (c5 : PySem.W.codeIn K cd5 "worth_of" = true) (k5 : PySem.W.keepIn K (.ref g5) = true) (a6 : PySem.W.nsIn K mainGlobals "greatest_worth" = some (some (.ref g6))) (l6 : K.lookup g6 = some ⟨oc6, od6, .func (PySem.W.fnOf "greatest_worth" "greatest_worth" (defArgs sgreatest_worth) (defBody sgreatest_worth) (defScope sgreatest_worth) .none kV6 dc6 pm6 an6 cd6 ct6), sl6⟩) (c6 : PySem.W.codeIn K cd6 "greatest_worth" = true) (k6 : PySem.W.keepIn K (.ref g6) = true) (a7 : PySem.W.nsIn K mainGlobals "_last_below" = some (some (.ref g7))) (l7 : K.lookup g7 = some ⟨oc7, od7, .func (PySem.W.fnOf "_last_below" "_last_below" (defArgs s_last_below) (defBody s_last_below) (defScope s_last_below) .none kV7 dc7 pm7 an7 cd7 ct7), sl7⟩) (c7 : PySem.W.codeIn K cd7 "_last_below" = true) (k7 : PySem.W.keepIn K (.ref g7) = true) (a8 : PySem.W.nsIn K mainGlobals "_join" = some (some (.ref g8))) (l8 : K.lookup g8 = some ⟨oc8, od8, .func (PySem.W.fnOf "_join" "_join" (defArgs s_join) (defBody s_join) (defScope s_join) .none kV8 dc8 pm8 an8 cd8 ct8), sl8⟩) (c8 : PySem.W.codeIn K cd8 "_join" = true) (k8 : PySem.W.keepIn K (.ref g8) = true) (a9 : PySem.W.nsIn K mainGlobals "ripe" = some (some (.ref g9))) (l9 : K.lookup g9 = some ⟨oc9, od9, .func (PySem.W.fnOf "ripe" "ripe" (defArgs sripe) (defBody sripe) (defScope sripe) .none kV9 dc9 pm9 an9 cd9 ct9), sl9⟩) (c9 : PySem.W.codeIn K cd9 "ripe" = true) (k9 : PySem.W.keepIn K (.ref g9) = true) (a10 : PySem.W.nsIn K mainGlobals "lane_reaches" = some (some (.ref g10))) (l10 : K.lookup g10 = some ⟨oc10, od10, .func (PySem.W.fnOf "lane_reaches" "lane_reaches" (defArgs slane_reaches) (defBody slane_reaches) (defScope slane_reaches) .none kV10 dc10 pm10 an10 cd10 ct10), sl10⟩) (c10 : PySem.W.codeIn K cd10 "lane_reaches" = true) (k10 : PySem.W.keepIn K (.ref g10) = true) (a11 : PySem.W.nsIn K mainGlobals "_need_seed" = some (some (.ref g11))) (l11 : K.lookup g11 = some ⟨oc11, od11, .func (PySem.W.fnOf "_need_seed" "_need_seed" (defArgs s_need_seed) (defBody s_need_seed) (defScope s_need_seed) .none kV11 dc11 pm11 an11 cd11 ct11), sl11⟩) (c11 : PySem.W.codeIn K cd11 "_need_seed" = true) (k11 : PySem.W.keepIn K (.ref g11) = true) (a12 : PySem.W.nsIn K mainGlobals "need_seeds" = some (some (.ref g12))) (l12 : K.lookup g12 = some ⟨oc12, od12, .func (PySem.W.fnOf "need_seeds" "need_seeds" (defArgs sneed_seeds) (defBody sneed_seeds) (defScope sneed_seeds) .none kV12 dc12 pm12 an12 cd12 ct12), sl12⟩) (c12 : PySem.W.codeIn K cd12 "need_seeds" = true) (k12 : PySem.W.keepIn K (.ref g12) = true) (a13 : PySem.W.nsIn K mainGlobals "unlike_under" = some (some (.ref g13))) (l13 : K.lookup g13 = some ⟨oc13, od13, .func (PySem.W.fnOf "unlike_under" "unlike_under" (defArgs sunlike_under) (defBody sunlike_under) (defScope sunlike_under) .none kV13 dc13 pm13 an13 cd13 ct13), sl13⟩) (c13 : PySem.W.codeIn K cd13 "unlike_under" = true) (k13 : PySem.W.keepIn K (.ref g13) = true) (a14 : PySem.W.nsIn K mainGlobals "fits" = some (some (.ref g14))) (l14 : K.lookup g14 = some ⟨oc14, od14, .func (PySem.W.fnOf "fits" "fits" (defArgs sfits) (defBody sfits) (defScope sfits) .none kV14 dc14 pm14 an14 cd14 ct14), sl14⟩) (c14 : PySem.W.codeIn K cd14 "fits" = true) (k14 : PySem.W.keepIn K (.ref g14) = true) (a15 : PySem.W.nsIn K mainGlobals "is_seeded" = some (some (.ref g15))) (l15 : K.lookup g15 = some ⟨oc15, od15, .func (PySem.W.fnOf "is_seeded" "is_seeded" (defArgs sis_seeded) (defBody sis_seeded) (defScope sis_seeded) .none kV15 dc15 pm15 an15 cd15 ct15), sl15⟩) (c15 : PySem.W.codeIn K cd15 "is_seeded" = true) (k15 : PySem.W.keepIn K (.ref g15) = true) (a16 : PySem.W.nsIn K mainGlobals "_tail" = some (some (.ref g16))) (l16 : K.lookup g16 = some ⟨oc16, od16, .func (PySem.W.fnOf "_tail" "_tail" (defArgs s_tail) (defBody s_tail) (defScope s_tail) .none kV16 dc16 pm16 an16 cd16 ct16), sl16⟩) (c16 : PySem.W.codeIn K cd16 "_tail" = true) (k16 : PySem.W.keepIn K (.ref g16) = true) (a17 : PySem.W.nsIn K mainGlobals "_steps_from" = some (some (.ref g17))) (l17 : K.lookup g17 = some ⟨oc17, od17, .func (PySem.W.fnOf "_steps_from" "_steps_from" (defArgs s_steps_from) (defBody s_steps_from) (defScope s_steps_from) .none kV17 dc17 pm17 an17 cd17 ct17), sl17⟩) (c17 : PySem.W.codeIn K cd17 "_steps_from" = true) (k17 : PySem.W.keepIn K (.ref g17) = true) (a18 : PySem.W.nsIn K mainGlobals "_steps" = some (some (.ref g18))) (l18 : K.lookup g18 = some ⟨oc18, od18, .func (PySem.W.fnOf "_steps" "_steps" (defArgs s_steps) (defBody s_steps) (defScope s_steps) .none kV18 dc18 pm18 an18 cd18 ct18), sl18⟩) (c18 : PySem.W.codeIn K cd18 "_steps" = true) (k18 : PySem.W.keepIn K (.ref g18) = true) (a19 : PySem.W.nsIn K mainGlobals "_ring" = some (some (.ref g19))) (l19 : K.lookup g19 = some ⟨oc19, od19, .func (PySem.W.fnOf "_ring" "_ring" (defArgs s_ring) (defBody s_ring) (defScope s_ring) .none kV19 dc19 pm19 an19 cd19 ct19), sl19⟩) (c19 : PySem.W.codeIn K cd19 "_ring" = true) (k19 : PySem.W.keepIn K (.ref g19) = true) (a20 : PySem.W.nsIn K mainGlobals "_best_behind" = some (some (.ref g20))) (l20 : K.lookup g20 = some ⟨oc20, od20, .func (PySem.W.fnOf "_best_behind" "_best_behind" (defArgs s_best_behind) (defBody s_best_behind) (defScope s_best_behind) .none kV20 dc20 pm20 an20 (.ref cc) ct20), sl20⟩) (c20 : PySem.W.codeIn K (.ref cc) "_best_behind" = true) (k20 : PySem.W.keepIn K (.ref g20) = true) (tab1 : K.lookup cc = some ⟨tec, tdd, .fields tvs, tsl⟩) (tab2 : tvs[11]? = some (.ref PT)) (tab3 : PySem.W.codeHdIn K cc PT = true) (tab4 : K.lookup PT = none) (a21 : PySem.W.nsIn K mainGlobals "bar" = some (some (.ref g21))) (l21 : K.lookup g21 = some ⟨oc21, od21, .func (PySem.W.fnOf "bar" "bar" (defArgs sbar) (defBody sbar) (defScope sbar) .none kV21 dc21 pm21 an21 cd21 ct21), sl21⟩) (c21 : PySem.W.codeIn K cd21 "bar" = true) (k21 : PySem.W.keepIn K (.ref g21) = true) (a22 : PySem.W.nsIn K mainGlobals "need_above" = some (some (.ref g22))) (l22 : K.lookup g22 = some ⟨oc22, od22, .func (PySem.W.fnOf "need_above" "need_above" (defArgs sneed_above) (defBody sneed_above) (defScope sneed_above) .none kV22 dc22 pm22 an22 cd22 ct22), sl22⟩) (c22 : PySem.W.codeIn K cd22 "need_above" = true) (k22 : PySem.W.keepIn K (.ref g22) = true) (a23 : PySem.W.findIn K (.ref cShelf) "__init__" = some (some (.ref g23))) (i23 : PySem.W.isFn K (.ref g23) = true) (l23 : K.lookup g23 = some ⟨oc23, od23, .func (PySem.W.fnOf "__init__" "Shelf.__init__" (defArgs sShelf___init__) (defBody sShelf___init__) (defScope sShelf___init__) .none kV23 dc23 pm23 an23 cd23 ct23), sl23⟩) (c23 : PySem.W.codeIn K cd23 "Shelf.__init__" = true) (k23 : PySem.W.keepIn K (.ref g23) = true) (a24 : PySem.W.findIn K (.ref cShelf) "lay" = some (some (.ref g24))) (i24 : PySem.W.isFn K (.ref g24) = true) (l24 : K.lookup g24 = some ⟨oc24, od24, .func (PySem.W.fnOf "lay" "Shelf.lay" (defArgs sShelf_lay) (defBody sShelf_lay) (defScope sShelf_lay) .none kV24 dc24 pm24 an24 cd24 ct24), sl24⟩) (c24 : PySem.W.codeIn K cd24 "Shelf.lay" = true) (k24 : PySem.W.keepIn K (.ref g24) = true) (a25 : PySem.W.findIn K (.ref cShelf) "rows" = some (some (.ref g25))) (i25 : PySem.W.isFn K (.ref g25) = true) (l25 : K.lookup g25 = some ⟨oc25, od25, .func (PySem.W.fnOf "rows" "Shelf.rows" (defArgs sShelf_rows) (defBody sShelf_rows) (defScope sShelf_rows) .none kV25 dc25 pm25 an25 cd25 ct25), sl25⟩) (c25 : PySem.W.codeIn K cd25 "Shelf.rows" = true) (k25 : PySem.W.keepIn K (.ref g25) = true) (a26 : PySem.W.nsIn K mainGlobals "_picked" = some (some (.ref g26))) (l26 : K.lookup g26 = some ⟨oc26, od26, .func (PySem.W.fnOf "_picked" "_picked" (defArgs s_picked) (defBody s_picked) (defScope s_picked) .none kV26 dc26 pm26 an26 cd26 ct26), sl26⟩) (c26 : PySem.W.codeIn K cd26 "_picked" = true) (k26 : PySem.W.keepIn K (.ref g26) = true) (a27 : PySem.W.nsIn K mainGlobals "_windows_of" = some (some (.ref g27))) (l27 : K.lookup g27 = some ⟨oc27, od27, .func (PySem.W.fnOf "_windows_of" "_windows_of" (defArgs s_windows_of) (defBody s_windows_of) (defScope s_windows_of) .none kV27 dc27 pm27 an27 cd27 ct27), sl27⟩) (c27 : PySem.W.codeIn K cd27 "_windows_of" = true) (k27 : PySem.W.keepIn K (.ref g27) = true) (a28 : PySem.W.findIn K (.ref cShelf) "windows" = some (some (.ref g28))) (i28 : PySem.W.isFn K (.ref g28) = true) (l28 : K.lookup g28 = some ⟨oc28, od28, .func (PySem.W.fnOf "windows" "Shelf.windows" (defArgs sShelf_windows) (defBody sShelf_windows) (defScope sShelf_windows) .none kV28 dc28 pm28 an28 cd28 ct28), sl28⟩) (c28 : PySem.W.codeIn K cd28 "Shelf.windows" = true) (k28 : PySem.W.keepIn K (.ref g28) = true) (a29 : PySem.W.findIn K (.ref cShelf) "_seeded_lanes" = some (some (.ref g29))) (i29 : PySem.W.isFn K (.ref g29) = true) (l29 : K.lookup g29 = some ⟨oc29, od29, .func (PySem.W.fnOf "_seeded_lanes" "Shelf._seeded_lanes" (defArgs sShelf__seeded_lanes) (defBody sShelf__seeded_lanes) (defScope sShelf__seeded_lanes) .none kV29 dc29 pm29 an29 cd29 ct29), sl29⟩) (c29 : PySem.W.codeIn K cd29 "Shelf._seeded_lanes" = true) (k29 : PySem.W.keepIn K (.ref g29) = true) (a30 : PySem.W.findIn K (.ref cShelf) "find" = some (some (.ref g30))) (i30 : PySem.W.isFn K (.ref g30) = true) (l30 : K.lookup g30 = some ⟨oc30, od30, .func (PySem.W.fnOf "find" "Shelf.find" (defArgs sShelf_find) (defBody sShelf_find) (defScope sShelf_find) .none kV30 dc30 pm30 an30 cd30 ct30), sl30⟩) (c30 : PySem.W.codeIn K cd30 "Shelf.find" = true) (k30 : PySem.W.keepIn K (.ref g30) = true) (a31 : PySem.W.nsIn K mainGlobals "bound" = some (some (.ref g31))) (l31 : K.lookup g31 = some ⟨oc31, od31, .func (PySem.W.fnOf "bound" "bound" (defArgs sbound) (defBody sbound) (defScope sbound) .none kV31 dc31 pm31 an31 cd31 ct31), sl31⟩) (c31 : PySem.W.codeIn K cd31 "bound" = true) (k31 : PySem.W.keepIn K (.ref g31) = true) (a32 : PySem.W.nsIn K mainGlobals "_greatest_worths" = some (some (.ref g32))) (l32 : K.lookup g32 = some ⟨oc32, od32, .func (PySem.W.fnOf "_greatest_worths" "_greatest_worths" (defArgs s_greatest_worths) (defBody s_greatest_worths) (defScope s_greatest_worths) .none kV32 dc32 pm32 an32 cd32 ct32), sl32⟩) (c32 : PySem.W.codeIn K cd32 "_greatest_worths" = true) (k32 : PySem.W.keepIn K (.ref g32) = true) (a33 : PySem.W.nsIn K mainGlobals "pairs" = some (some (.ref g33))) (l33 : K.lookup g33 = some ⟨oc33, od33, .func (PySem.W.fnOf "pairs" "pairs" (defArgs spairs) (defBody spairs) (defScope spairs) .none kV33 dc33 pm33 an33 cd33 ct33), sl33⟩) (c33 : PySem.W.codeIn K cd33 "pairs" = true) (k33 : PySem.W.keepIn K (.ref g33) = true) (a34 : PySem.W.nsIn K mainGlobals "unlike_places" = some (some (.ref g34))) (l34 : K.lookup g34 = some ⟨oc34, od34, .func (PySem.W.fnOf "unlike_places" "unlike_places" (defArgs sunlike_places) (defBody sunlike_places) (defScope sunlike_places) .none kV34 dc34 pm34 an34 cd34 ct34), sl34⟩) (c34 : PySem.W.codeIn K cd34 "unlike_places" = true) (k34 : PySem.W.keepIn K (.ref g34) = true) (a35 : PySem.W.nsIn K mainGlobals "lane" = some (some (.ref g35))) (l35 : K.lookup g35 = some ⟨oc35, od35, .func (PySem.W.fnOf "lane" "lane" (defArgs slane) (defBody slane) (defScope slane) .none kV35 dc35 pm35 an35 cd35 ct35), sl35⟩) (c35 : PySem.W.codeIn K cd35 "lane" = true) (k35 : PySem.W.keepIn K (.ref g35) = true) (a36 : PySem.W.nsIn K mainGlobals "_each_is_under" = some (some (.ref g36))) (l36 : K.lookup g36 = some ⟨oc36, od36, .func (PySem.W.fnOf "_each_is_under" "_each_is_under" (defArgs s_each_is_under) (defBody s_each_is_under) (defScope s_each_is_under) .none kV36 dc36 pm36 an36 cd36 ct36), sl36⟩) (c36 : PySem.W.codeIn K cd36 "_each_is_under" = true) (k36 : PySem.W.keepIn K (.ref g36) = true) (a37 : PySem.W.nsIn K mainGlobals "shows" = some (some (.ref g37))) (l37 : K.lookup g37 = some ⟨oc37, od37, .func (PySem.W.fnOf "shows" "shows" (defArgs sshows) (defBody sshows) (defScope sshows) .none kV37 dc37 pm37 an37 cd37 ct37), sl37⟩) (c37 : PySem.W.codeIn K cd37 "shows" = true) (k37 : PySem.W.keepIn K (.ref g37) = true) (a38 : PySem.W.nsIn K mainGlobals "_law_next" = some (some (.ref g38))) (l38 : K.lookup g38 = some ⟨oc38, od38, .func (PySem.W.fnOf "_law_next" "_law_next" (defArgs s_law_next) (defBody s_law_next) (defScope s_law_next) .none kV38 dc38 pm38 an38 cd38 ct38), sl38⟩) (c38 : PySem.W.codeIn K cd38 "_law_next" = true) (k38 : PySem.W.keepIn K (.ref g38) = true) (a39 : PySem.W.nsIn K mainGlobals "_law_letters" = some (some (.ref g39))) (l39 : K.lookup g39 = some ⟨oc39, od39, .func (PySem.W.fnOf "_law_letters" "_law_letters" (defArgs s_law_letters) (defBody s_law_letters) (defScope s_law_letters) .none kV39 dc39 pm39 an39 cd39 ct39), sl39⟩) (c39 : PySem.W.codeIn K cd39 "_law_letters" = true) (k39 : PySem.W.keepIn K (.ref g39) = true) (a40 : PySem.W.nsIn K mainGlobals "_law_row" = some (some (.ref g40))) (l40 : K.lookup g40 = some ⟨oc40, od40, .func (PySem.W.fnOf "_law_row" "_law_row" (defArgs s_law_row) (defBody s_law_row) (defScope s_law_row) .none kV40 dc40 pm40 an40 cd40 ct40), sl40⟩) (c40 : PySem.W.codeIn K cd40 "_law_row" = true) (k40 : PySem.W.keepIn K (.ref g40) = true) (a41 : PySem.W.nsIn K mainGlobals "_law_near" = some (some (.ref g41))) (l41 : K.lookup g41 = some ⟨oc41, od41, .func (PySem.W.fnOf "_law_near" "_law_near" (defArgs s_law_near) (defBody s_law_near) (defScope s_law_near) .none kV41 dc41 pm41 an41 cd41 ct41), sl41⟩) (c41 : PySem.W.codeIn K cd41 "_law_near" = true) (k41 : PySem.W.keepIn K (.ref g41) = true) (a42 : PySem.W.nsIn K mainGlobals "_law_scale" = some (some (.ref g42))) (l42 : K.lookup g42 = some ⟨oc42, od42, .func (PySem.W.fnOf "_law_scale" "_law_scale" (defArgs s_law_scale) (defBody s_law_scale) (defScope s_law_scale) .none kV42 dc42 pm42 an42 cd42 ct42), sl42⟩) (c42 : PySem.W.codeIn K cd42 "_law_scale" = true) (k42 : PySem.W.keepIn K (.ref g42) = true) (a43 : PySem.W.nsIn K mainGlobals "_law_seed" = some (some (.ref g43))) (l43 : K.lookup g43 = some ⟨oc43, od43, .func (PySem.W.fnOf "_law_seed" "_law_seed" (defArgs s_law_seed) (defBody s_law_seed) (defScope s_law_seed) .none kV43 dc43 pm43 an43 cd43 ct43), sl43⟩) (c43 : PySem.W.codeIn K cd43 "_law_seed" = true) (k43 : PySem.W.keepIn K (.ref g43) = true) (a44 : PySem.W.nsIn K mainGlobals "_law_seeds" = some (some (.ref g44))) (l44 : K.lookup g44 = some ⟨oc44, od44, .func (PySem.W.fnOf "_law_seeds" "_law_seeds" (defArgs s_law_seeds) (defBody s_law_seeds) (defScope s_law_seeds) .none kV44 dc44 pm44 an44 cd44 ct44), sl44⟩) (c44 : PySem.W.codeIn K cd44 "_law_seeds" = true) (k44 : PySem.W.keepIn K (.ref g44) = true) (a45 : PySem.W.nsIn K mainGlobals "_law_rows" = some (some (.ref g45))) (l45 : K.lookup g45 = some ⟨oc45, od45, .func (PySem.W.fnOf "_law_rows" "_law_rows" (defArgs s_law_rows) (defBody s_law_rows) (defScope s_law_rows) .none kV45 dc45 pm45 an45 cd45 ct45), sl45⟩) (c45 : PySem.W.codeIn K cd45 "_law_rows" = true) (k45 : PySem.W.keepIn K (.ref g45) = true) (a46 : PySem.W.nsIn K mainGlobals "_law_shelf" = some (some (.ref g46))) (l46 : K.lookup g46 = some ⟨oc46, od46, .func (PySem.W.fnOf "_law_shelf" "_law_shelf" (defArgs s_law_shelf) (defBody s_law_shelf) (defScope s_law_shelf) .none kV46 dc46 pm46 an46 cd46 ct46), sl46⟩) (c46 : PySem.W.codeIn K cd46 "_law_shelf" = true) (k46 : PySem.W.keepIn K (.ref g46) = true) (a47 : PySem.W.nsIn K mainGlobals "_law_ask" = some (some (.ref g47))) (l47 : K.lookup g47 = some ⟨oc47, od47, .func (PySem.W.fnOf "_law_ask" "_law_ask" (defArgs s_law_ask) (defBody s_law_ask) (defScope s_law_ask) .none kV47 dc47 pm47 an47 cd47 ct47), sl47⟩) (c47 : PySem.W.codeIn K cd47 "_law_ask" = true) (k47 : PySem.W.keepIn K (.ref g47) = true) (a48 : PySem.W.nsIn K mainGlobals "_law_bar" = some (some (.ref g48))) (l48 : K.lookup g48 = some ⟨oc48, od48, .func (PySem.W.fnOf "_law_bar" "_law_bar" (defArgs s_law_bar) (defBody s_law_bar) (defScope s_law_bar) .none kV48 dc48 pm48 an48 cd48 ct48), sl48⟩) (c48 : PySem.W.codeIn K cd48 "_law_bar" = true) (k48 : PySem.W.keepIn K (.ref g48) = true) (a49 : PySem.W.nsIn K mainGlobals "law" = some (some (.ref g49))) (l49 : K.lookup g49 = some ⟨oc49, od49, .func (PySem.W.fnOf "law" "law" (defArgs slaw) (defBody slaw) (defScope slaw) .none kV49 dc49 pm49 an49 cd49 ct49), sl49⟩) (c49 : PySem.W.codeIn K cd49 "law" = true) (k49 : PySem.W.keepIn K (.ref g49) = true) (z_len : PySem.W.nsIn K mainGlobals "len" = some none) (z_max : PySem.W.nsIn K mainGlobals "max" = some none) (z_min : PySem.W.nsIn K mainGlobals "min" = some none) (z_range : PySem.W.nsIn K mainGlobals "range" = some none) (z_enumerate : PySem.W.nsIn K mainGlobals "enumerate" = some none) (z_any : PySem.W.nsIn K mainGlobals "any" = some none) (z_list : PySem.W.nsIn K mainGlobals "list" = some none) (z_sorted : PySem.W.nsIn K mainGlobals "sorted" = some none) (z_set : PySem.W.nsIn K mainGlobals "set" = some none) (z_sum : PySem.W.nsIn K mainGlobals "sum" = some none) (z_all : PySem.W.nsIn K mainGlobals "all" = some none) (z_zip : PySem.W.nsIn K mainGlobals "zip" = some none) (z_isinstance : PySem.W.nsIn K mainGlobals "isinstance" = some none) (z_ValueError : PySem.W.nsIn K mainGlobals "ValueError" = some none) (y_FEWEST_LETTERS : PySem.W.nsIn K mainGlobals "FEWEST_LETTERS" = some (some (Value.int (2) t_FEWEST_LETTERS))) (y_MOST_LETTERS : PySem.W.nsIn K mainGlobals "MOST_LETTERS" = some (some (Value.int (6) t_MOST_LETTERS))) (y_ALPHABET : PySem.W.nsIn K mainGlobals "ALPHABET" = some (some (Value.str "abcdefghijklmnopqrstuvwxyz" t_ALPHABET))) (y_LONGEST_ROW : PySem.W.nsIn K mainGlobals "LONGEST_ROW" = some (some (Value.int (60) t_LONGEST_ROW))) (y_LEAST_WEIGHT : PySem.W.nsIn K mainGlobals "LEAST_WEIGHT" = some (some (Value.int (1) t_LEAST_WEIGHT))) (y_MOST_WEIGHT : PySem.W.nsIn K mainGlobals "MOST_WEIGHT" = some (some (Value.int (9) t_MOST_WEIGHT))) (y_LIKE : PySem.W.nsIn K mainGlobals "LIKE" = some (some (Value.str "=" t_LIKE))) (y_UNLIKE : PySem.W.nsIn K mainGlobals "UNLIKE" = some (some (Value.str "/" t_UNLIKE))) (y_SHORTEST_SEED : PySem.W.nsIn K mainGlobals "SHORTEST_SEED" = some (some (Value.int (1) t_SHORTEST_SEED))) (y_LONGEST_SEED : PySem.W.nsIn K mainGlobals "LONGEST_SEED" = some (some (Value.int (8) t_LONGEST_SEED))) (y_PICK : PySem.W.nsIn K mainGlobals "PICK" = some (some (Value.str "#" t_PICK))) (y_GAP : PySem.W.nsIn K mainGlobals "GAP" = some (some (Value.str "-" t_GAP))) (y_FEWEST_SEEDS : PySem.W.nsIn K mainGlobals "FEWEST_SEEDS" = some (some (Value.int (1) t_FEWEST_SEEDS))) (y_MOST_SEEDS : PySem.W.nsIn K mainGlobals "MOST_SEEDS" = some (some (Value.int (3) t_MOST_SEEDS))) (y_BAR : PySem.W.nsIn K mainGlobals "BAR" = some (some (Value.str "bar" t_BAR))) (y_ENDLESS : PySem.W.nsIn K mainGlobals "ENDLESS" = some (some (Value.str "endless" t_ENDLESS))) (y_LOW : PySem.W.nsIn K mainGlobals "LOW" = some (some (Value.str "low" t_LOW))) (y_REACHES : PySem.W.nsIn K mainGlobals "REACHES" = some (some (Value.str "reaches" t_REACHES))) (y_UNSEEDED : PySem.W.nsIn K mainGlobals "UNSEEDED" = some (some (Value.str "unseeded" t_UNSEEDED))) :
    LamX.LawAtS l w K CX0 10 63 "_law_script" mg fa h := by
  have e := hfa.symm.trans (PySem.W.mg_of X G a49)
  cases e
  have F0 := fun_mk (st := sneed_letters) l0 c0 k0
  have F1 := fun_mk (st := sneed_row) l1 c1 k1
  have F2 := fun_mk (st := sneed_scale) l2 c2 k2
  have F3 := fun_mk (st := slane_begin) l3 c3 k3
  have F4 := fun_mk (st := slikes_of) l4 c4 k4
  have F5 := fun_mk (st := sworth_of) l5 c5 k5
  have F6 := fun_mk (st := sgreatest_worth) l6 c6 k6
  have F7 := fun_mk (st := s_last_below) l7 c7 k7
  have F8 := fun_mk (st := s_join) l8 c8 k8
  have F9 := fun_mk (st := sripe) l9 c9 k9
  have F10 := fun_mk (st := slane_reaches) l10 c10 k10
  have F11 := fun_mk (st := s_need_seed) l11 c11 k11
  have F12 := fun_mk (st := sneed_seeds) l12 c12 k12
  have F13 := fun_mk (st := sunlike_under) l13 c13 k13
  have F14 := fun_mk (st := sfits) l14 c14 k14
  have F15 := fun_mk (st := sis_seeded) l15 c15 k15
  have F16 := fun_mk (st := s_tail) l16 c16 k16
  have F17 := fun_mk (st := s_steps_from) l17 c17 k17
  have F18 := fun_mk (st := s_steps) l18 c18 k18
  have F19 := fun_mk (st := s_ring) l19 c19 k19
  have F20 := fun_mk (st := s_best_behind) l20 c20 k20
  have F21 := fun_mk (st := sbar) l21 c21 k21
  have F22 := fun_mk (st := sneed_above) l22 c22 k22
  have F23 := fun_mk (st := sShelf___init__) l23 c23 k23
  have F24 := fun_mk (st := sShelf_lay) l24 c24 k24
  have F25 := fun_mk (st := sShelf_rows) l25 c25 k25
  have F26 := fun_mk (st := s_picked) l26 c26 k26
  have F27 := fun_mk (st := s_windows_of) l27 c27 k27
  have F28 := fun_mk (st := sShelf_windows) l28 c28 k28
  have F29 := fun_mk (st := sShelf__seeded_lanes) l29 c29 k29
  have F30 := fun_mk (st := sShelf_find) l30 c30 k30
  have F31 := fun_mk (st := sbound) l31 c31 k31
  have F32 := fun_mk (st := s_greatest_worths) l32 c32 k32
  have F33 := fun_mk (st := spairs) l33 c33 k33
  have F34 := fun_mk (st := sunlike_places) l34 c34 k34
  have F35 := fun_mk (st := slane) l35 c35 k35
  have F36 := fun_mk (st := s_each_is_under) l36 c36 k36
  have F37 := fun_mk (st := sshows) l37 c37 k37
  have F38 := fun_mk (st := s_law_next) l38 c38 k38
  have F39 := fun_mk (st := s_law_letters) l39 c39 k39
  have F40 := fun_mk (st := s_law_row) l40 c40 k40
  have F41 := fun_mk (st := s_law_near) l41 c41 k41
  have F42 := fun_mk (st := s_law_scale) l42 c42 k42
  have F43 := fun_mk (st := s_law_seed) l43 c43 k43
  have F44 := fun_mk (st := s_law_seeds) l44 c44 k44
  have F45 := fun_mk (st := s_law_rows) l45 c45 k45
  have F46 := fun_mk (st := s_law_shelf) l46 c46 k46
  have F47 := fun_mk (st := s_law_ask) l47 c47 k47
  have F48 := fun_mk (st := s_law_bar) l48 c48 k48
  have F49 := fun_mk (st := slaw) l49 c49 k49
  have b0 := F0.binds (ps := ["letters"]) fun _ _ _ _ _ _ us hl => match us, hl with | [_], _ => rfl
  have b1 := F1.binds (ps := ["row", "letters"]) fun _ _ _ _ _ _ us hl => match us, hl with | [_, _], _ => rfl
  have b2 := F2.binds (ps := ["scale"]) fun _ _ _ _ _ _ us hl => match us, hl with | [_], _ => rfl
  have b3 := F3.binds (ps := ["shift"]) fun _ _ _ _ _ _ us hl => match us, hl with | [_], _ => rfl
  have b4 := F4.binds (ps := ["one", "other", "shift"]) fun _ _ _ _ _ _ us hl => match us, hl with | [_, _, _], _ => rfl
  have b5 := F5.binds (ps := ["likes", "scale"]) fun _ _ _ _ _ _ us hl => match us, hl with | [_, _], _ => rfl
  have b6 := F6.binds (ps := ["likes", "scale"]) fun _ _ _ _ _ _ us hl => match us, hl with | [_, _], _ => rfl
  have b7 := F7.binds (ps := ["parts", "low"]) fun _ _ _ _ _ _ us hl => match us, hl with | [_, _], _ => rfl
  have b8 := F8.binds (ps := ["parts", "place", "low", "high"]) fun _ _ _ _ _ _ us hl => match us, hl with | [_, _, _, _], _ => rfl
  have b9 := F9.binds (ps := ["likes", "scale"]) fun _ _ _ _ _ _ us hl => match us, hl with | [_, _], _ => rfl
  have b10 := F10.binds (ps := ["one", "other", "shift", "scale", "told"]) fun _ _ _ _ _ _ us hl => match us, hl with | [_, _, _, _, _], _ => rfl
  have b11 := F11.binds (ps := ["seed"]) fun _ _ _ _ _ _ us hl => match us, hl with | [_], _ => rfl
  have b12 := F12.binds (ps := ["seeds"]) fun _ _ _ _ _ _ us hl => match us, hl with | [_], _ => rfl
  have b13 := F13.binds (ps := ["seed", "likes", "place"]) fun _ _ _ _ _ _ us hl => match us, hl with | [_, _, _], _ => rfl
  have b14 := F14.binds (ps := ["seed", "likes", "place"]) fun _ _ _ _ _ _ us hl => match us, hl with | [_, _, _], _ => rfl
  have b15 := F15.binds (ps := ["seeds", "likes"]) fun _ _ _ _ _ _ us hl => match us, hl with | [_, _], _ => rfl
  have b16 := F16.binds (ps := ["likes", "keep"]) fun _ _ _ _ _ _ us hl => match us, hl with | [_, _], _ => rfl
  have b17 := F17.binds (ps := ["tail", "seeds"]) fun _ _ _ _ _ _ us hl => match us, hl with | [_, _], _ => rfl
  have b18 := F18.binds (ps := ["seeds"]) fun _ _ _ _ _ _ us hl => match us, hl with | [_], _ => rfl
  have b19 := F19.binds (ps := ["steps", "tail", "likes"]) fun _ _ _ _ _ _ us hl => match us, hl with | [_, _, _], _ => rfl
  have b20 := F20.binds (ps := ["steps", "best", "weights"]) fun _ _ _ _ _ _ us hl => match us, hl with | [_, _, _], _ => rfl
  have b21 := F21.binds (ps := ["seeds", "scale"]) fun _ _ _ _ _ _ us hl => match us, hl with | [_, _], _ => rfl
  have b22 := F22.binds (ps := ["told", "limit"]) fun _ _ _ _ _ _ us hl => match us, hl with | [_, _], _ => rfl
  have b23 := F23.binds (ps := ["self", "letters", "scale", "seeds"]) fun _ _ _ _ _ _ us hl => match us, hl with | [_, _, _, _], _ => rfl
  have b24 := F24.binds (ps := ["self", "row"]) fun _ _ _ _ _ _ us hl => match us, hl with | [_, _], _ => rfl
  have b25 := F25.binds (ps := ["self"]) fun _ _ _ _ _ _ us hl => match us, hl with | [_], _ => rfl
  have b26 := F26.binds (ps := ["seed", "row", "place"]) fun _ _ _ _ _ _ us hl => match us, hl with | [_, _, _], _ => rfl
  have b27 := F27.binds (ps := ["row", "seeds"]) fun _ _ _ _ _ _ us hl => match us, hl with | [_, _], _ => rfl
  have b28 := F28.binds (ps := ["self"]) fun _ _ _ _ _ _ us hl => match us, hl with | [_], _ => rfl
  have b29 := F29.binds (ps := ["self", "row"]) fun _ _ _ _ _ _ us hl => match us, hl with | [_, _], _ => rfl
  have b30 := F30.binds (ps := ["self", "row", "told"]) fun _ _ _ _ _ _ us hl => match us, hl with | [_, _, _], _ => rfl
  have b31 := F31.binds (ps := ["one", "other", "scale"]) fun _ _ _ _ _ _ us hl => match us, hl with | [_, _, _], _ => rfl
  have b32 := F32.binds (ps := ["stretches"]) fun _ _ _ _ _ _ us hl => match us, hl with | [_], _ => rfl
  have b33 := F33.binds (ps := ["shelf", "told"]) fun _ _ _ _ _ _ us hl => match us, hl with | [_, _], _ => rfl
  have b34 := F34.binds (ps := ["seeds", "likes", "first"]) fun _ _ _ _ _ _ us hl => match us, hl with | [_, _, _], _ => rfl
  have b35 := F35.binds (ps := ["one", "other", "shift", "seeds", "scale", "told"]) fun _ _ _ _ _ _ us hl => match us, hl with | [_, _, _, _, _, _], _ => rfl
  have b36 := F36.binds (ps := ["places", "under"]) fun _ _ _ _ _ _ us hl => match us, hl with | [_, _], _ => rfl
  have b37 := F37.binds (ps := ["one", "other", "shift", "seeds", "scale", "told", "paper"]) fun _ _ _ _ _ _ us hl => match us, hl with | [_, _, _, _, _, _, _], _ => rfl
  have b38 := F38.binds (ps := ["_law_h", "_law_many"]) fun _ _ _ _ _ _ us hl => match us, hl with | [_, _], _ => rfl
  have b39 := F39.binds (ps := ["_law_h"]) fun _ _ _ _ _ _ us hl => match us, hl with | [_], _ => rfl
  have b40 := F40.binds (ps := ["_law_h", "_law_letters_here", "_law_most"]) fun _ _ _ _ _ _ us hl => match us, hl with | [_, _, _], _ => rfl
  have b41 := F41.binds (ps := ["_law_h", "_law_row_here", "_law_letters_here"]) fun _ _ _ _ _ _ us hl => match us, hl with | [_, _, _], _ => rfl
  have b42 := F42.binds (ps := ["_law_h"]) fun _ _ _ _ _ _ us hl => match us, hl with | [_], _ => rfl
  have b43 := F43.binds (ps := ["_law_h", "_law_most"]) fun _ _ _ _ _ _ us hl => match us, hl with | [_, _], _ => rfl
  have b44 := F44.binds (ps := ["_law_h", "_law_most"]) fun _ _ _ _ _ _ us hl => match us, hl with | [_, _], _ => rfl
  have b45 := F45.binds (ps := ["_law_h", "_law_letters_here", "_law_most"]) fun _ _ _ _ _ _ us hl => match us, hl with | [_, _, _], _ => rfl
  have b46 := F46.binds (ps := ["_law_letters_here", "_law_scale_here", "_law_seeds_here", "_law_rows_here"]) fun _ _ _ _ _ _ us hl => match us, hl with | [_, _, _, _], _ => rfl
  have b47 := F47.binds (ps := ["_law_way", "_law_shelf_here", "_law_row_here", "_law_told", "_law_seeds_here", "_law_scale_here"]) fun _ _ _ _ _ _ us hl => match us, hl with | [_, _, _, _, _, _], _ => rfl
  have b48 := F48.binds (ps := ["_law_way", "_law_shelf_here", "_law_row_here", "_law_told", "_law_seeds_here", "_law_scale_here"]) fun _ _ _ _ _ _ us hl => match us, hl with | [_, _, _, _, _, _], _ => rfl
  have B : Bl mg := ⟨PySem.W.mg_none_of X G z_len, PySem.W.mg_none_of X G z_max, PySem.W.mg_none_of X G z_min, PySem.W.mg_none_of X G z_range, PySem.W.mg_none_of X G z_enumerate, PySem.W.mg_none_of X G z_any, PySem.W.mg_none_of X G z_list, PySem.W.mg_none_of X G z_sorted, PySem.W.mg_none_of X G z_set, PySem.W.mg_none_of X G z_sum, PySem.W.mg_none_of X G z_all, PySem.W.mg_none_of X G z_zip, PySem.W.mg_none_of X G z_isinstance, PySem.W.mg_none_of X G z_ValueError⟩
  have C : Cs mg _ _ _ _ _ _ _ _ _ _ _ _ _ _ _ _ _ _ _ := ⟨⟨⟨_, rfl⟩, PySem.W.mg_of X G y_FEWEST_LETTERS⟩, ⟨⟨_, rfl⟩, PySem.W.mg_of X G y_MOST_LETTERS⟩, ⟨⟨_, rfl⟩, PySem.W.mg_of X G y_ALPHABET⟩, ⟨⟨_, rfl⟩, PySem.W.mg_of X G y_LONGEST_ROW⟩, ⟨⟨_, rfl⟩, PySem.W.mg_of X G y_LEAST_WEIGHT⟩, ⟨⟨_, rfl⟩, PySem.W.mg_of X G y_MOST_WEIGHT⟩, ⟨⟨_, rfl⟩, PySem.W.mg_of X G y_LIKE⟩, ⟨⟨_, rfl⟩, PySem.W.mg_of X G y_UNLIKE⟩, ⟨⟨_, rfl⟩, PySem.W.mg_of X G y_SHORTEST_SEED⟩, ⟨⟨_, rfl⟩, PySem.W.mg_of X G y_LONGEST_SEED⟩, ⟨⟨_, rfl⟩, PySem.W.mg_of X G y_PICK⟩, ⟨⟨_, rfl⟩, PySem.W.mg_of X G y_GAP⟩, ⟨⟨_, rfl⟩, PySem.W.mg_of X G y_FEWEST_SEEDS⟩, ⟨⟨_, rfl⟩, PySem.W.mg_of X G y_MOST_SEEDS⟩, ⟨⟨_, rfl⟩, PySem.W.mg_of X G y_BAR⟩, ⟨⟨_, rfl⟩, PySem.W.mg_of X G y_ENDLESS⟩, ⟨⟨_, rfl⟩, PySem.W.mg_of X G y_LOW⟩, ⟨⟨_, rfl⟩, PySem.W.mg_of X G y_REACHES⟩, ⟨⟨_, rfl⟩, PySem.W.mg_of X G y_UNSEEDED⟩⟩
  refine ⟨PySem.W.fnOf "law" "law" (defArgs slaw) (defBody slaw) (defScope slaw) .none kV49 dc49 pm49 an49 cd49 ct49, [(cc, PT)], splaw K PT, fun p hp => ?_, fun p hp => ?_, fun p hp => ?_, fun s v => .of_eq rfl, fun H a ns hl _ hT hS => ⟨a, ns, rfl, hS, hl, TabS_nil (hT _ List.mem_cons_self), fun _ => rfl⟩, fun base _ _ hTB => ?_⟩
  · rw [List.mem_singleton.mp hp]
    exact OT _ _ _ _ _ _ _ _ _ (PySem.W.mg_of X G a20) l20 rfl rfl tab1 tab2
  · rw [List.mem_singleton.mp hp]
    exact tab4
  · rw [List.mem_singleton.mp hp]
    exact PySem.W.codeHd_of_K X tab3
  have TB := hTB _ List.mem_cons_self
  have oeTooLow : OexC K aTooLow := ⟨oexB_cls obTooLow, saTooLow, bsTooLow, tpTooLow, kxTooLow⟩
  have ZTTooLow : TlS l.prog (defScope sTooLow___init__) flTooLow := ⟨rfl, rfl, rfl, by decide +kernel, rfl, rfl, rfl, rfl, pfTooLow, ptTooLow⟩
  have WTTooLow : TlF K mg aTooLow giTooLow ceTooLow cdTooLow (defScope sTooLow___init__) flTooLow := ⟨PySem.W.mg_none_of X G spTooLow, thTooLow, ⟨_, _, _, clTooLow⟩, ⟨_, _, _, _, _, coTooLow, cwTooLow⟩, alTooLow, veTooLow, baTooLow, mrTooLow⟩
  have XOTooLow : XoF l.prog w K mg base "TooLow" aTooLow giTooLow _ := ⟨PySem.W.mg_of X G gxTooLow, oeTooLow, icTooLow, tiTooLow, okTL oeTooLow WTTooLow ZTTooLow liTooLow ciTooLow ⟨_, rfl, rfl⟩ rfl (fun L => rfl), .all fun us hl => match us, hl with | [_, _], _ => rfl, ⟨hgTooLow, hkTooLow, bsTooLow, hdTooLow⟩, baTooLow⟩
  have XNBadRow : XcN K mg "BadRow" aBadRow := ⟨PySem.W.mg_of X G gxBadRow⟩
  have XNBadSeed : XcN K mg "BadSeed" aBadSeed := ⟨PySem.W.mg_of X G gxBadSeed⟩
  have XNBadText : XcN K mg "BadText" aBadText := ⟨PySem.W.mg_of X G gxBadText⟩
  have XNNoPlace : XcN K mg "NoPlace" aNoPlace := ⟨PySem.W.mg_of X G gxNoPlace⟩
  have XNNoRow : XcN K mg "NoRow" aNoRow := ⟨PySem.W.mg_of X G gxNoRow⟩
  have XNReachError : XcN K mg "ReachError" aReachError := ⟨PySem.W.mg_of X G gxReachError⟩
  have MM : XM K aBadRow aBadSeed aBadText aNoPlace aNoRow aReachError aTooLow := ⟨hdBadRow, tpBadRow, bsBadRow, hdBadSeed, tpBadSeed, bsBadSeed, hdBadText, tpBadText, bsBadText, hdNoPlace, tpNoPlace, bsNoPlace, hdNoRow, tpNoRow, bsNoRow, hdReachError, tpReachError, bsReachError, hdTooLow, tpTooLow, bsTooLow, ⟨hgTooLow, hkTooLow, bsTooLow, hdTooLow, hcTooLow, xhn, xht, hmTooLow⟩, veTooLow, suTooLow_BadRow, suTooLow_BadSeed, suTooLow_BadText, suTooLow_NoPlace, suTooLow_NoRow, suTooLow_ReachError, suTooLow_TooLow⟩
  have TShelf : KlShelf K mg cShelf g23 := ⟨⟨pgShelf, hdShelf, poShelf, saShelf⟩, PySem.W.mg_of X G aCShelf, ⟨mkShelf, a23, i23, kcShelf⟩, nShelf_letters, nShelf_scale, nShelf_seeds, nShelf_limit, nShelf_laid⟩
  have Dneed_letters : Dn l.prog w K mg base "need_letters" 1 ["letters"] (spneed_letters K) g0 _ := ⟨okneed_letters F0 B C, PySem.W.mg_of X G a0, F0.kp, b0⟩
  have Dneed_row : Dn l.prog w K mg base "need_row" 1 ["row", "letters"] (spneed_row K) g1 _ := ⟨okneed_row F1 B C, PySem.W.mg_of X G a1, F1.kp, b1⟩
  have Dneed_scale : Dn l.prog w K mg base "need_scale" 1 ["scale"] (spneed_scale K) g2 _ := ⟨okneed_scale F2 B C, PySem.W.mg_of X G a2, F2.kp, b2⟩
  have Dlane_begin : Dn l.prog w K mg base "lane_begin" 1 ["shift"] (splane_begin K) g3 _ := ⟨oklane_begin F3 B, PySem.W.mg_of X G a3, F3.kp, b3⟩
  have Dlikes_of : Dn l.prog w K mg base "likes_of" 2 ["one", "other", "shift"] (splikes_of K) g4 _ := ⟨oklikes_of F4 B C Dlane_begin, PySem.W.mg_of X G a4, F4.kp, b4⟩
  have Dworth_of : Dn l.prog w K mg base "worth_of" 1 ["likes", "scale"] (spworth_of K) g5 _ := ⟨okworth_of F5 B C, PySem.W.mg_of X G a5, F5.kp, b5⟩
  have Dgreatest_worth : Dn l.prog w K mg base "greatest_worth" 2 ["likes", "scale"] (spgreatest_worth K) g6 _ := ⟨okgreatest_worth F6 B Dworth_of, PySem.W.mg_of X G a6, F6.kp, b6⟩
  have D_last_below : Dn l.prog w K mg base "_last_below" 1 ["parts", "low"] (sp_last_below K) g7 _ := ⟨ok_last_below F7 B, PySem.W.mg_of X G a7, F7.kp, b7⟩
  have D_join : Dn l.prog w K mg base "_join" 2 ["parts", "place", "low", "high"] (sp_join K) g8 _ := ⟨ok_join F8 B D_last_below, PySem.W.mg_of X G a8, F8.kp, b8⟩
  have Dripe : Dn l.prog w K mg base "ripe" 3 ["likes", "scale"] (spripe K) g9 _ := ⟨okripe F9 B C D_join, PySem.W.mg_of X G a9, F9.kp, b9⟩
  have Dlane_reaches : Dn l.prog w K mg base "lane_reaches" 4 ["one", "other", "shift", "scale", "told"] (splane_reaches K) g10 _ := ⟨oklane_reaches F10 B Dlikes_of Dlane_begin Dripe Dworth_of, PySem.W.mg_of X G a10, F10.kp, b10⟩
  have D_need_seed : Dn l.prog w K mg base "_need_seed" 1 ["seed"] (sp_need_seed K) g11 _ := ⟨ok_need_seed F11 B C, PySem.W.mg_of X G a11, F11.kp, b11⟩
  have Dneed_seeds : Dn l.prog w K mg base "need_seeds" 2 ["seeds"] (spneed_seeds K) g12 _ := ⟨okneed_seeds F12 B C D_need_seed, PySem.W.mg_of X G a12, F12.kp, b12⟩
  have Dunlike_under : Dn l.prog w K mg base "unlike_under" 1 ["seed", "likes", "place"] (spunlike_under K) g13 _ := ⟨okunlike_under F13 B C, PySem.W.mg_of X G a13, F13.kp, b13⟩
  have Dfits : Dn l.prog w K mg base "fits" 2 ["seed", "likes", "place"] (spfits K) g14 _ := ⟨okfits F14 B Dunlike_under, PySem.W.mg_of X G a14, F14.kp, b14⟩
  have Dis_seeded : Dn l.prog w K mg base "is_seeded" 3 ["seeds", "likes"] (spis_seeded K) g15 _ := ⟨okis_seeded F15 B Dfits, PySem.W.mg_of X G a15, F15.kp, b15⟩
  have D_tail : Dn l.prog w K mg base "_tail" 1 ["likes", "keep"] (sp_tail K) g16 _ := ⟨ok_tail F16 B C, PySem.W.mg_of X G a16, F16.kp, b16⟩
  have D_steps_from : Dn l.prog w K mg base "_steps_from" 3 ["tail", "seeds"] (sp_steps_from K) g17 _ := ⟨ok_steps_from F17 B C D_tail Dfits, PySem.W.mg_of X G a17, F17.kp, b17⟩
  have D_steps : Dn l.prog w K mg base "_steps" 4 ["seeds"] (sp_steps K) g18 _ := ⟨ok_steps F18 B D_steps_from, PySem.W.mg_of X G a18, F18.kp, b18⟩
  have D_ring : Dn l.prog w K mg base "_ring" 1 ["steps", "tail", "likes"] (sp_ring K) g19 _ := ⟨ok_ring F19 B, PySem.W.mg_of X G a19, F19.kp, b19⟩
  have D_best_behind : Dn l.prog w K mg base "_best_behind" 3 ["steps", "best", "weights"] (sp_best_behind K PT) g20 _ := ⟨ok_best_behind l20 c20 TB B, PySem.W.mg_of X G a20, F20.kp, b20⟩
  have Dbar : Dn l.prog w K mg base "bar" 5 ["seeds", "scale"] (spbar K PT) g21 _ := ⟨okbar F21 B C D_steps Dworth_of D_ring D_best_behind, PySem.W.mg_of X G a21, F21.kp, b21⟩
  have Dneed_above : DnX l.prog w K mg base "need_above" 3 ["told", "limit"] (spneed_above K aTooLow) g22 _ := ⟨okneed_above F22 B XOTooLow C, PySem.W.mg_of X G a22, F22.kp, b22⟩
  have DShelf___init__ : Dm l.prog w K mg base cShelf "__init__" 6 ["self", "letters", "scale", "seeds"] (spShelf___init__ K PT cShelf) g23 _ := ⟨okShelf___init__ F23 B TShelf Dneed_letters Dneed_scale Dneed_seeds Dbar, ⟨a23, i23, k23⟩, b23⟩
  have DShelf_lay : Dm l.prog w K mg base cShelf "lay" 2 ["self", "row"] (spShelf_lay K cShelf) g24 _ := ⟨okShelf_lay F24 B TShelf Dneed_row, ⟨a24, i24, k24⟩, b24⟩
  have DShelf_rows : Dm l.prog w K mg base cShelf "rows" 1 ["self"] (spShelf_rows K cShelf) g25 _ := ⟨okShelf_rows F25 B TShelf, ⟨a25, i25, k25⟩, b25⟩
  have D_picked : Dn l.prog w K mg base "_picked" 1 ["seed", "row", "place"] (sp_picked K) g26 _ := ⟨ok_picked F26 B C, PySem.W.mg_of X G a26, F26.kp, b26⟩
  have D_windows_of : Dn l.prog w K mg base "_windows_of" 2 ["row", "seeds"] (sp_windows_of K) g27 _ := ⟨ok_windows_of F27 B D_picked, PySem.W.mg_of X G a27, F27.kp, b27⟩
  have DShelf_windows : Dm l.prog w K mg base cShelf "windows" 3 ["self"] (spShelf_windows K cShelf) g28 _ := ⟨okShelf_windows F28 B TShelf D_windows_of, ⟨a28, i28, k28⟩, b28⟩
  have DShelf__seeded_lanes : Dm l.prog w K mg base cShelf "_seeded_lanes" 4 ["self", "row"] (spShelf__seeded_lanes K cShelf) g29 _ := ⟨okShelf__seeded_lanes F29 B TShelf D_windows_of DShelf_windows, ⟨a29, i29, k29⟩, b29⟩
  have DShelf_find : DmX l.prog w K mg base cShelf "find" 5 ["self", "row", "told"] (spShelf_find K aTooLow cShelf) g30 _ := ⟨okShelf_find F30 B TShelf Dneed_row Dneed_above Dlane_reaches DShelf__seeded_lanes, ⟨a30, i30, k30⟩, b30⟩
  have Dbound : Dn l.prog w K mg base "bound" 1 ["one", "other", "scale"] (spbound K) g31 _ := ⟨okbound F31 B, PySem.W.mg_of X G a31, F31.kp, b31⟩
  have D_greatest_worths : Dn l.prog w K mg base "_greatest_worths" 1 ["stretches"] (sp_greatest_worths K) g32 _ := ⟨ok_greatest_worths F32 B, PySem.W.mg_of X G a32, F32.kp, b32⟩
  have Dpairs : DnX l.prog w K mg base "pairs" 6 ["shelf", "told"] (sppairs K aTooLow cShelf) g33 _ := ⟨okpairs F33 B TShelf Dneed_above D_greatest_worths Dbound DShelf_rows DShelf_find, PySem.W.mg_of X G a33, F33.kp, b33⟩
  have Dunlike_places : Dn l.prog w K mg base "unlike_places" 2 ["seeds", "likes", "first"] (spunlike_places K) g34 _ := ⟨okunlike_places F34 B Dunlike_under, PySem.W.mg_of X G a34, F34.kp, b34⟩
  have Dlane : DnX l.prog w K mg base "lane" 6 ["one", "other", "shift", "seeds", "scale", "told"] (splane K PT aTooLow) g35 _ := ⟨oklane F35 B C Dneed_seeds Dneed_above Dlikes_of Dbar Dis_seeded Dgreatest_worth Dlane_reaches Dunlike_places Dlane_begin, PySem.W.mg_of X G a35, F35.kp, b35⟩
  have D_each_is_under : Dn l.prog w K mg base "_each_is_under" 1 ["places", "under"] (sp_each_is_under K) g36 _ := ⟨ok_each_is_under F36 B, PySem.W.mg_of X G a36, F36.kp, b36⟩
  have Dshows : DnX l.prog w K mg base "shows" 7 ["one", "other", "shift", "seeds", "scale", "told", "paper"] (spshows K PT aTooLow) g37 _ := ⟨okshows F37 B C Dlane D_each_is_under Dunlike_places Dlikes_of Dlane_begin, PySem.W.mg_of X G a37, F37.kp, b37⟩
  have D_law_next : Dn l.prog w K mg base "_law_next" 1 ["_law_h", "_law_many"] (sp_law_next K) g38 _ := ⟨ok_law_next F38 B, PySem.W.mg_of X G a38, F38.kp, b38⟩
  have D_law_letters : Dn l.prog w K mg base "_law_letters" 2 ["_law_h"] (sp_law_letters K) g39 _ := ⟨ok_law_letters F39 B D_law_next, PySem.W.mg_of X G a39, F39.kp, b39⟩
  have D_law_row : Dn l.prog w K mg base "_law_row" 2 ["_law_h", "_law_letters_here", "_law_most"] (sp_law_row K) g40 _ := ⟨ok_law_row F40 B D_law_next, PySem.W.mg_of X G a40, F40.kp, b40⟩
  have D_law_near : Dn l.prog w K mg base "_law_near" 3 ["_law_h", "_law_row_here", "_law_letters_here"] (sp_law_near K) g41 _ := ⟨ok_law_near F41 B D_law_row D_law_next, PySem.W.mg_of X G a41, F41.kp, b41⟩
  have D_law_scale : Dn l.prog w K mg base "_law_scale" 2 ["_law_h"] (sp_law_scale K) g42 _ := ⟨ok_law_scale F42 B D_law_next, PySem.W.mg_of X G a42, F42.kp, b42⟩
  have D_law_seed : Dn l.prog w K mg base "_law_seed" 2 ["_law_h", "_law_most"] (sp_law_seed K) g43 _ := ⟨ok_law_seed F43 B D_law_next, PySem.W.mg_of X G a43, F43.kp, b43⟩
  have D_law_seeds : Dn l.prog w K mg base "_law_seeds" 3 ["_law_h", "_law_most"] (sp_law_seeds K) g44 _ := ⟨ok_law_seeds F44 B D_law_seed D_law_next, PySem.W.mg_of X G a44, F44.kp, b44⟩
  have D_law_rows : Dn l.prog w K mg base "_law_rows" 4 ["_law_h", "_law_letters_here", "_law_most"] (sp_law_rows K) g45 _ := ⟨ok_law_rows F45 B D_law_next D_law_near D_law_row, PySem.W.mg_of X G a45, F45.kp, b45⟩
  have D_law_shelf : Dn l.prog w K mg base "_law_shelf" 8 ["_law_letters_here", "_law_scale_here", "_law_seeds_here", "_law_rows_here"] (sp_law_shelf K PT cShelf) g46 _ := ⟨ok_law_shelf F46 B TShelf DShelf___init__ DShelf_lay, PySem.W.mg_of X G a46, F46.kp, b46⟩
  have D_law_ask : DnX l.prog w K mg base "_law_ask" 8 ["_law_way", "_law_shelf_here", "_law_row_here", "_law_told", "_law_seeds_here", "_law_scale_here"] (sp_law_ask K PT aTooLow cShelf) g47 _ := ⟨ok_law_ask F47 B TShelf Dpairs Dlane Dshows DShelf_find, PySem.W.mg_of X G a47, F47.kp, b47⟩
  have D_law_bar : Dn l.prog w K mg base "_law_bar" 9 ["_law_way", "_law_shelf_here", "_law_row_here", "_law_told", "_law_seeds_here", "_law_scale_here"] (sp_law_bar K PT cShelf) g48 _ := ⟨ok_law_bar F48 B XNBadRow XNBadSeed XNBadText XNNoPlace XNNoRow XNReachError XOTooLow MM TShelf D_law_ask, PySem.W.mg_of X G a48, F48.kp, b48⟩
  exact oklaw F49 B TShelf D_law_letters D_law_seeds D_law_scale Dbar D_law_rows D_law_row D_law_shelf D_law_next D_law_bar
end Sr
open PySem PySem.W PyProof.Rows
set_option maxHeartbeats 0 in
theorem PySem.Challenge.cw_seedreach_k14_too_low_holds : PySem.Challenge.rw_seedreach_k14_too_low.Holds := by
  w_on; o_law; k_head; (case hw => w_witness2)
  k_fill
  refine L2.walk_ofTab (l := PySem.Challenge.rw_seedreach_k14_too_low) (n := 63) (k := 10) (x := "_law_script") (y := "_best_behind") (CX := fun _ => L2.CX0) rfl (by decide) rfl ⟨rfl, by decide, by decide⟩ (by decide +kernel) (fun w h Y => PySem.W.km_in_of Y) ?F (fun _ _ _ _ _ h => h)
  case F =>
    intro w mg fa h Y KX G hmg OT
    refine' Sr.all_mk KX G OT hmg ?aCShelf ?pgShelf ?hdShelf ?poShelf ?saShelf ?mkShelf ?kcShelf ?nShelf_letters ?nShelf_scale ?nShelf_seeds ?nShelf_limit ?nShelf_laid ?gxBadRow ?hdBadRow ?tpBadRow ?bsBadRow ?gxBadSeed ?hdBadSeed ?tpBadSeed ?bsBadSeed ?gxBadText ?hdBadText ?tpBadText ?bsBadText ?gxNoPlace ?hdNoPlace ?tpNoPlace ?bsNoPlace ?gxNoRow ?hdNoRow ?tpNoRow ?bsNoRow ?gxReachError ?hdReachError ?tpReachError ?bsReachError ?gxTooLow ?hdTooLow ?tpTooLow ?bsTooLow ?obTooLow ?kxTooLow ?saTooLow ?icTooLow ?tiTooLow ?liTooLow ?ciTooLow ?clTooLow ?coTooLow ?cwTooLow ?alTooLow ?baTooLow ?mrTooLow ?thTooLow ?spTooLow ?pfTooLow ?ptTooLow ?hgTooLow ?hkTooLow ?hcTooLow ?hmTooLow ?veTooLow ?suTooLow_BadRow ?suTooLow_BadSeed ?suTooLow_BadText ?suTooLow_NoPlace ?suTooLow_NoRow ?suTooLow_ReachError ?suTooLow_TooLow ?xhn ?xht ?a0 ?l0 ?c0 ?k0 ?a1 ?l1 ?c1 ?k1 ?a2 ?l2 ?c2 ?k2 ?a3 ?l3 ?c3 ?k3 ?a4 ?l4 ?c4 ?k4 ?a5 ?l5 ?c5 ?k5 ?a6 ?l6 ?c6 ?k6 ?a7 ?l7 ?c7 ?k7 ?a8 ?l8 ?c8 ?k8 ?a9 ?l9 ?c9 ?k9 ?a10 ?l10 ?c10 ?k10 ?a11 ?l11 ?c11 ?k11 ?a12 ?l12 ?c12 ?k12 ?a13 ?l13 ?c13 ?k13 ?a14 ?l14 ?c14 ?k14 ?a15 ?l15 ?c15 ?k15 ?a16 ?l16 ?c16 ?k16 ?a17 ?l17 ?c17 ?k17 ?a18 ?l18 ?c18 ?k18 ?a19 ?l19 ?c19 ?k19 ?a20 ?l20 ?c20 ?k20 ?tab1 ?tab2 ?tab3 ?tab4 ?a21 ?l21 ?c21 ?k21 ?a22 ?l22 ?c22 ?k22 ?a23 ?i23 ?l23 ?c23 ?k23 ?a24 ?i24 ?l24 ?c24 ?k24 ?a25 ?i25 ?l25 ?c25 ?k25 ?a26 ?l26 ?c26 ?k26 ?a27 ?l27 ?c27 ?k27 ?a28 ?i28 ?l28 ?c28 ?k28 ?a29 ?i29 ?l29 ?c29 ?k29 ?a30 ?i30 ?l30 ?c30 ?k30 ?a31 ?l31 ?c31 ?k31 ?a32 ?l32 ?c32 ?k32 ?a33 ?l33 ?c33 ?k33 ?a34 ?l34 ?c34 ?k34 ?a35 ?l35 ?c35 ?k35 ?a36 ?l36 ?c36 ?k36 ?a37 ?l37 ?c37 ?k37 ?a38 ?l38 ?c38 ?k38 ?a39 ?l39 ?c39 ?k39 ?a40 ?l40 ?c40 ?k40 ?a41 ?l41 ?c41 ?k41 ?a42 ?l42 ?c42 ?k42 ?a43 ?l43 ?c43 ?k43 ?a44 ?l44 ?c44 ?k44 ?a45 ?l45 ?c45 ?k45 ?a46 ?l46 ?c46 ?k46 ?a47 ?l47 ?c47 ?k47 ?a48 ?l48 ?c48 ?k48 ?a49 ?l49 ?c49 ?k49 ?z_len ?z_max ?z_min ?z_range ?z_enumerate ?z_any ?z_list ?z_sorted ?z_set ?z_sum ?z_all ?z_zip ?z_isinstance ?z_ValueError ?y_FEWEST_LETTERS ?y_MOST_LETTERS ?y_ALPHABET ?y_LONGEST_ROW ?y_LEAST_WEIGHT ?y_MOST_WEIGHT ?y_LIKE ?y_UNLIKE ?y_SHORTEST_SEED ?y_LONGEST_SEED ?y_PICK ?y_GAP ?y_FEWEST_SEEDS ?y_MOST_SEEDS ?y_BAR ?y_ENDLESS ?y_LOW ?y_REACHES ?y_UNSEEDED
    (case aCShelf => k_is)
    (case pgShelf => k_is)
    (case hdShelf => k_is)
    (case poShelf => k_is)
    (case saShelf => k_is)
    (case mkShelf => k_is)
    (case kcShelf => k_is)
    (case nShelf_letters => k_is)
    (case nShelf_scale => k_is)
    (case nShelf_seeds => k_is)
    (case nShelf_limit => k_is)
    (case nShelf_laid => k_is)
    (case gxBadRow => k_is)
    (case hdBadRow => k_is)
    (case tpBadRow => k_is)
    (case bsBadRow => k_is)
    (case gxBadSeed => k_is)
    (case hdBadSeed => k_is)
    (case tpBadSeed => k_is)
    (case bsBadSeed => k_is)
    (case gxBadText => k_is)
    (case hdBadText => k_is)
    (case tpBadText => k_is)
    (case bsBadText => k_is)
    (case gxNoPlace => k_is)
    (case hdNoPlace => k_is)
    (case tpNoPlace => k_is)
    (case bsNoPlace => k_is)
    (case gxNoRow => k_is)
    (case hdNoRow => k_is)
    (case tpNoRow => k_is)
    (case bsNoRow => k_is)
    (case gxReachError => k_is)
    (case hdReachError => k_is)
    (case tpReachError => k_is)
    (case bsReachError => k_is)
    (case gxTooLow => k_is)
    (case hdTooLow => k_is)
    (case tpTooLow => k_is)
    (case bsTooLow => k_is)
    (case obTooLow => first | rfl | k_exc | k_is | decide +kernel)
    (case kxTooLow => k_is)
    (case saTooLow => k_is)
    (case icTooLow => k_is)
    (case tiTooLow => k_is)
    (case liTooLow => k_is)
    (case ciTooLow => k_is)
    (case clTooLow => k_is)
    (case coTooLow => k_is)
    (case cwTooLow => rfl)
    (case alTooLow => rfl)
    (case baTooLow => k_is)
    (case mrTooLow => k_is)
    (case thTooLow => k_is)
    (case spTooLow => k_is)
    (case pfTooLow => first | rfl | k_exc | k_is | decide +kernel)
    (case ptTooLow => first | rfl | k_exc | k_is | decide +kernel)
    (case hgTooLow => k_is)
    (case hkTooLow => k_is)
    (case hcTooLow => k_is)
    (case hmTooLow => k_is)
    (case veTooLow => k_is)
    (case suTooLow_BadRow => k_is)
    (case suTooLow_BadSeed => k_is)
    (case suTooLow_BadText => k_is)
    (case suTooLow_NoPlace => k_is)
    (case suTooLow_NoRow => k_is)
    (case suTooLow_ReachError => k_is)
    (case suTooLow_TooLow => k_is)
    (case xhn => k_is)
    (case xht => k_is)
    (case a0 => k_is)
    (case l0 => k_is)
    (case c0 => k_is)
    (case k0 => k_is)
    (case a1 => k_is)
    (case l1 => k_is)
    (case c1 => k_is)
    (case k1 => k_is)
    (case a2 => k_is)
    (case l2 => k_is)
    (case c2 => k_is)
    (case k2 => k_is)
    (case a3 => k_is)
    (case l3 => k_is)
    (case c3 => k_is)
    (case k3 => k_is)
    (case a4 => k_is)
    (case l4 => k_is)
    (case c4 => k_is)
    (case k4 => k_is)
    (case a5 => k_is)
    (case l5 => k_is)
    (case c5 => k_is)
    (case k5 => k_is)
    (case a6 => k_is)
    (case l6 => k_is)
    (case c6 => k_is)
    (case k6 => k_is)
    (case a7 => k_is)
    (case l7 => k_is)
    (case c7 => k_is)
    (case k7 => k_is)
    (case a8 => k_is)
    (case l8 => k_is)
    (case c8 => k_is)
    (case k8 => k_is)
    (case a9 => k_is)
    (case l9 => k_is)
    (case c9 => k_is)
    (case k9 => k_is)
    (case a10 => k_is)
    (case l10 => k_is)
    (case c10 => k_is)
    (case k10 => k_is)
    (case a11 => k_is)
    (case l11 => k_is)
    (case c11 => k_is)
    (case k11 => k_is)
    (case a12 => k_is)
    (case l12 => k_is)
    (case c12 => k_is)
    (case k12 => k_is)
    (case a13 => k_is)
    (case l13 => k_is)
    (case c13 => k_is)
    (case k13 => k_is)
    (case a14 => k_is)
    (case l14 => k_is)
    (case c14 => k_is)
    (case k14 => k_is)
    (case a15 => k_is)
    (case l15 => k_is)
    (case c15 => k_is)
    (case k15 => k_is)
    (case a16 => k_is)
    (case l16 => k_is)
    (case c16 => k_is)
    (case k16 => k_is)
    (case a17 => k_is)
    (case l17 => k_is)
    (case c17 => k_is)
    (case k17 => k_is)
    (case a18 => k_is)
    (case l18 => k_is)
    (case c18 => k_is)
    (case k18 => k_is)
    (case a19 => k_is)
    (case l19 => k_is)
    (case c19 => k_is)
    (case k19 => k_is)
    (case a20 => k_is)
    (case l20 => k_is)
    (case c20 => k_is)
    (case k20 => k_is)
    (case tab1 => k_is)
    (case tab2 => rfl)
    (case tab3 => rfl)
    (case tab4 => rfl)
    (case a21 => k_is)
    (case l21 => k_is)
    (case c21 => k_is)
    (case k21 => k_is)
    (case a22 => k_is)
    (case l22 => k_is)
    (case c22 => k_is)
    (case k22 => k_is)
    (case a23 => k_is)
    (case i23 => k_is)
    (case l23 => k_is)
    (case c23 => k_is)
    (case k23 => k_is)
    (case a24 => k_is)
    (case i24 => k_is)
    (case l24 => k_is)
    (case c24 => k_is)
    (case k24 => k_is)
    (case a25 => k_is)
    (case i25 => k_is)
    (case l25 => k_is)
    (case c25 => k_is)
    (case k25 => k_is)
    (case a26 => k_is)
    (case l26 => k_is)
    (case c26 => k_is)
    (case k26 => k_is)
    (case a27 => k_is)
    (case l27 => k_is)
    (case c27 => k_is)
    (case k27 => k_is)
    (case a28 => k_is)
    (case i28 => k_is)
    (case l28 => k_is)
    (case c28 => k_is)
    (case k28 => k_is)
    (case a29 => k_is)
    (case i29 => k_is)
    (case l29 => k_is)
    (case c29 => k_is)
    (case k29 => k_is)
    (case a30 => k_is)
    (case i30 => k_is)
    (case l30 => k_is)
    (case c30 => k_is)
    (case k30 => k_is)
    (case a31 => k_is)
    (case l31 => k_is)
    (case c31 => k_is)
    (case k31 => k_is)
    (case a32 => k_is)
    (case l32 => k_is)
    (case c32 => k_is)
    (case k32 => k_is)
    (case a33 => k_is)
    (case l33 => k_is)
    (case c33 => k_is)
    (case k33 => k_is)
    (case a34 => k_is)
    (case l34 => k_is)
    (case c34 => k_is)
    (case k34 => k_is)
    (case a35 => k_is)
    (case l35 => k_is)
    (case c35 => k_is)
    (case k35 => k_is)
    (case a36 => k_is)
    (case l36 => k_is)
    (case c36 => k_is)
    (case k36 => k_is)
    (case a37 => k_is)
    (case l37 => k_is)
    (case c37 => k_is)
    (case k37 => k_is)
    (case a38 => k_is)
    (case l38 => k_is)
    (case c38 => k_is)
    (case k38 => k_is)
    (case a39 => k_is)
    (case l39 => k_is)
    (case c39 => k_is)
    (case k39 => k_is)
    (case a40 => k_is)
    (case l40 => k_is)
    (case c40 => k_is)
    (case k40 => k_is)
    (case a41 => k_is)
    (case l41 => k_is)
    (case c41 => k_is)
    (case k41 => k_is)
    (case a42 => k_is)
    (case l42 => k_is)
    (case c42 => k_is)
    (case k42 => k_is)
    (case a43 => k_is)
    (case l43 => k_is)
    (case c43 => k_is)
    (case k43 => k_is)
    (case a44 => k_is)
    (case l44 => k_is)
    (case c44 => k_is)
    (case k44 => k_is)
    (case a45 => k_is)
    (case l45 => k_is)
    (case c45 => k_is)
    (case k45 => k_is)
    (case a46 => k_is)
    (case l46 => k_is)
    (case c46 => k_is)
    (case k46 => k_is)
    (case a47 => k_is)
    (case l47 => k_is)
    (case c47 => k_is)
    (case k47 => k_is)
    (case a48 => k_is)
    (case l48 => k_is)
    (case c48 => k_is)
    (case k48 => k_is)
    (case a49 => k_is)
    (case l49 => k_is)
    (case c49 => k_is)
    (case k49 => k_is)
    (case z_len => k_is)
    (case z_max => k_is)
    (case z_min => k_is)
    (case z_range => k_is)
    (case z_enumerate => k_is)
    (case z_any => k_is)
    (case z_list => k_is)
    (case z_sorted => k_is)
    (case z_set => k_is)
    (case z_sum => k_is)
    (case z_all => k_is)
    (case z_zip => k_is)
    (case z_isinstance => k_is)
    (case z_ValueError => k_is)
    (case y_FEWEST_LETTERS => k_is)
    (case y_MOST_LETTERS => k_is)
    (case y_ALPHABET => k_is)
    (case y_LONGEST_ROW => k_is)
    (case y_LEAST_WEIGHT => k_is)
    (case y_MOST_WEIGHT => k_is)
    (case y_LIKE => k_is)
    (case y_UNLIKE => k_is)
    (case y_SHORTEST_SEED => k_is)
    (case y_LONGEST_SEED => k_is)
    (case y_PICK => k_is)
    (case y_GAP => k_is)
    (case y_FEWEST_SEEDS => k_is)
    (case y_MOST_SEEDS => k_is)
    (case y_BAR => k_is)
    (case y_ENDLESS => k_is)
    (case y_LOW => k_is)
    (case y_REACHES => k_is)
    (case y_UNSEEDED => k_is)
