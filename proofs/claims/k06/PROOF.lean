import PyProof.Rows.All
import Wide.All
import OpenK.AllK
import Wide.FinOn
import HandS.ForMost
import HandS.IsInst
import HandS.Walk
import KE.SortData
import HandS.Style
import HandS.Flow
import HandS.Exc
import HandS.ExcOwn
import HandS.WordsExc
import HandS.ExcIs
import HandS.TryOnly
import HandS.SetFor
import KE.KExcIs
import HandS.Lambda
import HandS.SortKw
import HandS.DictComp
import HandS.StrMore
import HandS.EndTab
import HandS.ListItems
import KE.DataMinKey
import PySem.Challenge.RW_seedreach_k06_what_is_refused
set_option Elab.async false
set_option linter.all false
set_option maxRecDepth 100000
set_option maxHeartbeats 4000000
namespace L2
open PySem PySem.Spec PyProof.Rows
/-! ### readings, one step a lemma -/
section
variable {σ : St} {H : Hp} {Q : VK} {i j : Int} {n : Nat} {v : V} {ta tb tc te : TE} {K : PySem.W.Frag} {a p : Addr} {xs ys : List V} {z z' : Str}
theorem x_var (h : σ[n]? = some (some v)) (q : Q v H) : tVar n σ H Q := ⟨v, h, q⟩
theorem x_c (q : Q v H) : tC v σ H Q := q
theorem x_op {r : R2} (q : ta σ H fun x H1 => tb σ H1 fun y H2 => r x y H2 Q) : tOp r ta tb σ H Q := q
theorem x_un {r : V → Hp → VK → Prop} (q : ta σ H fun x H1 => r x H1 Q) : tUn r ta σ H Q := q
theorem x_rI {C : Int → Int → Prop} {g : Int → Int → V} (h : C i j) (q : Q (g i j) H) : rI C g (.int i) (.int j) H Q := ⟨i, j, rfl, rfl, h, q⟩
theorem x_rI0 {g : Int → Int → V} (q : Q (g i j) H) : rI0 g (.int i) (.int j) H Q := ⟨i, j, rfl, rfl, q⟩
theorem x_rU {g : Int → V} (q : Q (g i) H) : rU g (.int i) H Q := ⟨i, rfl, q⟩
theorem x_rEq {x y : V} (h : scal x y = true) (q : Q (.bl (decide (x = y))) H) : rEq x y H Q := ⟨h, q⟩
theorem x_rNe {x y : V} (h : scal x y = true) (q : Q (.bl (!decide (x = y))) H) : rNe x y H Q := ⟨h, q⟩
theorem x_test {t : TE} {R : Bool → Hp → Prop} (q : t σ H fun x H' => ∃ k, x = .bl k ∧ R k H') : tTest t σ H R := q
theorem x_b {t : TE} {R : Bool → Hp → Prop} (q : t σ H fun x H' => ∃ k, x = .bl k ∧ R k H') : tB t σ H R := q
theorem x_bl {b : Bool} {R : Bool → Prop} (q : R b) : ∃ k, V.bl b = V.bl k ∧ R k := ⟨b, rfl, q⟩
theorem x_ifE {t : TT} (q : t σ H fun c H1 => if c = true then ta σ H1 Q else tb σ H1 Q) : tIf t ta tb σ H Q := q
theorem x_ifS {t : TT} {u1 u2 : TS} {D : Ends} (q : t σ H fun c H1 => if c = true then u1 D σ H1 else u2 D σ H1) : tIfS t u1 u2 D σ H := q
theorem x_and {t u : TT} {R : Bool → Hp → Prop} (q : t σ H fun c H1 => if c = true then u σ H1 R else R false H1) : tAnd t u σ H R := q
theorem x_or {t u : TT} {R : Bool → Hp → Prop} (q : t σ H fun c H1 => if c = true then R true H1 else u σ H1 R) : tOr t u σ H R := q
theorem x_not {t : TT} {R : Bool → Hp → Prop} (q : t σ H fun c H1 => R (!c) H1) : tNot t σ H R := q
theorem x_notV (q : ta σ H fun x H1 => ∃ c, x = .bl c ∧ Q (.bl (!c)) H1) : tNotV ta σ H Q := q
theorem x_andV (q : ta σ H fun x H1 => ∃ c, x = .bl c ∧ if c = true then tb σ H1 Q else Q (.bl false) H1) : tAndV ta tb σ H Q := q
theorem x_orV (q : ta σ H fun x H1 => ∃ c, x = .bl c ∧ if c = true then Q (.bl true) H1 else tb σ H1 Q) : tOrV ta tb σ H Q := q
theorem x_cons {tr : TA} {R : List V → Hp → Prop} (q : ta σ H fun x H1 => tr σ H1 fun xs H2 => R (x :: xs) H2) : tCons ta tr σ H R := q
theorem x_nil {R : List V → Hp → Prop} (q : R [] H) : tNil σ H R := q
theorem x_tup {t : TA} (q : t σ H fun xs H1 => xs.length ≤ sizeLine ∧ ∀ p, H1 p = none → Q (.ref p) (upd H1 p (.tup xs))) : tTup t σ H Q := q
theorem x_lst {t : TA} (q : t σ H fun xs H1 => xs.length ≤ sizeLine ∧ ∀ p, H1 p = none → Q (.ref p) (upd H1 p (.lst xs))) : tLst t σ H Q := q
theorem x_cb {r : List V → Hp → VK → Prop} {t : TA} (q : t σ H fun vs H1 => r vs H1 Q) : tCB r t σ H Q := q
theorem x_call {sp : Sp} {dvs : List V} {E : XK} {t : TA} (q : t σ H fun vs H1 => sp (vs ++ dvs) H1 Q E) : tCall sp dvs E t σ H Q := q
theorem x_ixL (h : SqL K H p xs) (e : atI xs i = some v) (q : Q v H) : rIxL K (.ref p) (.int i) H Q := ⟨p, xs, i, v, rfl, rfl, h, e, q⟩
theorem x_ixT (h : SqT K H p xs) (e : atI xs i = some v) (q : Q v H) : rIxT K (.ref p) (.int i) H Q := ⟨p, xs, i, v, rfl, rfl, h, e, q⟩
theorem x_ixS {c : Nat} (h : z.length ≤ sizeLine) (e : atI z.cps.toList i = some c) (q : Q (.str ⟨#[c]⟩) H) : rIxS (.str z) (.int i) H Q := ⟨z, i, c, rfl, rfl, h, e, q⟩
theorem x_lenL {R : List V → Prop} (h : SqL K H p ys ∨ SqT K H p ys) (q : R ys) : ∃ (p' : Addr) (ys : List V), [V.ref p] = [V.ref p'] ∧ (SqL K H p' ys ∨ SqT K H p' ys) ∧ R ys := ⟨p, ys, rfl, h, q⟩
theorem x_lenS {R : Str → Prop} (h : z.length ≤ sizeLine) (q : R z) : ∃ z', [V.str z] = [V.str z'] ∧ z'.length ≤ sizeLine ∧ R z' := ⟨z, rfl, h, q⟩
theorem x_two {R : Int → Int → Prop} (q : R i j) : ∃ i' j', [V.int i, V.int j] = [V.int i', V.int j'] ∧ R i' j' := ⟨i, j, rfl, q⟩
theorem x_intB {R : Int → Prop} {S : Bool → Prop} {k : Bool} (q : S k) : (∃ i, [V.bl k] = [V.int i] ∧ R i) ∨ ∃ k', [V.bl k] = [V.bl k'] ∧ S k' := .inr ⟨k, rfl, q⟩
theorem x_addS {R : Str → Str → Prop} (h : z.length + z'.length ≤ sizeLine) (q : R z z') : ∃ i j, V.str z = V.str i ∧ V.str z' = V.str j ∧ i.length + j.length ≤ sizeLine ∧ R i j := ⟨z, z', rfl, rfl, h, q⟩
theorem x_chain {r r' : R2} (q : ta σ H fun x H1 => tb σ H1 fun y H2 => r x y H2 fun z H3 => ∃ k, z = .bl k ∧ if k = true then tc σ H3 fun w H4 => r' y w H4 Q else Q (.bl false) H3) : tChain r r' ta tb tc σ H Q := q
theorem x_seq {t u : TS} {D : Ends} (q : t { D with nx := u D } σ H) : tSeq t u D σ H := q
theorem x_next {D : Ends} (q : D.nx σ H) : tNext D σ H := q
theorem x_asg {g : TG} {D : Ends} (q : te σ H fun x H1 => g x σ H1 D.nx) : tAsg te g D σ H := q
theorem x_name {R : St → Hp → Prop} (q : R (σ.set n (some v)) H) : gName n v σ H R := q
theorem x_drop {D : Ends} (q : te σ H fun _ H1 => D.nx σ H1) : tDrop te D σ H := q
theorem x_ret {D : Ends} (q : te σ H D.rt) : tRet te D σ H := q
theorem x_gTup {t : TGs} {R : St → Hp → Prop} (h : SqT K H a xs) (hl : xs.length = n) (q : t xs σ H R) : gTup K n t (.ref a) σ H R := ⟨a, xs, rfl, h, hl, q⟩
theorem x_gCons {t : TG} {u : TGs} {vs : List V} {R : St → Hp → Prop} (q : t v σ H fun σ' H' => u vs σ' H' R) : gCons t u (v :: vs) σ H R := ⟨v, vs, rfl, q⟩
theorem x_gNil {R : St → Hp → Prop} (q : R σ H) : gNil [] σ H R := ⟨rfl, q⟩
theorem x_gSub {to ti : TE} {t : TSet} {R : St → Hp → Prop} (q : to σ H fun o H1 => ti σ H1 fun i H2 => t o i v H2 fun H3 => R σ H3) : gSub to ti t v σ H R := q
theorem x_setL {k : Nat} {R : Hp → Prop} (h : H p = some (.lst xs)) (e : ixN xs.length i = some k) (q : R (upd H p (.lst (xs.set k v)))) : rSetL (.ref p) (.int i) v H R := ⟨p, xs, i, k, rfl, rfl, h, e, q⟩
theorem x_bm {T : String} {r : V → List V → Hp → VK → Prop} {to : TE} {t : TA} (q : to σ H fun x H1 => tyV K T x H1 ∧ t σ H1 fun xs H2 => r x xs H2 Q) : tBM K T r to t σ H Q := q
theorem x_m1 {r : V → List V → Hp → VK → Prop} {to : TE} (q : to σ H fun x H1 => (∃ a, x = .str a) ∧ te σ H1 fun y H2 => r x [y] H2 Q) : tM1 r to te σ H Q := q
theorem x_m1s {R : Prop} (q : R) : (∃ a, V.str z = V.str a) ∧ R := ⟨⟨z, rfl⟩, q⟩
theorem x_sl {r : V → Option Int → Option Int → Hp → VK → Prop} {tl th : TO} (q : te σ H fun x H1 => tl σ H1 fun l H2 => th σ H2 fun u H3 => r x l u H3 Q) : tSl r te tl th σ H Q := q
theorem x_noPart {R : Option Int → Hp → Prop} (q : R none H) : tNoPart σ H R := q
theorem x_part {R : Option Int → Hp → Prop} (q : te σ H fun x H1 => ∃ i, x = .int i ∧ R (some i) H1) : tPart te σ H R := q
theorem x_parti {R : Int → Prop} (q : R i) : ∃ i', V.int i = V.int i' ∧ R i' := ⟨i, rfl, q⟩
theorem x_slS {lo hi : Option Int} (h : z.length ≤ sizeLine) (q : Q (.str (cutS z lo hi)) H) : rSlS (.str z) lo hi H Q := ⟨z, rfl, h, q⟩
theorem x_rng1 {t : TA} {R : It → Hp → Prop} (q : t σ H fun vs H1 => ∃ j : Int, vs = [.int j] ∧ -(2 ^ 62) ≤ j ∧ j < 2 ^ 62 ∧ R (Itr 0 j.toNat) H1) : iRng1 t σ H R := q
theorem x_rng1i {R : Int → Prop} (h1 : -(2 ^ 62) ≤ i) (h2 : i < 2 ^ 62) (q : R i) : ∃ j : Int, [V.int i] = [V.int j] ∧ -(2 ^ 62) ≤ j ∧ j < 2 ^ 62 ∧ R j := ⟨i, rfl, h1, h2, q⟩
theorem x_rng2 {t : TA} {R : It → Hp → Prop} (q : t σ H fun vs H1 => ∃ i j : Int, vs = [.int i, .int j] ∧ (-(2 ^ 62) ≤ i ∧ i < 2 ^ 62 ∧ -(2 ^ 62) ≤ j ∧ j < 2 ^ 62) ∧ R (Itr i (j - i).toNat) H1) : iRng2 t σ H R := q
theorem x_rng2i {R : Int → Int → Prop} (h : -(2 ^ 62) ≤ i ∧ i < 2 ^ 62 ∧ -(2 ^ 62) ≤ j ∧ j < 2 ^ 62) (q : R i j) : ∃ i' j' : Int, [V.int i, V.int j] = [V.int i', V.int j'] ∧ (-(2 ^ 62) ≤ i' ∧ i' < 2 ^ 62 ∧ -(2 ^ 62) ≤ j' ∧ j' < 2 ^ 62) ∧ R i' j' := ⟨i, j, rfl, h, q⟩
theorem x_lcR {g : TG} {tt : TT} {vs : List Nat} {wi : TI} (q : wi σ H fun J H1 => ∀ D, H1 D = none → ∃ W : Nat → Nat → Hp → Prop, (∃ m, W 0 m (upd H1 D (.lst []))) ∧ ∀ i m H, W i m H →
  (J.stop i H ∧ Q (.ref D) H) ∨ (J.go i H ∧ ∃ Nx : Hp → Prop, (∀ H', Nx H' → ∃ m', m' < m ∧ W (i + 1) m' H') ∧ ∀ x H', J.yld i H x H' → g x (wipe σ vs) H' fun σ2 H2 => wipe σ2 vs = wipe σ vs ∧ tt σ2 H2 fun b H3 =>
    if b = true then te σ2 H3 fun y H4 => ∃ acc, H4 D = some (.lst acc) ∧ acc.length < sizeLine ∧ Nx (upd H4 D (.lst (acc ++ [y]))) else Nx H3)) : tLc wi g tt te vs σ H Q := q
theorem x_yes {R : Bool → Hp → Prop} (q : R true H) : tYes σ H R := q
theorem x_iList {R : It → Hp → Prop} {tl : TE} (q : tl σ H fun x H1 => ∃ a, x = .ref a ∧ (∃ xs, SqL K H1 a xs) ∧ R (Itl K a) H1) : iList K tl σ H R := q
theorem x_iListi {R : Addr → Prop} (h : SqL K H a xs) (q : R a) : ∃ a', V.ref a = V.ref a' ∧ (∃ xs, SqL K H a' xs) ∧ R a' := ⟨a, rfl, ⟨xs, h⟩, q⟩
theorem x_iStr {R : It → Hp → Prop} (q : te σ H fun v H1 => ∃ x, v = .str x ∧ R (Its x) H1) : iStr te σ H R := q
theorem x_iStri {R : Str → Prop} (q : R z) : ∃ z', V.str z = V.str z' ∧ R z' := ⟨z, rfl, q⟩
theorem x_for {wi : TI} {g : TG} {tb : TS} {D : Ends} (q : wi σ H fun J H1 => ∃ W : Nat → Nat → St → Hp → Prop, (∃ m, W 0 m σ H1) ∧ ∀ i m σ H, W i m σ H →
    ((J.stop i H ∧ D.nx σ H) ∨ (J.go i H ∧ ∃ N : St → Hp → Prop, (∀ σ' H', N σ' H' → ∃ m', m' < m ∧ W (i + 1) m' σ' H') ∧ ∀ x H', J.yld i H x H' → g x σ H' fun σ2 H2 => tb { D with nx := N, ct := N, bk := D.nx } σ2 H2))) : tFor wi g tb D σ H := q
theorem x_append (h : H p = some (.lst xs)) (hl : xs.length < sizeLine) (q : Q .non (upd H p (.lst (xs ++ [v])))) : rAppend (.ref p) [v] H Q := ⟨p, xs, v, rfl, rfl, h, hl, q⟩
theorem x_s1 {R : Str → Str → Prop} (q : R z z') : ∃ a b, V.str z = V.str a ∧ [V.str z'] = [V.str b] ∧ R a b := ⟨z, z', rfl, rfl, q⟩
theorem x_aug {te : TE} {ti : TIp} {D : Ends} {x : V} (h : σ[n]? = some (some x)) (q : te σ H fun y H1 => ti x y H1 fun z H2 => D.nx (σ.set n (some z)) H2) : tAug n te ti D σ H := ⟨x, h, q⟩
theorem x_ipI {f : Int → Int → Int} (q : Q (.int (f i j)) H) : ipI f (.int i) (.int j) H Q := ⟨i, j, rfl, rfl, q⟩
theorem x_enumS {R : Str → Prop} (q : R z) : ∃ x, [V.str z] = [V.str x] ∧ R x := ⟨z, rfl, q⟩
theorem x_par {k : Nat} {t : TA} {D : Ends} (q : t σ H fun vs H1 => ∃ v w, vs = [v, w] ∧ D.nx ((σ.set n (some v)).set k (some w)) H1) : tPar n k t D σ H := q
theorem x_parv {R : V → V → Prop} {v' : V} (q : R v v') : ∃ x y, [v, v'] = [x, y] ∧ R x y := ⟨v, v', rfl, q⟩
theorem x_rIntB {R : Int → Prop} {S : Bool → Prop} (q : R i) : (∃ j, [V.int i] = [V.int j] ∧ R j) ∨ ∃ k, [V.int i] = [V.bl k] ∧ S k := .inl ⟨i, rfl, q⟩
theorem x_join {ys : List Str} {R : Str → List Str → Prop} (h : SqL K H p (ys.map V.str)) (hl : (ys.map (·.length)).sum + ys.length * z.length ≤ 16777216) (q : R z ys) :
    ∃ a p', ∃ ys : List Str, V.str z = V.str a ∧ [V.ref p] = [V.ref p'] ∧ (SqL K H p' (ys.map V.str) ∨ SqT K H p' (ys.map V.str)) ∧ (ys.map (·.length)).sum + ys.length * a.length ≤ 16777216 ∧ R a ys := ⟨z, p, ys, rfl, rfl, .inl h, hl, q⟩
end
theorem x_cutE {te : TE} {σ : St} {H : Hp} {Q : VK} (P : V → Hp → Prop) (h1 : ∀ Q' : VK, (∀ v H', P v H' → Q' v H') → te σ H Q') (h2 : ∀ v H', P v H' → Q v H') : te σ H Q := h1 Q h2
theorem x_cutS {t : TS} {D : Ends} {σ : St} {H : Hp} (P : St → Hp → Prop) (h1 : ∀ nx : St → Hp → Prop, (∀ σ' H', P σ' H' → nx σ' H') → t { D with nx := nx } σ H) (h2 : ∀ σ' H', P σ' H' → D.nx σ' H') : t D σ H := h1 D.nx h2
theorem x_iteNT {A B : Prop} (q : B) : if (!true) = true then A else B := q
theorem x_iteNF {A B : Prop} (q : A) : if (!false) = true then A else B := q
theorem x_iteFe {c : Bool} {A B : Prop} (h : c = false) (q : B) : if c = true then A else B := by
  rw [h]
  exact q
theorem x_iteTe {c : Bool} {A B : Prop} (h : c = true) (q : A) : if c = true then A else B := by
  rw [h]
  exact q
theorem hp_sz {n : Nat} (h : n ≤ 1000000) : n ≤ sizeLine := Nat.le_trans h (by decide)
end L2
namespace L2
open PySem PySem.Spec PyProof.Rows
theorem blkOk_in {X : Cx} {N : List Str} {sc scope inner : Scope} {cl : List (Str × Addr)} {C : Addr} {own : List (Str × Nat)} (hN : X.N = N) (hs : X.env.scope = sc) (h : blkC N (relS scope sc) inner own = true) {s : Shared} {H : Hp} {fp : List Addr} :
    BlkOk (X.blk s H scope (compEnvC scope cl C X.env) fp).N (X.blk s H scope (compEnvC scope cl C X.env) fp).env.scope inner own := by
  subst hN hs
  exact blkOk_by h
end L2

namespace Sr
open PySem PySem.Spec PyProof.Rows L2
/-! ### the source of draws: a list [s, cells, i] at a, its cells at b -/
def Src (H : Hp) (a b : Addr) : Prop := a ≠ b ∧ ∃ (s i : Int) (cs : List Int), H a = some (.lst [.int s, .ref b, .int i]) ∧ H b = some (.lst (cs.map V.int)) ∧ cs.length ≤ 63
/-- all that is tracked but the source stands as it was -/
def Kp (a b : Addr) (H H' : Hp) : Prop := ∀ p o, p ≠ a → p ≠ b → H p = some o → H' p = some o
theorem Kp.refl {a b : Addr} (H : Hp) : Kp a b H H := fun _ _ _ _ h => h
theorem Kp.trans {a b : Addr} {H H1 H2 : Hp} (x : Kp a b H H1) (y : Kp a b H1 H2) : Kp a b H H2 := fun p o h1 h2 h => y p o h1 h2 (x p o h1 h2 h)
theorem Kp.of {a b : Addr} {H H' : Hp} (x : Same H H') : Kp a b H H' := fun p o _ _ h => x p o h
theorem Kp.new {a b p : Addr} {H : Hp} {o : HO} (h : H p = none) : Kp a b H (upd H p o) := fun q u _ _ e => by
  rw [upd_ne (ne_of_none e h)]
  exact e
theorem Kp.at_a {a b : Addr} {H : Hp} {o : HO} : Kp a b H (upd H a o) := fun q u n _ e => by
  rw [upd_ne n]
  exact e
theorem Kp.at_b {a b : Addr} {H : Hp} {o : HO} : Kp a b H (upd H b o) := fun q u _ n e => by
  rw [upd_ne n]
  exact e
theorem Src.new {a b p : Addr} {H : Hp} {o : HO} (x : Src H a b) (h : H p = none) : Src (upd H p o) a b := by
  obtain ⟨n, s, i, cs, h1, h2, h3⟩ := x
  exact ⟨n, s, i, cs, by rw [upd_ne (ne_of_none h1 h)]; exact h1, by rw [upd_ne (ne_of_none h2 h)]; exact h2, h3⟩
/-- an object that is no list of ints and no list that begins so stands apart -/
theorem same_upd {H : Hp} {p : Addr} {o : HO} (h : H p = none) : Same H (upd H p o) := fun b x e => by
  rw [upd_ne (ne_of_none e h)]
  exact e
theorem Src_same {a b : Addr} {H H' : Hp} (x : Src H a b) (e : Same H H') : Src H' a b := by
  obtain ⟨n, s, i, cs, h1, h2, h3⟩ := x
  exact ⟨n, s, i, cs, e _ _ h1, e _ _ h2, h3⟩
theorem atI_of {α : Type} {xs : List α} {i : Int} {v : α} (h0 : 0 ≤ i) (h : xs[i.toNat]? = some v) : atI xs i = some v := by
  have e : i = ((i.toNat : Nat) : Int) := by omega
  rw [e]
  exact atI_nat h
theorem ixN_of {n : Nat} {i : Int} (h0 : 0 ≤ i) (h : i < n) : ixN n i = some i.toNat := by
  unfold ixN
  rw [if_pos h0, if_pos h]
theorem eqv_ints_nil : ∀ cs : List Int, PyData.eqv (.list (cs.map PyData.int)) (.list []) = cs.isEmpty
  | [] => by decide +kernel
  | c :: cs => by
    show PyData.eqv (.list (PyData.int c :: cs.map PyData.int)) (.list []) = false
    simp [PyData.eqv, PyData.eqvAll]
theorem dp_ints {K : PySem.W.Frag} {H : Hp} : ∀ cs : List Int, DpAll K H (cs.map V.int) (cs.map PyData.int)
  | [] => .nil
  | c :: cs => .cons (.int c) (dp_ints cs)
theorem lay_ints : ∀ cs : List Int, PyData.canLayAll0 (cs.map PyData.int) = true
  | [] => by simp [PyData.canLayAll0]
  | c :: cs => by
    have h := lay_ints cs
    simp [PyData.canLayAll0, PyData.canLay0] at h ⊢
    exact h
theorem depth_ints : ∀ cs : List Int, PyData.depthAll (cs.map PyData.int) ≤ 1
  | [] => by simp [PyData.depthAll]
  | c :: cs => by
    have h := depth_ints cs
    simp [PyData.depthAll, PyData.depth] at h ⊢
    omega
theorem shaped_ints (cs : List Int) : SeqAt.shaped (.list (cs.map PyData.int)) = true := by
  unfold SeqAt.shaped
  rw [Bool.and_eq_true]
  refine ⟨lay_ints cs, decide_eq_true ?_⟩
  have h := depth_ints cs
  simp only [PyData.depth]
  omega
theorem ints_at {cs : List Int} {j : Nat} (h : j < cs.length) : (cs.map V.int)[j]? = some (.int cs[j]) := by
  rw [List.getElem?_map, List.getElem?_eq_getElem h]
  rfl
theorem map_set_int (cs : List Int) (j : Nat) (x : Int) : (cs.map V.int).set j (.int x) = (cs.set j x).map V.int := by
  rw [List.map_set]
end Sr

namespace Sr
open PySem PySem.Spec PyProof.Rows L2
open TL (tl)
/-! ### texts by their codes -/
/-- the text of these codes -/
def S (l : List Nat) : Str := ⟨l.toArray⟩
theorem tl_S (l : List Nat) : tl (S l) = l := rfl
theorem S_tl (z : Str) : S (tl z) = z := TL.mk_tl z
theorem S_inj {l m : List Nat} (h : S l = S m) : l = m := congrArg tl h
theorem len_S (l : List Nat) : (S l).length = l.length := by rw [TL.len_tl, tl_S]
theorem S_app (l m : List Nat) : S l ++ S m = S (l ++ m) := TL.ext_tl (by rw [TL.tl_append, tl_S, tl_S, tl_S])
def sg (c : Nat) : Str := ⟨#[c]⟩
theorem sg_S (c : Nat) : sg c = S [c] := rfl
theorem joinL_nil : ∀ ps : List (List Nat), TL.joinL [] ps = ps.flatten
  | [] => rfl
  | [p] => by simp [TL.joinL]
  | p :: q :: r => by
    show p ++ ([] ++ TL.joinL [] (q :: r)) = _
    rw [joinL_nil (q :: r)]
    simp
theorem join_signs (cs : List Nat) : Txt.join "" (cs.map sg) = S cs := by
  refine TL.ext_tl ?_
  rw [TL.join_eq, TL.tl_join, show tl ("" : Str) = [] from rfl, joinL_nil, tl_S, List.map_map]
  induction cs with
  | nil => rfl
  | cons c cs ih =>
    rw [List.map_cons, List.flatten_cons, ih]
    rfl
theorem signs_len (cs : List Nat) : ((cs.map sg).map (·.length)).sum + (cs.map sg).length * ("" : Str).length = cs.length := by
  rw [show ("" : Str).length = 0 from rfl, Nat.mul_zero, Nat.add_zero]
  induction cs with
  | nil => rfl
  | cons c cs ih =>
    rw [List.map_cons, List.map_cons, List.sum_cons, ih, List.length_cons]
    show 1 + cs.length = _
    omega
theorem spl_len (c : Nat) : ∀ (l acc : List Nat), (TL.spl [c] 0 acc l).length = l.count c + 1
  | [], acc => by simp [TL.spl]
  | d :: r, acc => by
    have e : TL.spl [c] 0 acc (d :: r) = if TL.pre [c] (d :: r) = true then acc :: TL.spl [c] 0 [] r else TL.spl [c] 0 (acc ++ [d]) r := rfl
    rw [e]
    by_cases h : d = c
    · subst h
      rw [if_pos (by simp [TL.pre]), List.length_cons, spl_len d r [], List.count_cons_self]
    · have hp : ¬ TL.pre [c] (d :: r) = true := by simp [TL.pre, h]
      rw [if_neg hp, spl_len c r _, List.count_cons_of_ne h]
theorem parts_len (x : Str) (n : Nat) : ∀ (cuts : List Nat) (a : Nat), (StrLaws.partsFrom x n a cuts).length = cuts.length + 1
  | [], _ => rfl
  | c :: r, a => by
    show (_ :: StrLaws.partsFrom x n (c + n) r).length = _
    rw [List.length_cons, parts_len x n r, List.length_cons]
theorem count_sign (z : Str) (c : Nat) : Txt.count z (sg c) = (((tl z).count c : Nat) : Int) := by
  have hy : tl (sg c) ≠ [] := by
    show [c] ≠ []
    simp
  obtain ⟨f, g, hn⟩ := StrLaws.occ_tight z (sg c) (by show 1 ≤ 1; exact Nat.le_refl _)
  have key := congrArg List.length (TL.parts_spl hy _ 0 f (Nat.zero_le _) g hn)
  rw [List.length_map, parts_len, List.drop_zero, show tl (sg c) = [c] from rfl, spl_len] at key
  show ((Builtin.Str.occurrences z (sg c) 0 z.length (z.length + 1)).length : Int) = _
  omega
/-- the worth of likes -/
def wor (g l : Int) : List Nat → Int
  | [] => 0
  | c :: r => (if c = 61 then g else -l) + wor g l r
theorem wor_app (g l : Int) : ∀ a b, wor g l (a ++ b) = wor g l a + wor g l b
  | [], b => by simp [wor]
  | c :: a, b => by
    show (if c = 61 then g else -l) + wor g l (a ++ b) = (if c = 61 then g else -l) + wor g l a + wor g l b
    rw [wor_app g l a b]
    omega
theorem wor_take (g l : Int) {z : List Nat} {i : Nat} (h : i < z.length) : wor g l (z.take (i + 1)) = wor g l (z.take i) + (if z[i] = 61 then g else -l) := by
  rw [List.take_succ_eq_append_getElem h, wor_app]
  show _ + ((if z[i] = 61 then g else -l) + 0) = _
  omega
/-- likes: a text of 61 and 47 alone -/
def Lk (z : List Nat) : Prop := ∀ c ∈ z, c = 61 ∨ c = 47
theorem wor_count (g l : Int) : ∀ {z : List Nat}, Lk z → g * ((z.count 61 : Nat) : Int) - l * ((z.count 47 : Nat) : Int) = wor g l z
  | [], _ => by simp [wor]
  | c :: r, h => by
    have ih := wor_count g l (z := r) fun d hd => h d (List.mem_cons_of_mem _ hd)
    show _ = (if c = 61 then g else -l) + wor g l r
    rcases h c (List.mem_cons_self ..) with e | e
    · subst e
      rw [List.count_cons_self, List.count_cons_of_ne (by decide), if_pos rfl, ← ih, Int.natCast_add, Int.mul_add]
      simp
      omega
    · subst e
      rw [List.count_cons_self, List.count_cons_of_ne (by decide), if_neg (by decide), ← ih, Int.natCast_add, Int.mul_add]
      simp
      omega
/-- the places of a lane -/
def onl (n : Nat) (d : Int) (p : Nat) : Bool := decide (0 ≤ (p : Int) + d) && decide ((p : Int) + d < (n : Int))
def plc (m n : Nat) (d : Int) : List Nat := (List.range m).filter (onl n d)
def bgn (d : Int) : Nat := (-d).toNat
def lkn (m n : Nat) (d : Int) : Nat := (min (m : Int) ((n : Int) - d) - (bgn d : Int)).toNat
theorem plc_eq (n : Nat) (d : Int) : ∀ m, plc m n d = (List.range (lkn m n d)).map (bgn d + ·)
  | 0 => by
    have h : lkn 0 n d = 0 := by unfold lkn bgn; omega
    rw [h]
    rfl
  | m + 1 => by
    have ih := plc_eq n d m
    unfold plc at ih ⊢
    rw [List.range_succ, List.filter_append, ih]
    by_cases h : onl n d m = true
    · have h' : 0 ≤ (m : Int) + d ∧ (m : Int) + d < n := by
        unfold onl at h
        simpa using h
      have e : lkn (m + 1) n d = lkn m n d + 1 := by unfold lkn bgn; omega
      have e2 : m = bgn d + lkn m n d := by unfold lkn bgn; omega
      rw [e, List.range_succ, List.map_append, List.filter_cons, if_pos h]
      show _ ++ [m] = _ ++ [bgn d + lkn m n d]
      rw [← e2]
    · have h' : ¬ (0 ≤ (m : Int) + d ∧ (m : Int) + d < n) := by
        unfold onl at h
        simpa using h
      have e : lkn (m + 1) n d = lkn m n d := by unfold lkn bgn; omega
      rw [e, List.filter_cons, if_neg h]
      simp
/-- the like at a place -/
def lk1 (o t : List Nat) (d : Int) (p : Nat) : Nat := if o[p]? = t[((p : Int) + d).toNat]? then 61 else 47
def likL (o t : List Nat) (d : Int) : List Nat := (plc o.length t.length d).map (lk1 o t d)
theorem likL_Lk (o t : List Nat) (d : Int) : Lk (likL o t d) := fun c h => by
  obtain ⟨p, _, rfl⟩ := List.mem_map.mp h
  unfold lk1
  split
  · exact .inl rfl
  · exact .inr rfl
theorem plc_len (m n : Nat) (d : Int) : (plc m n d).length = lkn m n d := by
  rw [plc_eq, List.length_map, List.length_range]
theorem likL_len (o t : List Nat) (d : Int) : (likL o t d).length = lkn o.length t.length d := by
  unfold likL
  rw [List.length_map, plc_len]
theorem lkn_le (m n : Nat) (d : Int) : lkn m n d ≤ m := by unfold lkn bgn; omega
theorem likL_le (o t : List Nat) (d : Int) : (likL o t d).length ≤ o.length := by rw [likL_len]; exact lkn_le _ _ _
theorem likL_eq (o t : List Nat) (d : Int) : likL o t d = (List.range (lkn o.length t.length d)).map fun i => lk1 o t d (bgn d + i) := by
  unfold likL
  rw [plc_eq, List.map_map]
  rfl
/-- the drawn letters -/
def letL (t n : Nat) : List Nat := (List.range n).map fun k => 97 + (t + 7 * k) % 26
theorem letL_len (t n : Nat) : (letL t n).length = n := by unfold letL; rw [List.length_map, List.length_range]
theorem pv_step {H2 H : Hp} {D : Addr} {f : Nat → V} {i : Nat} {y : V} (hn : H2 D = none) (sm : Same H2 H) (hD : H D = some (.lst ((List.range i).map f))) (hi : i ≤ 1000000) (hy : y = f i) :
    ∃ acc, H D = some (.lst acc) ∧ acc.length < sizeLine ∧ (Same H2 (upd H D (.lst (acc ++ [y]))) ∧ upd H D (.lst (acc ++ [y])) D = some (.lst ((List.range (i + 1)).map f))) := by
  refine ⟨_, hD, ?_, fun b o e => ?_, ?_⟩
  · rw [List.length_map, List.length_range]
    exact Nat.lt_of_le_of_lt hi (by decide)
  · rw [upd_ne (ne_of_none e hn)]
    exact sm b o e
  · rw [upd_same, hy, List.range_succ, List.map_append]
    rfl
theorem lst_map_signs (cs : List Nat) : (cs.map sg).map V.str = cs.map fun c => V.str (sg c) := by rw [List.map_map]; rfl
/-- the end of ''.join of signs -/
theorem join_end {K : PySem.W.Frag} {H : Hp} {p : Addr} {cs : List Nat} {Q : VK} (h : H p = some (.lst (cs.map fun c => V.str (sg c)))) (hl : cs.length ≤ 1000000) (q : Q (.str (S cs)) H) :
    ∃ a p', ∃ ys : List Str, V.str (Str.ofString "") = V.str a ∧ [V.ref p] = [V.ref p'] ∧ (SqL K H p' (ys.map V.str) ∨ SqT K H p' (ys.map V.str)) ∧ (ys.map (·.length)).sum + ys.length * a.length ≤ 16777216 ∧ Q (V.str (Txt.join a ys)) H := by
  refine ⟨_, p, cs.map sg, rfl, rfl, .inl (SqL.of ?_), ?_, ?_⟩
  · rw [lst_map_signs]
    exact h
  · have e := signs_len cs
    show ((cs.map sg).map (·.length)).sum + (cs.map sg).length * ("" : Str).length ≤ 16777216
    rw [e]
    omega
  · have e := join_signs cs
    show Q (V.str (Txt.join "" (cs.map sg))) H
    rw [e]
    exact q
/-- what a comprehension of drawn signs keeps -/
def Dr (a b : Addr) (H0 : Hp) (D : Addr) (ok : Nat → Prop) (i : Nat) (H : Hp) : Prop := ∃ cs : List Nat, cs.length = i ∧ (∀ c ∈ cs, ok c) ∧ Src H a b ∧ Kp a b H0 H ∧ H D = some (.lst (cs.map fun c => V.str (sg c)))
theorem Dr.start {a b : Addr} {H0 : Hp} {D : Addr} {ok : Nat → Prop} (hs : Src H0 a b) (hn : H0 D = none) : Dr a b H0 D ok 0 (upd H0 D (.lst [])) :=
  ⟨[], rfl, (fun c h => nomatch h), hs.new hn, Kp.new hn, upd_same⟩
theorem Src.ne_a {a b D : Addr} {H : Hp} (h : Src H a b) (hn : H D = none) : D ≠ a := by
  obtain ⟨_, _, _, _, h1, _⟩ := h
  exact (ne_of_none h1 hn).symm
theorem Src.ne_b {a b D : Addr} {H : Hp} (h : Src H a b) (hn : H D = none) : D ≠ b := by
  obtain ⟨_, _, _, _, _, h1, _⟩ := h
  exact (ne_of_none h1 hn).symm
theorem Src.upd {a b D : Addr} {H : Hp} {o : HO} (h : Src H a b) (na : D ≠ a) (nb : D ≠ b) : Src (upd H D o) a b := by
  obtain ⟨n, s, i, cs, h1, h2, h3⟩ := h
  exact ⟨n, s, i, cs, by rw [upd_ne na.symm]; exact h1, by rw [upd_ne nb.symm]; exact h2, h3⟩
/-- a turn: the element drew in between (H to H'), then its sign is appended -/
theorem Dr.step {a b : Addr} {H0 H H' : Hp} {D : Addr} {ok : Nat → Prop} {i c : Nat} (hn : H0 D = none) (hs0 : Src H0 a b) (h : Dr a b H0 D ok i H) (hi : i ≤ 1000000) (hs : Src H' a b) (k : Kp a b H H') (hc : ok c) :
    ∃ acc, H' D = some (.lst acc) ∧ acc.length < sizeLine ∧ Dr a b H0 D ok (i + 1) (L2.upd H' D (.lst (acc ++ [V.str (sg c)]))) := by
  obtain ⟨cs, hl, hok, _, k0, hD⟩ := h
  have na := hs0.ne_a hn
  have nb := hs0.ne_b hn
  refine ⟨_, k D _ na nb hD, ?_, cs ++ [c], ?_, ?_, hs.upd na nb, fun p o h1 h2 e => ?_, ?_⟩
  · rw [List.length_map, hl]
    exact Nat.lt_of_le_of_lt hi (by decide)
  · rw [List.length_append, hl]
    rfl
  · intro d hd
    rcases List.mem_append.mp hd with h1 | h1
    · exact hok d h1
    · rw [List.mem_singleton.mp h1]
      exact hc
  · rw [upd_ne (ne_of_none e hn)]
    exact k p o h1 h2 (k0 p o h1 h2 e)
  · rw [upd_same, List.map_append]
    rfl
end Sr
namespace Sr
open PySem PySem.Spec PyProof.Rows L2
/-! ### data that the law compares -/
inductive Gd : PyData → Prop where
  | int (i : Int) : Gd (.int i)
  | str (x : Str) : Gd (.str x)
  | bl (b : Bool) : Gd (.bool b)
  | lst (ds : List PyData) (hl : ds.length ≤ 100000) (h : ∀ d ∈ ds, Gd d) : Gd (.list ds)
  | tup (ds : List PyData) (hl : ds.length ≤ 100000) (h : ∀ d ∈ ds, Gd d) : Gd (.tuple ds)
theorem SqT_same {K : PySem.W.Frag} {H H' : Hp} {a : Addr} {xs : List V} (e : Same H H') (h : SqT K H a xs) : SqT K H' a xs := by
  rcases h with (h | ⟨o, h⟩) | h
  · exact .inl (.inl (e _ _ h))
  · exact .inl (.inr ⟨o, e _ _ h⟩)
  · exact .inr h
section
variable {K : PySem.W.Frag} {H H' : Hp}
mutual
theorem Dp_same (e : Same H H') : ∀ (d : PyData) (v : V), Dp K H v d → Dp K H' v d
  | .none, _, h => by cases h; exact .non
  | .bool b, _, h => by cases h; exact .bl b
  | .int i, _, h => by cases h; exact .int i
  | .str x, _, h => by cases h; exact .str x
  | .list ds, _, h => by
    cases h with
    | lst hs ha => exact .lst (e.seq hs) (DpAll_same e ds _ ha)
  | .tuple ds, _, h => by
    cases h with
    | tup hs ha => exact .tup (SqT_same e hs) (DpAll_same e ds _ ha)
  | .dict _, _, h => by cases h
theorem DpAll_same (e : Same H H') : ∀ (ds : List PyData) (vs : List V), DpAll K H vs ds → DpAll K H' vs ds
  | [], _, h => by cases h; exact .nil
  | d :: ds, _, h => by
    cases h with
    | cons h1 h2 => exact .cons (Dp_same e d _ h1) (DpAll_same e ds _ h2)
end
theorem DpAll_len : ∀ {ds : List PyData} {vs : List V}, DpAll K H vs ds → vs.length = ds.length
  | [], _, h => by cases h; rfl
  | d :: ds, _, h => by
    cases h with
    | cons h1 h2 => rw [List.length_cons, List.length_cons, DpAll_len h2]
theorem DpAll_get : ∀ {ds : List PyData} {vs : List V} (i : Nat), DpAll K H vs ds → i < ds.length → ∃ v d, vs[i]? = some v ∧ ds[i]? = some d ∧ Dp K H v d
  | [], _, i, h, hi => by simp at hi
  | d :: ds, _, 0, h, hi => by
    cases h with
    | cons h1 h2 => exact ⟨_, _, rfl, rfl, h1⟩
  | d :: ds, _, i + 1, h, hi => by
    cases h with
    | cons h1 h2 =>
      obtain ⟨v, d', e1, e2, h3⟩ := DpAll_get i h2 (by simpa using hi)
      exact ⟨v, d', e1, e2, h3⟩
def tname : PyData → String
  | .none => "NoneType"
  | .bool _ => "bool"
  | .int _ => "int"
  | .str _ => "str"
  | .list _ => "list"
  | .tuple _ => "tuple"
  | .dict _ => "dict"
theorem dp_ty {v : V} {d : PyData} (h : Dp K H v d) : TyX K H v (.type (tname d)) := by
  cases h with
  | non => exact .base .non
  | bl b => exact .base (.bl b)
  | int i => exact .base (.int i)
  | str x => exact .base (.str x)
  | lst hs _ =>
    rcases hs with (h | ⟨o, h⟩) | ⟨o, its, n, h1, h2, _⟩
    · exact .base (.lst h)
    · exact .base (.frz h)
    · exact .kList h1 h2
  | tup hs _ =>
    rcases hs with (h | ⟨o, h⟩) | ⟨o, its, n, h1, h2, _⟩
    · exact .base (.tup h)
    · exact .fTuple h
    · exact .kTuple h1 h2
theorem kit_lt {tn : String} {b1 b2 : Bool} (h1 : PySem.W.kitOne K (.type tn) (.type "list") = some b1) (h2 : PySem.W.kitOne K (.type tn) (.type "tuple") = some b2) :
    PySem.W.kitAny K (.type tn) [.type "list", .type "tuple"] = some (b1 || b2) :=
  kitAny_cons h1 (fun e => kitAny_cons h2 (fun e2 => by rw [e, e2]; exact kitAny_nil) fun e2 => by rw [e2, Bool.or_true]) fun e => by rw [e, Bool.true_or]
/-- a def that is never called where its promise asks the impossible -/
theorem fn_never {P : Program} {w : World} {mg : Str → Option Value} {base : Heap} {CX : CXT} {k : Nat} {f : Addr} {fd : FuncData} {ps : List Str} {sp : Sp} (h : ∀ vs H Q E, ¬ sp vs H Q E) : FnOk P w K mg base CX k f fd ps sp :=
  ⟨fun vs H Q E z => (h vs H Q E z).elim, fun _ _ _ _ _ _ _ _ _ _ _ _ _ z => (h _ _ _ _ z).elim⟩
theorem x_ixQ {p : Addr} {xs : List V} {i : Int} {v : V} {Q : VK} (h : SqL K H p xs ∨ SqT K H p xs) (e : atI xs i = some v) (q : Q v H) : rIx K (.ref p) (.int i) H Q := by
  rcases h with h | h
  · exact .inl ⟨p, xs, i, v, rfl, rfl, h, e, q⟩
  · exact .inr (.inl ⟨p, xs, i, v, rfl, rfl, h, e, q⟩)
theorem x_isi {x : V} {n tn : String} {b : Bool} {Q : VK} (ht : TyX K H x (.type tn)) (k : PySem.W.kitOne K (.type tn) (.type n) = some b) (q : Q (.bl b) H) : rIsi K [x, .ty n] H Q :=
  ⟨x, .ty n, _, _, b, rfl, .ty n, ht, k, q⟩
theorem x_isiLT {x : V} {tn : String} {p : Addr} {b : Bool} {Q : VK} (hp : H p = some (.tup [.ty "list", .ty "tuple"])) (ht : TyX K H x (.type tn)) (k : PySem.W.kitAny K (.type tn) [.type "list", .type "tuple"] = some b) (q : Q (.bl b) H) : rIsiT K [x, .ref p] H Q :=
  ⟨x, p, _, _, _, b, rfl, hp, .cons (.ty _) (.cons (.ty _) .nil), ht, k, q⟩
theorem TyX_same (e : Same H H') {v : V} {d : PyData} (h : Dp K H v d) : TyX K H' v (.type (tname d)) := dp_ty (Dp_same e d v h)
theorem depth_mem : ∀ {ds : List PyData} {d : PyData}, d ∈ ds → d.depth ≤ PyData.depthAll ds
  | x :: xs, d, h => by
    simp only [PyData.depthAll]
    rcases List.mem_cons.mp h with e | e
    · subst e
      exact Nat.le_max_left _ _
    · exact Nat.le_trans (depth_mem e) (Nat.le_max_right _ _)
end
end Sr
namespace Sr
open PySem PySem.Spec PyProof.Rows L2
theorem cutS_take (z : List Nat) (k : Nat) : cutS (S z) none (some (k : Int)) = S (z.take k) := by
  unfold cutS
  have e0 : HT.sIx (S z).length 0 none = 0 := rfl
  have e1 : HT.sIx (S z).length (S z).length (some (k : Int)) = min k (S z).length := HT.sIx_nat _ _ _
  rw [e0, e1, List.drop_zero, Nat.sub_zero, len_S]
  show S (z.take (min k z.length)) = _
  congr 1
  by_cases h : k ≤ z.length
  · rw [Nat.min_eq_left h]
  · rw [Nat.min_eq_right (by omega), List.take_of_length_le (Nat.le_refl _), List.take_of_length_le (by omega)]
theorem cutS_drop (z : List Nat) (k : Nat) : cutS (S z) (some (k : Int)) none = S (z.drop k) := by
  unfold cutS
  have e0 : HT.sIx (S z).length 0 (some (k : Int)) = min k (S z).length := HT.sIx_nat _ _ _
  have e1 : HT.sIx (S z).length (S z).length none = (S z).length := rfl
  rw [e0, e1, len_S]
  show S ((z.drop (min k z.length)).take (z.length - min k z.length)) = _
  congr 1
  by_cases h : k ≤ z.length
  · rw [Nat.min_eq_left h]
    exact List.take_of_length_le (by rw [List.length_drop]; exact Nat.le_refl _)
  · rw [Nat.min_eq_right (by omega), List.drop_eq_nil_of_le (Nat.le_refl _), List.drop_eq_nil_of_le (by omega)]
    simp
theorem cutS_cut (z : List Nat) (i j : Nat) (h : j ≤ z.length) : cutS (S z) (some (i : Int)) (some (j : Int)) = S ((z.drop i).take (j - i)) := by
  unfold cutS
  have e0 : HT.sIx (S z).length 0 (some (i : Int)) = min i (S z).length := HT.sIx_nat _ _ _
  have e1 : HT.sIx (S z).length (S z).length (some (j : Int)) = min j (S z).length := HT.sIx_nat _ _ _
  rw [e0, e1, len_S, Nat.min_eq_left h]
  show S ((z.drop (min i z.length)).take (j - min i z.length)) = _
  congr 1
  by_cases h2 : i ≤ z.length
  · rw [Nat.min_eq_left h2]
  · rw [Nat.min_eq_right (by omega), List.drop_eq_nil_of_le (Nat.le_refl _), List.drop_eq_nil_of_le (by omega)]
    simp
end Sr
namespace Sr
open PySem PySem.Spec PyProof.Rows L2
theorem seq_view {K : PySem.W.Frag} {H : Hp} {x y : V} {d : PyData} (hx : Dp K H x d) (hy : Dp K H y d) (g : Gd d) :
    (∃ i, x = .int i ∧ y = .int i ∧ tname d = "int") ∨ (∃ z, x = .str z ∧ y = .str z ∧ tname d = "str") ∨ (∃ b, x = .bl b ∧ y = .bl b ∧ tname d = "bool") ∨
    ∃ (ds : List PyData) (px py : Addr) (xs ys : List V) (b1 b2 : Bool), x = .ref px ∧ y = .ref py ∧ (SqL K H px xs ∨ SqT K H px xs) ∧ (SqL K H py ys ∨ SqT K H py ys) ∧ DpAll K H xs ds ∧ DpAll K H ys ds ∧ ds.length ≤ 100000 ∧ (∀ d ∈ ds, Gd d) ∧
      d.depth = PyData.depthAll ds + 1 ∧ PySem.W.kitOne K (.type (tname d)) (.type "list") = some b1 ∧ PySem.W.kitOne K (.type (tname d)) (.type "tuple") = some b2 ∧ (b1 || b2) = true := by
  cases g with
  | int i =>
    cases hx
    cases hy
    exact .inl ⟨i, rfl, rfl, rfl⟩
  | str z =>
    cases hx
    cases hy
    exact .inr (.inl ⟨z, rfl, rfl, rfl⟩)
  | bl b =>
    cases hx
    cases hy
    exact .inr (.inr (.inl ⟨b, rfl, rfl, rfl⟩))
  | lst ds hl h =>
    cases hx with
    | lst h1 h2 =>
      cases hy with
      | lst h3 h4 => exact .inr (.inr (.inr ⟨ds, _, _, _, _, true, false, rfl, rfl, .inl h1, .inl h3, h2, h4, hl, h, by simp only [PyData.depth], kit_ty (a := "list") (by decide +kernel), kit_ty (a := "list") (by decide +kernel), rfl⟩))
  | tup ds hl h =>
    cases hx with
    | tup h1 h2 =>
      cases hy with
      | tup h3 h4 => exact .inr (.inr (.inr ⟨ds, _, _, _, _, false, true, rfl, rfl, .inr h1, .inr h3, h2, h4, hl, h, by simp only [PyData.depth], kit_ty (a := "tuple") (by decide +kernel), kit_ty (a := "tuple") (by decide +kernel), rfl⟩))
theorem Sq_same {K : PySem.W.Frag} {H H' : Hp} {a : Addr} {xs : List V} (e : Same H H') (h : SqL K H a xs ∨ SqT K H a xs) : SqL K H' a xs ∨ SqT K H' a xs := h.elim (fun h => .inl (e.seq h)) fun h => .inr (SqT_same e h)
end Sr

namespace L2
open PySem PySem.Spec PyProof.Rows
/-! ### del xs[a:], by the model's own list.__delitem__ -/
section
variable {prog : Program} {w : World} {A : Around} {E : Value → Shared → Prop} {s : Shared}
theorem cut_zip {p : Nat → Bool} {a : Nat} : ∀ (l : List Value) (i : Nat), (∀ k, i ≤ k → k < i + l.length → p k = decide (a ≤ k)) → (l.zipIdx i).filterMap (fun (x, k) => if p k then none else some x) = l.take (a - i)
  | [], i, _ => by simp
  | x :: l, i, h => by
    rw [List.zipIdx_cons, List.filterMap_cons]
    have ih := cut_zip (p := p) (a := a) l (i + 1) fun k h1 h2 => h k (by omega) (by rw [List.length_cons]; omega)
    have h0 := h i (Nat.le_refl _) (by rw [List.length_cons]; omega)
    by_cases hai : a ≤ i
    · rw [decide_eq_true hai] at h0
      simp only [h0, if_true]
      rw [ih, show a - (i + 1) = 0 by omega, show a - i = 0 by omega]
      simp
    · rw [decide_eq_false hai] at h0
      simp only [h0, Bool.false_eq_true, if_false]
      rw [ih, show a - i = (a - (i + 1)) + 1 by omega, List.take_succ_cons]
theorem bounds_from {a n : Nat} (h : a ≤ n) : sliceBounds (some (a : Int)) none none n = ((a : Int), (n : Int), 1) := by
  simp only [sliceBounds, Option.getD_none]
  have h1 : ¬ ((a : Int) < 0) := by omega
  simp only [h1, if_false, show (1 : Int) > 0 by decide, if_true]
  congr 1
  omega
set_option maxRecDepth 100000 in
theorem delItem_from {l sl : Addr} {items : Array Value} {n : Nat} {vl : Value} {a : Nat} {Q : Unit → Shared → Prop}
    (e : s.heap.get? l = some { cls := .type "list", data := .seq items n }) (hs : s.heap.IsSliceOf sl vl .none .none) (pl : IsPart vl (some (a : Int))) (ha : a ≤ items.size)
    (hsz : items.size ≤ sizeLine) (h : ∀ f : Array Value → Array Value, f items = (items.toList.take a).toArray → Q () { s with heap := s.heap.update l (Obj.mapSeq f) }) :
    wpAny (model prog w) A (delItem (.ref l) (.ref sl)) Q E s := by
  have hl : s.heap.IsList l items := PySem.IsL.isList e
  obtain ⟨os, hos, hcs, hds⟩ := id hs
  have hTs : s.TypeIs (.ref sl) "slice" := ⟨os, hos, hcs⟩
  have hstep : ¬ ((rawPart none == rawInt 0) = true) := Bool.false_ne_true
  refine wpAny_delItem_slot hl.typeIs (by decide) F.slot_list_delitem (wpAny_call_entry F.slot_list_delitem hl.typeIs F.entry_list_delitem ?_ (F.args_list_delitem_2 _ _))
  show wpAny _ _ (Builtin.List.listSubscript? (.ref sl) >>= _) _ _ s
  refine wpAny_bind ?_
  unfold Builtin.List.listSubscript?
  refine wpAny_bind (wpAny_specialOf hTs slice_no_index ?_)
  simp only [Option.isNone_none, if_true]
  refine wpAny_pure ?_
  show wpAny _ _ (typeOf (.ref sl) >>= _) _ _ s
  refine wpAny_bind (wpAny_typeOf hTs ?_)
  rw [if_neg (by decide)]
  rw [listSliceParts_eq]
  refine wpAny_bind (wpAny_bind (wpAny_field hos hds (x := .none) rfl (wpAny_bind (wpAny_listPart .none ?_))))
  rw [if_neg hstep]
  refine wpAny_bind (wpAny_field hos hds (x := vl) rfl (wpAny_bind (wpAny_listPart pl ?_)))
  refine wpAny_bind (wpAny_field hos hds (x := .none) rfl (wpAny_bind (wpAny_listPart .none (wpAny_pure ?_))))
  unfold Builtin.List.listItems
  refine wpAny_bind (wpAny_bind (wpAny_seqItems e rfl (wpAny_pure ?_)))
  refine wpAny_bind (wpAny_of_eq ((sliceIndices_raw (some (a : Int)) none none items.size (by simp)).trans (congrArg (pure : Int × Int × Int → Sem (Int × Int × Int)) (bounds_from ha))) ?_)
  refine wpAny_bind (wpAny_rule ?_)
  have key : ∀ (p : Nat → Bool) (f : Array Value → Array Value), (∀ k, k < items.size → p k = decide (a ≤ k)) → (∀ xs, f xs = (xs.toList.zipIdx.filterMap fun (x, k) => if p k then none else some x).toArray) → f items = (items.toList.take a).toArray := fun p f hp hf => by
    rw [hf, cut_zip (a := a) items.toList 0 fun k _ h2 => hp k (by simpa using h2)]
    rfl
  have sz : ∀ f : Array Value → Array Value, f items = (items.toList.take a).toArray → (f items).size ≤ sizeLine + 1 := fun f hf => by
    rw [hf, List.size_toArray, List.length_take, Array.length_toList]
    omega
  have pk : ∀ k, k < items.size → (if (1 : Int) > 0 then decide ((a : Int) ≤ (k : Int)) && decide ((k : Int) < (items.size : Int)) && (((k : Int) - (a : Int)) % 1 == 0) else decide ((items.size : Int) < (k : Int)) && decide ((k : Int) ≤ (a : Int)) && (((a : Int) - (k : Int)) % (-1) == 0)) = decide (a ≤ k) := fun k hk => by
    rw [if_pos (by decide), Int.emod_one, decide_eq_true (show (k : Int) < (items.size : Int) by omega), Bool.and_true]
    simp
  have fk : (fun xs : Array Value => (xs.toList.zipIdx.filterMap fun (x, k) => if (if (1 : Int) > 0 then decide ((a : Int) ≤ (k : Int)) && decide ((k : Int) < (items.size : Int)) && (((k : Int) - (a : Int)) % 1 == 0) else decide ((items.size : Int) < (k : Int)) && decide ((k : Int) ≤ (a : Int)) && (((a : Int) - (k : Int)) % (-1) == 0)) then none else some x).toArray) items = (items.toList.take a).toArray := key (fun k : Nat => (if (1 : Int) > 0 then decide ((a : Int) ≤ (k : Int)) && decide ((k : Int) < (items.size : Int)) && (((k : Int) - (a : Int)) % 1 == 0) else decide ((items.size : Int) < (k : Int)) && decide ((k : Int) ≤ (a : Int)) && (((a : Int) - (k : Int)) % (-1) == 0))) _ pk (fun xs => rfl)
  generalize hf0 : (fun xs : Array Value => (xs.toList.zipIdx.filterMap fun (x, k) => if (if (1 : Int) > 0 then decide ((a : Int) ≤ (k : Int)) && decide ((k : Int) < (items.size : Int)) && (((k : Int) - (a : Int)) % 1 == 0) else decide ((items.size : Int) < (k : Int)) && decide ((k : Int) ≤ (a : Int)) && (((a : Int) - (k : Int)) % (-1) == 0)) then none else some x).toArray) = f0 at fk
  refine wpAny_bind (wpAny_updateSeq (hz := hsz) (_hz' := by have z := sz f0 fk; subst hf0; exact z) e rfl ?_)
  refine wpAny_bind (wpAny_letGo ?_)
  exact wpAny_pure ⟨.none, rfl, by have z := h f0 fk; subst hf0; exact z⟩
end
end L2
namespace L2
open PySem PySem.Spec PyProof.Rows
section
variable {X : Cx}
/-- del xs[a:] -/
def tDelFrom (to tl : TE) : TS := fun D σ H => to σ H fun x H1 => tl σ H1 fun y H2 => ∃ (l : Addr) (xs : List V) (a : Nat), x = .ref l ∧ y = .int (a : Nat) ∧ H2 l = some (.lst xs) ∧ a ≤ xs.length ∧ D.nx σ (upd H2 l (.lst (xs.take a)))
theorem ps_delFrom {o lo : Expr} {to tl : TE} {tpos p2 pos : Pos} (ho : PE X o to) (hl : PE X lo tl) : PS X (.Delete [.Subscript o (.Slice (some lo) none none p2) tpos] pos) (tDelFrom to tl) := by
  refine ⟨fun pins s σ H D I h => ?_⟩
  refine wpAny_Delete (wpAny_deleteEach_cons (wpAny_delete_Subscript (thn (ho.run pins s σ H _ I h) fun u s1 ⟨x, H1, I1, rx, q1⟩ => ?_)))
  refine wpAny_Slice ?_
  rw [evalPart_some, evalPart_none]
  refine thn (hl.run pins s1 σ H1 _ I1 q1) fun vl s2 ⟨y, H2, I2, ry, q2⟩ => ?_
  refine wpAny_pure ?_
  refine wpAny_pure ?_
  obtain ⟨l, xs, a, ex, ey, hH, ha, q⟩ := q2
  subst ex
  subst ey
  cases (show u = Value.ref l from rx)
  obtain ⟨t, rfl⟩ := (show ∃ t, vl = Value.int (a : Nat) t from ry)
  have I3 : Inv X pins σ H2 { s2 with heap := s2.heap.push { cls := .type "slice", data := .fields #[.int (a : Nat) t, .none, .none] } } := I2.kept (t' := s2.toks) fun b ob z => Heap.get?_push_of_some _ z
  obtain ⟨z, its, n, r, hlen, e⟩ := I3.lstM hH
  refine delItem_from (a := a) e (Heap.IsSliceOf.new ..) (.int _ _) (by rw [List.size_toArray]; omega) (by rw [List.size_toArray]; omega) fun f hf => ?_
  refine wpAny_deleteEach_nil ⟨σ, _, ?_, q⟩
  refine I3.lset (its' := its.take a) (t' := s2.toks) hH e ?_ (r.take a) ?_
  · rw [hf]
  · rw [List.length_take]
    omega
end
/-! ### enumerate(text) -/
def Ities (x : Str) : It :=
  ⟨fun i _ => i < x.cps.size, fun i H v H' => ∃ T c, v = .ref T ∧ H T = none ∧ x.cps[i]? = some c ∧ H' = upd H T (.tup [.int (i : Nat), .str ⟨#[c]⟩]), fun i _ => i = x.cps.size⟩
theorem turn_enumS {P : Program} {w : World} {K : PySem.W.Frag} {elts : List Expr} {kk : Nat} {tpos : Pos} (x : Str) (t : Tok) (e it : Addr) (ty : String) (hty : ty = "str_ascii_iterator" ∨ ty = "str_iterator") :
    Turn P w K (.Tuple elts kk tpos) (Ities x) [e, it] e (fun i h => (∃ old, IsEnum h e it ((i : Nat) : Int) old) ∧ h.IsStrIter it ty x t i ∧ e ≠ it) where
  mem := by simp
  obj := fun i h st b hb => by
    obtain ⟨⟨old, he⟩, ⟨o, ho, hc, hd⟩, _⟩ := st
    have e' : b = e ∨ b = it := by simpa using hb
    rcases e' with z | z
    · rw [z]; exact ⟨_, he, fun v q => nomatch q⟩
    · rw [z]; exact ⟨o, ho, fun v q => by rw [hd] at q; cases q⟩
  keep := fun i h h' st k => let ⟨⟨old, he⟩, ⟨o, ho, r⟩, hne⟩ := st; ⟨⟨old, k e (by simp) _ he⟩, ⟨o, k it (by simp) o ho, r⟩, hne⟩
  item := by
    intro X hP hw hK hc i pins s σ H E I hf st hg
    subst hP hw hK
    obtain ⟨⟨old, he⟩, hit, hne⟩ := st
    have hel : e < s.heap.objs.size := Heap.lt_size he
    have hil : it < s.heap.objs.size := by obtain ⟨_, q, _⟩ := hit; exact Heap.lt_size q
    have W : Draws X.prog X.w X.A.in1 it [it] x.cps.size (fun i v => ∃ c u, x.cps[i]? = some c ∧ v = .str ⟨#[c]⟩ u) (fun i h => h.IsStrIter it ty x t i) := by
      rcases hty with q | q
      · rw [q]; exact Draws.strAscii (A := X.A.in1) (show X.A.in1.handled = none from I.ok.hd hc) it x t
      · rw [q]; exact Draws.strWide (A := X.A.in1) (show X.A.in1.handled = none from I.ok.hd hc) it x t
    refine wpAny_pyNext_enum_itemD W he hit hg hne (by simpa using hne) fun v h' tk hv ho hit' hT hsz hk => ?_
    obtain ⟨c, u, hcx, rfl⟩ := hv
    refine ⟨_, rfl, wpAny_letOwnedTupleGo_enum (s := { s with heap := h', toks := tk + 1 }) ho fun h'' he' sb => ?_⟩
    have hT2 : h''.get? s.heap.objs.size = some { cls := .type "tuple", data := .seq #[.int i tk, .str ⟨#[c]⟩ u] } := (sb.2 _ (Nat.ne_of_gt hel)).trans hT
    have new : ObjOk X.prog X.w (upd H s.heap.objs.size (.tup [.int (i : Nat), .str ⟨#[c]⟩])) h'' s.heap.objs.size (.tup [.int (i : Nat), .str ⟨#[c]⟩]) :=
      ⟨by show 2 ≤ sizeLine; decide, [.int i tk, .str ⟨#[c]⟩ u], .cons ⟨_, rfl⟩ (.cons ⟨_, rfl⟩ .nil), ⟨_, hT2, rfl, _, rfl⟩⟩
    have I1 : Inv X pins σ (upd H s.heap.objs.size (.tup [.int (i : Nat), .str ⟨#[c]⟩])) { s with heap := h'', toks := tk + 1 } :=
      I.turnedNew (ch := [e, it]) (fun b ob hb q => (sb.2 b (fun z => hb (by simp [z]))).trans (hk b ob (fun z => hb (by simp [z])) (fun z => hb (by simp [z])) q)) hf (Nat.le_refl _) new
    refine ⟨.ref s.heap.objs.size, _, I1, rfl, ⟨_, c, rfl, I.hok.fresh (Nat.le_refl _), hcx, rfl⟩, ⟨⟨.str ⟨#[c]⟩ u, ?_⟩, ?_, hne⟩, fun b hb => ?_⟩
    · have e1 : ((i + 1 : Nat) : Int) = (i : Int) + 1 := by omega
      rw [e1]; exact he'
    · obtain ⟨o, ho2, r⟩ := hit'
      exact ⟨o, (sb.2 it (Ne.symm hne)).trans ho2, r⟩
    · have hb' : b < s.heap.objs.size := by
        have e' : b = e ∨ b = it := by simpa using hb
        rcases e' with z | z
        · rw [z]; exact hel
        · rw [z]; exact hil
      rw [upd_ne (Nat.ne_of_lt hb')]
      exact (hf b hb).1
  done := by
    intro X hP hw hK hc i pins s σ H E I hf st hg
    subst hP hw hK
    obtain ⟨⟨old, he⟩, hit, hne⟩ := st
    have hg' : i = x.cps.size := hg
    subst hg'
    have W : Draws X.prog X.w X.A.in1 it [it] x.cps.size (fun i v => ∃ c u, x.cps[i]? = some c ∧ v = .str ⟨#[c]⟩ u) (fun i h => h.IsStrIter it ty x t i) := by
      rcases hty with q | q
      · rw [q]; exact Draws.strAscii (A := X.A.in1) (show X.A.in1.handled = none from I.ok.hd hc) it x t
      · rw [q]; exact Draws.strWide (A := X.A.in1) (show X.A.in1.handled = none from I.ok.hd hc) it x t
    obtain ⟨f0, f1, f2, f3, f4, f5⟩ := hf it (by simp)
    exact wpAny_pyNext_enum_endD W he hit fun h' eb => ⟨rfl, I.turned (t' := s.toks) (fun b o hb q => eb b o hb q) f0 f1 f3 f4 f5⟩
  self := fun A i s Q E st h => let ⟨⟨_, he⟩, _⟩ := st; wpAny_pyIter_enum he h
def iEnumS (ta : TA) : TI := fun σ H R => ta σ H fun vs H1 => ∃ x, vs = [.str x] ∧ R (Ities x) H1
theorem pi_enumS {X : Cx} {e : Expr} {ta : TA} {p pos tpos : Pos} {elts : List Expr} {kk : Nat} (hg : Gl X "enumerate") (hm : X.mg "enumerate" = none) (ha : PA X [e] ta) (hs : starEach [e] X.env = [(false, eval e X.env)] := by rfl) :
    PI X (.Tuple elts kk tpos) (.Call (.Name "enumerate" p) [e] [] pos) (iEnumS ta) := by
  refine ⟨fun pins s σ H R I h => ?_⟩
  refine Call_ (ld_blt I hg hm boot_enumerate (PyProof.Rows.callWith_type1 (thn (ha.run pos pins s σ H _ I h) fun us s1 ⟨vs, H1, I1, r1, q1⟩ => ?_) hs rfl))
  obtain ⟨x, ex, q⟩ := q1
  subst ex
  cases r1 with
  | cons r rr =>
    cases rr
    obtain ⟨t, rfl⟩ := r
    refine call_enumerate_str fun h' he hit hsz hk => wpAny_pyIter_enum he ?_
    have I2 : Inv X pins σ H1 { s1 with heap := h' } := I1.kept (t' := s1.toks) hk
    have hty : strIterType x = "str_ascii_iterator" ∨ strIterType x = "str_iterator" := by
      unfold strIterType
      split
      · exact .inl rfl
      · exact .inr rfl
    refine ⟨s1.heap.objs.size + 1, [s1.heap.objs.size + 1, s1.heap.objs.size], _, _, H1, rfl, I2, turn_enumS x t (s1.heap.objs.size + 1) s1.heap.objs.size _ hty, ⟨⟨.none, he⟩, hit, Nat.succ_ne_self _⟩, fun b hb => ?_, q⟩
    have e' : b = s1.heap.objs.size + 1 ∨ b = s1.heap.objs.size := by simpa using hb
    have hle : s1.heap.objs.size ≤ b := by
      rcases e' with z | z
      · rw [z]; exact Nat.le_add_right _ _
      · rw [z]; exact Nat.le_refl _
    exact I1.fpOk hle (I1.hok.fresh hle)
theorem walk_enumS {x : Str} : Walk (Ities x) x.cps.size (fun _ => True) (fun i H v H' => ∃ T c, v = .ref T ∧ H T = none ∧ x.cps[i]? = some c ∧ H' = upd H T (.tup [.int (i : Nat), .str ⟨#[c]⟩])) :=
  ⟨fun _ _ hi _ => hi, fun _ _ => rfl, fun _ _ _ _ _ _ y => y⟩
end L2
namespace L2
open PySem PySem.Spec PyProof.Rows
theorem x_del {to tl : TE} {D : Ends} {σ : St} {H : Hp} (q : to σ H fun x H1 => tl σ H1 fun y H2 => ∃ (l : Addr) (xs : List V) (a : Nat), x = .ref l ∧ y = .int (a : Nat) ∧ H2 l = some (.lst xs) ∧ a ≤ xs.length ∧ D.nx σ (upd H2 l (.lst (xs.take a)))) : tDelFrom to tl D σ H := q
theorem x_iEnumS {t : TA} {σ : St} {H : Hp} {R : It → Hp → Prop} (q : t σ H fun vs H1 => ∃ x, vs = [.str x] ∧ R (Ities x) H1) : iEnumS t σ H R := q
theorem x_delFrom {p : Addr} {xs : List V} {i : Int} {k : Nat} {H : Hp} {R : Addr → List V → Nat → Prop} (h : H p = some (.lst xs)) (e : i = (k : Int)) (hk : k ≤ xs.length) (q : R p xs k) :
    ∃ (l : Addr) (xs : List V) (a : Nat), V.ref p = .ref l ∧ V.int i = .int (a : Nat) ∧ H l = some (.lst xs) ∧ a ≤ xs.length ∧ R l xs a := ⟨p, xs, k, rfl, by rw [e], h, hk, q⟩
end L2
namespace L2
open PySem PySem.Spec PyProof.Rows
/-! ### a test of three comparisons in a row -/
section
variable {X : Cx} {a b c d : Expr} {ta tb tc td : TE} {pos : Pos}
def tChain3 (r r' r'' : R2) (ta tb tc td : TE) : TT := fun σ H R => ta σ H fun x H1 => tb σ H1 fun y H2 => r x y H2 fun z H3 => ∃ k, z = .bl k ∧
  (if k = true then tc σ H3 fun w' H4 => r' y w' H4 fun z2 H5 => ∃ k2, z2 = .bl k2 ∧ (if k2 = true then td σ H5 fun v' H6 => r'' w' v' H6 fun z3 H7 => ∃ k3, z3 = .bl k3 ∧ R k3 H7 else R false H5) else R false H3)
theorem pt_chain3 {op op' op'' : CmpOp} {r r' r'' : R2} (ho : OpR X (compareOp op) r) (ho' : OpR X (compareOp op') r') (ho'' : OpR X (compareOp op'') r'') (ha : PE X a ta) (hb : PE X b tb) (hc : PE X c tc) (hd : PE X d td)
    (hm : lastMarks [op, op', op''] [b, c, d] = false := by with_unfolding_all rfl) : PT X (.Compare a [op, op', op''] [b, c, d] pos) (tChain3 r r' r'' ta tb tc td) := by
  refine ⟨fun pins s σ H Q I h => ?_⟩
  refine isTrue_chain (thn (ha.run pins s σ H _ I h) fun v s1 ⟨x, H1, I1, r1, q1⟩ => test_link (thn (hb.run pins s1 σ H1 _ I1 q1) fun u s2 ⟨y, H2, I2, r2, q2⟩ =>
    thn (ho pins s2 σ H2 x y v u _ I2 r1 r2 q2) fun d s3 ⟨z, H3, I3, r3, k, e, q3⟩ => ?_)) hm
  subst e
  cases r3
  refine wpAny_truthy_bool ?_
  cases k with
  | false => exact ite_ff ⟨H3, I3, q3⟩
  | true =>
    refine ite_tt (test_link (thn (hc.run pins s3 σ H3 _ I3 q3) fun w' s4 ⟨z', H4, I4, r4, q4⟩ => thn (ho' pins s4 σ H4 y z' u w' _ I4 r2 r4 q4) fun d' s5 ⟨z2, H5, I5, r5, k2, e2, q5⟩ => ?_))
    subst e2
    cases r5
    refine wpAny_truthy_bool ?_
    cases k2 with
    | false => exact ite_ff ⟨H5, I5, q5⟩
    | true =>
      refine ite_tt (test_last (thn (hd.run pins s5 σ H5 _ I5 q5) fun v' s6 ⟨z4, H6, I6, r6, q6⟩ => thn (ho'' pins s6 σ H6 z' z4 w' v' _ I6 r4 r6 q6) fun d2 s7 ⟨z5, H7, I7, r7, k3, e3, q7⟩ => ?_))
      subst e3
      cases r7
      exact wpAny_truthy_bool ⟨H7, I7, q7⟩
theorem x_chain3 {r r' r'' : R2} {σ : St} {H : Hp} {R : Bool → Hp → Prop} (q : ta σ H fun x H1 => tb σ H1 fun y H2 => r x y H2 fun z H3 => ∃ k, z = .bl k ∧
  (if k = true then tc σ H3 fun w' H4 => r' y w' H4 fun z2 H5 => ∃ k2, z2 = .bl k2 ∧ (if k2 = true then td σ H5 fun v' H6 => r'' w' v' H6 fun z3 H7 => ∃ k3, z3 = .bl k3 ∧ R k3 H7 else R false H5) else R false H3)) : tChain3 r r' r'' ta tb tc td σ H R := q
end
end L2

namespace Sr
/-! ### stretches by levels -/
/-- (b, e) stands by itself: the level at b is lower, at e higher, than every other one between -/
def St (s : Nat → Int) (b e : Nat) : Prop := b < e ∧ (∀ j, b < j → j ≤ e → s b < s j) ∧ (∀ j, b ≤ j → j < e → s j < s e)
def Ripe (s : Nat → Int) (n b e : Nat) : Prop := St s b e ∧ e ≤ n ∧ ∀ b' e', St s b' e' → e' ≤ n → b' ≤ b → e ≤ e' → b' = b ∧ e' = e
def Apt (p q : Nat × Nat) : Prop := p.2 ≤ q.1
structure RL (s : Nat → Int) (n : Nat) (L : List (Nat × Nat)) : Prop where
  ripe : ∀ p ∈ L, Ripe s n p.1 p.2
  all : ∀ b e, Ripe s n b e → (b, e) ∈ L
  apt : L.Pairwise Apt
section
variable {s : Nat → Int}
theorem argmax_first (s : Nat → Int) (b : Nat) : ∀ k : Nat, ∃ m, b ≤ m ∧ m ≤ b + k ∧ (∀ j, b ≤ j → j < m → s j < s m) ∧ ∀ j, b ≤ j → j ≤ b + k → s j ≤ s m
  | 0 => ⟨b, Nat.le_refl _, Nat.le_refl _, fun j h1 h2 => by omega, fun j h1 h2 => by
    have : j = b := by omega
    subst this
    exact Int.le_refl _⟩
  | k + 1 => by
    obtain ⟨m, h1, h2, h3, h4⟩ := argmax_first s b k
    by_cases h : s m < s (b + (k + 1))
    · refine ⟨b + (k + 1), by omega, Nat.le_refl _, fun j j1 j2 => ?_, fun j j1 j2 => ?_⟩
      · have := h4 j j1 (by omega)
        omega
      · by_cases hj : j = b + (k + 1)
        · subst hj
          exact Int.le_refl _
        · have := h4 j j1 (by omega)
          omega
    · refine ⟨m, h1, by omega, h3, fun j j1 j2 => ?_⟩
      by_cases hj : j = b + (k + 1)
      · subst hj
        omega
      · exact h4 j j1 (by omega)
theorem argmin_last (s : Nat → Int) (b : Nat) : ∀ k : Nat, ∃ m, b ≤ m ∧ m ≤ b + k ∧ (∀ j, m < j → j ≤ b + k → s m < s j) ∧ ∀ j, b ≤ j → j ≤ b + k → s m ≤ s j
  | 0 => ⟨b, Nat.le_refl _, Nat.le_refl _, fun j h1 h2 => by omega, fun j h1 h2 => by
    have : j = b := by omega
    subst this
    exact Int.le_refl _⟩
  | k + 1 => by
    obtain ⟨m, h1, h2, h3, h4⟩ := argmin_last s b k
    by_cases h : s (b + (k + 1)) ≤ s m
    · refine ⟨b + (k + 1), by omega, Nat.le_refl _, fun j j1 j2 => by omega, fun j j1 j2 => ?_⟩
      by_cases hj : j = b + (k + 1)
      · subst hj
        exact Int.le_refl _
      · have := h4 j j1 (by omega)
        omega
    · refine ⟨m, h1, by omega, fun j j1 j2 => ?_, fun j j1 j2 => ?_⟩
      · by_cases hj : j = b + (k + 1)
        · subst hj
          omega
        · exact h3 j j1 (by omega)
      · by_cases hj : j = b + (k + 1)
        · subst hj
          omega
        · exact h4 j j1 (by omega)
theorem ripe_of {n : Nat} : ∀ (k b e : Nat), n - (e - b) ≤ k → St s b e → e ≤ n → ∃ b' e', Ripe s n b' e' ∧ b' ≤ b ∧ e ≤ e' := by
  intro k
  induction k with
  | zero =>
    intro b e hk h he
    refine ⟨b, e, ⟨h, he, fun b' e' h' he' h1 h2 => ?_⟩, Nat.le_refl _, Nat.le_refl _⟩
    have := h.1
    have := h'.1
    omega
  | succ k ih =>
    intro b e hk h he
    by_cases hr : Ripe s n b e
    · exact ⟨b, e, hr, Nat.le_refl _, Nat.le_refl _⟩
    · have : ∃ b' e', St s b' e' ∧ e' ≤ n ∧ b' ≤ b ∧ e ≤ e' ∧ ¬ (b' = b ∧ e' = e) := by
        apply Classical.byContradiction
        intro hc
        exact hr ⟨h, he, fun b' e' h1 h2 h3 h4 => Classical.byContradiction fun hn => hc ⟨b', e', h1, h2, h3, h4, hn⟩⟩
      obtain ⟨b', e', h1, h2, h3, h4, h5⟩ := this
      have := h.1
      obtain ⟨b2, e2, r, h6, h7⟩ := ih b' e' (by omega) h1 h2
      exact ⟨b2, e2, r, by omega, by omega⟩
theorem ripe_over {n b e : Nat} (h : St s b e) (he : e ≤ n) : ∃ b' e', Ripe s n b' e' ∧ b' ≤ b ∧ e ≤ e' := ripe_of _ b e (Nat.le_refl _) h he
theorem St.join {b1 e1 b2 e2 : Nat} (h1 : St s b1 e1) (h2 : St s b2 e2) (hb : b1 ≤ b2) (hm : b2 < e1) (he : e1 ≤ e2) : St s b1 e2 := by
  have l12 : s b1 ≤ s b2 := by
    by_cases h : b1 = b2
    · subst h
      exact Int.le_refl _
    · have := h1.2.1 b2 (by omega) (by omega)
      omega
  have g12 : s e1 ≤ s e2 := by
    by_cases h : e1 = e2
    · subst h
      exact Int.le_refl _
    · have := h2.2.2 e1 (by omega) (by omega)
      omega
  refine ⟨by have := h2.1; omega, fun j j1 j2 => ?_, fun j j1 j2 => ?_⟩
  · by_cases h : j ≤ e1
    · exact h1.2.1 j j1 h
    · have := h2.2.1 j (by omega) j2
      omega
  · by_cases h : b2 ≤ j
    · exact h2.2.2 j h j2
    · have := h1.2.2 j j1 (by omega)
      omega
theorem ripe_apart {n b1 e1 b2 e2 : Nat} (h1 : Ripe s n b1 e1) (h2 : Ripe s n b2 e2) (hb : b1 ≤ b2) : (b1 = b2 ∧ e1 = e2) ∨ e1 ≤ b2 := by
  by_cases hm : e1 ≤ b2
  · exact .inr hm
  · left
    by_cases he : e1 ≤ e2
    · have j := h1.1.join h2.1 hb (by omega) he
      have k1 := h1.2.2 b1 e2 j h2.2.1 (Nat.le_refl _) he
      have k2 := h2.2.2 b1 e2 j h2.2.1 hb (Nat.le_refl _)
      exact ⟨k2.1, k1.2.symm⟩
    · have k2 := h2.2.2 b1 e1 h1.1 h1.2.1 hb (by omega)
      exact k2
/-- a beginning b of a stretch that ends behind the like pair at i; R: what is ripe ahead of b -/
structure Cand (s : Nat → Int) (i b : Nat) (R : List (Nat × Nat)) : Prop where
  st : St s b (i + 1)
  ripe : ∀ p ∈ R, Ripe s i p.1 p.2 ∧ p.2 ≤ b
  all : ∀ b' e', Ripe s i b' e' → e' ≤ b → (b', e') ∈ R
  cut : ∀ b' e', Ripe s i b' e' → e' ≤ b ∨ b ≤ b'
  apt : R.Pairwise Apt
theorem Cand.start {i : Nat} {L : List (Nat × Nat)} (h : RL s i L) (hi : s i < s (i + 1)) : Cand s i i L where
  st := ⟨by omega, fun j j1 j2 => by
    have : j = i + 1 := by omega
    subst this
    exact hi, fun j j1 j2 => by
    have : j = i := by omega
    subst this
    exact hi⟩
  ripe := fun p hp => ⟨h.ripe p hp, (h.ripe p hp).2.1⟩
  all := fun b' e' r _ => h.all b' e' r
  cut := fun b' e' r => .inl r.2.1
  apt := h.apt
theorem Cand.le {i b : Nat} {R : List (Nat × Nat)} (h : Cand s i b R) : b ≤ i := by
  have := h.st.1
  omega
theorem mem_split {R1 R2 : List (Nat × Nat)} {q p : Nat × Nat} (h : p ∈ R1 ++ q :: R2) : p ∈ R1 ∨ p = q ∨ p ∈ R2 := by
  rcases List.mem_append.mp h with h | h
  · exact .inl h
  · rcases List.mem_cons.mp h with h | h
    · exact .inr (.inl h)
    · exact .inr (.inr h)
theorem apt_split {R1 R2 : List (Nat × Nat)} {q : Nat × Nat} (h : (R1 ++ q :: R2).Pairwise Apt) : R1.Pairwise Apt ∧ (∀ p ∈ R1, Apt p q) ∧ (∀ p ∈ R2, Apt q p) := by
  rw [List.pairwise_append] at h
  obtain ⟨h1, h2, h3⟩ := h
  refine ⟨h1, fun p hp => h3 p hp q (List.mem_cons_self ..), fun p hp => ?_⟩
  rw [List.pairwise_cons] at h2
  exact h2.1 p hp
/-- no beginning further left -/
theorem Cand.leftmost {i b : Nat} {R : List (Nat × Nat)} (h : Cand s i b R)
    (hc : (∀ p ∈ R, s b ≤ s p.1) ∨ ∃ R1 R2 bk ek, R = R1 ++ (bk, ek) :: R2 ∧ (∀ p ∈ R2, s b ≤ s p.1) ∧ s (i + 1) ≤ s ek) : ∀ b', b' < b → ¬ St s b' (i + 1) := by
  intro b' hb hs
  have hbi := h.le
  have l1 : s b' < s b := hs.2.1 b hb (by omega)
  obtain ⟨m, m1, m2, m3, m4⟩ := argmax_first s b' (b - b')
  have hm : b' ≠ m := fun e => by
    have := m4 b (by omega) (by omega)
    rw [← e] at this
    omega
  have st2 : St s b' m := ⟨by omega, fun j j1 j2 => hs.2.1 j j1 (by omega), fun j j1 j2 => m3 j j1 j2⟩
  obtain ⟨bj, ej, r, r1, r2⟩ := ripe_over (n := i) st2 (by omega)
  have hej : ej ≤ b := by
    rcases h.cut bj ej r with z | z
    · exact z
    · omega
  have hmem := h.all bj ej r hej
  have l2 : s bj ≤ s b' := by
    by_cases hz : bj = b'
    · subst hz
      exact Int.le_refl _
    · have := r.1.2.1 b' (by omega) (by omega)
      omega
  rcases hc with hc | ⟨R1, R2, bk, ek, rfl, hc1, hc2⟩
  · have := hc _ hmem
    show False
    simp only at this
    omega
  · obtain ⟨a1, a2, a3⟩ := apt_split h.apt
    have rk : Ripe s i bk ek ∧ ek ≤ b := h.ripe (bk, ek) (by simp)
    have hk1 : bk < ek := rk.1.1.1
    have hk2 : ek ≤ b := rk.2
    rcases mem_split hmem with z | z | z
    · have : ej ≤ bk := a2 _ z
      have := hs.2.2 ek (by omega) (by omega)
      omega
    · have e1 : bj = bk := congrArg Prod.fst z
      have e2 : ej = ek := congrArg Prod.snd z
      have := hs.2.2 ek (by omega) (by omega)
      omega
    · have := hc1 _ z
      simp only at this
      omega
theorem Cand.step {i b bk ek : Nat} {R1 R2 : List (Nat × Nat)} (h : Cand s i b (R1 ++ (bk, ek) :: R2)) (h2 : ∀ p ∈ R2, s b ≤ s p.1) (hl : s bk < s b) (hh : s ek < s (i + 1)) : Cand s i bk R1 := by
  have hbi := h.le
  obtain ⟨a1, a2, a3⟩ := apt_split h.apt
  have rk : Ripe s i bk ek ∧ ek ≤ b := h.ripe (bk, ek) (by simp)
  have hk1 : bk < ek := rk.1.1.1
  have hk2 : ek ≤ b := rk.2
  have gapL : ∀ j, bk < j → j ≤ b → s bk < s j := by
    intro j j1 j2
    by_cases hj : j ≤ ek
    · exact rk.1.1.2.1 j j1 hj
    · apply Classical.byContradiction
      intro hn
      obtain ⟨m, m1, m2, m3, m4⟩ := argmin_last s j (b - j)
      have lm : s m ≤ s bk := by
        have := m4 j (Nat.le_refl _) (by omega)
        omega
      have hmb : m ≠ b := fun e => by
        rw [e] at lm
        omega
      obtain ⟨e2, e21, e22, e23, e24⟩ := argmax_first s m (b - m)
      have hne : m ≠ e2 := fun e => by
        have := e24 b (by omega) (by omega)
        rw [← e] at this
        omega
      have st2 : St s m e2 := ⟨by omega, fun x x1 x2 => m3 x x1 (by omega), fun x x1 x2 => e23 x x1 x2⟩
      obtain ⟨bj, ej, r, r1, r2⟩ := ripe_over (n := i) st2 (by omega)
      have hej : ej ≤ b := by
        rcases h.cut bj ej r with z | z
        · exact z
        · omega
      have l2 : s bj ≤ s m := by
        by_cases hz : bj = m
        · subst hz
          exact Int.le_refl _
        · have := r.1.2.1 m (by omega) (by omega)
          omega
      rcases mem_split (h.all bj ej r hej) with z | z | z
      · have : ej ≤ bk := a2 _ z
        omega
      · have e3 : ej = ek := congrArg Prod.snd z
        omega
      · have := h2 _ z
        simp only at this
        omega
  have gapH : ∀ j, bk ≤ j → j ≤ b → s j < s (i + 1) := by
    intro j j1 j2
    by_cases hj : j ≤ ek
    · by_cases hz : j = ek
      · rw [hz]
        exact hh
      · have := rk.1.1.2.2 j j1 (by omega)
        omega
    · apply Classical.byContradiction
      intro hn
      obtain ⟨m, m1, m2, m3, m4⟩ := argmax_first s bk (j - bk)
      have hm : s (i + 1) ≤ s m := by
        have := m4 j (by omega) (by omega)
        omega
      have hek : s ek < s m := by omega
      have hme : ek < m := by
        apply Classical.byContradiction
        intro hz
        by_cases hz2 : m = ek
        · rw [hz2] at hek
          omega
        · have := rk.1.1.2.2 m m1 (by omega)
          omega
      have st2 : St s bk m := ⟨by omega, fun x x1 x2 => gapL x x1 (by omega), fun x x1 x2 => m3 x x1 x2⟩
      have := rk.1.2.2 bk m st2 (by omega) (Nat.le_refl _) (Nat.le_of_lt hme)
      simp only at this
      omega
  refine ⟨⟨by omega, fun j j1 j2 => ?_, fun j j1 j2 => ?_⟩, fun p hp => ⟨(h.ripe p (by simp [hp])).1, a2 p hp⟩, fun b' e' r he => ?_, fun b' e' r => ?_, a1⟩
  · by_cases hj : j ≤ b
    · exact gapL j j1 hj
    · have := h.st.2.1 j (by omega) j2
      omega
  · by_cases hj : j ≤ b
    · exact gapH j j1 hj
    · exact h.st.2.2 j (by omega) j2
  · rcases mem_split (h.all b' e' r (by omega)) with z | z | z
    · exact z
    · have e3 : e' = ek := congrArg Prod.snd z
      omega
    · have : ek ≤ b' := a3 _ z
      have := r.1.1
      omega
  · by_cases hz : b' ≤ bk
    · rcases ripe_apart r rk.1 hz with ⟨z, _⟩ | z
      · exact .inr (by omega)
      · exact .inl z
    · exact .inr (by omega)
theorem Cand.done {i b : Nat} {R : List (Nat × Nat)} (h : Cand s i b R) (hl : ∀ b', b' < b → ¬ St s b' (i + 1)) : RL s (i + 1) (R ++ [(b, i + 1)]) := by
  have hbi := h.le
  have rb : Ripe s (i + 1) b (i + 1) := ⟨h.st, Nat.le_refl _, fun b' e' st he hb hi => by
    have e2 : e' = i + 1 := by omega
    subst e2
    refine ⟨?_, rfl⟩
    by_cases hz : b' < b
    · exact absurd st (hl b' hz)
    · omega⟩
  refine ⟨fun p hp => ?_, fun b' e' r => ?_, ?_⟩
  · rcases List.mem_append.mp hp with z | z
    · obtain ⟨r, hr⟩ := h.ripe p z
      refine ⟨r.1, by have := r.2.1; omega, fun b' e' st he hb hi => ?_⟩
      by_cases hz : e' ≤ i
      · exact r.2.2 b' e' st hz hb hi
      · have e2 : e' = i + 1 := by omega
        subst e2
        have := r.1.1
        exact absurd st (hl b' (by omega))
    · rw [List.mem_singleton.mp z]
      exact rb
  · by_cases hz : e' ≤ i
    · have r' : Ripe s i b' e' := ⟨r.1, hz, fun b2 e2 st he hb hi => r.2.2 b2 e2 st (by omega) hb hi⟩
      rcases h.cut b' e' r' with z | z
      · exact List.mem_append.mpr (.inl (h.all b' e' r' z))
      · have := r.2.2 b (i + 1) h.st (Nat.le_refl _) z (by omega)
        omega
    · have e2 : e' = i + 1 := by
        have := r.2.1
        omega
      subst e2
      by_cases hlt : b' < b
      · exact absurd r.1 (hl b' hlt)
      · have := r.2.2 b (i + 1) h.st (Nat.le_refl _) (by omega) (Nat.le_refl _)
        rw [← this.1]
        simp
  · rw [List.pairwise_append]
    refine ⟨h.apt, by simp, fun p hp q hq => ?_⟩
    rw [List.mem_singleton.mp hq]
    exact (h.ripe p hp).2
theorem RL.unlike {i : Nat} {L : List (Nat × Nat)} (h : RL s i L) (hi : s (i + 1) < s i) : RL s (i + 1) L := by
  have no : ∀ b e, St s b e → e ≤ i + 1 → e ≤ i := fun b e st he => by
    apply Classical.byContradiction
    intro hn
    have e2 : e = i + 1 := by omega
    subst e2
    have := st.2.2 i (by have := st.1; omega) (by omega)
    omega
  refine ⟨fun p hp => ?_, fun b e r => ?_, h.apt⟩
  · have r := h.ripe p hp
    exact ⟨r.1, by have := r.2.1; omega, fun b' e' st he hb hi => r.2.2 b' e' st (no _ _ st he) hb hi⟩
  · exact h.all b e ⟨r.1, no _ _ r.1 r.2.1, fun b' e' st he hb hi => r.2.2 b' e' st (by omega) hb hi⟩
theorem RL.zero (s : Nat → Int) : RL s 0 [] := ⟨(fun p hp => nomatch hp), (fun b e r => by
  have := r.1.1
  have := r.2.1
  omega), .nil⟩
theorem same_sorted : ∀ {L M : List (Nat × Nat)}, L.Pairwise (fun p q => p.1 < q.1) → M.Pairwise (fun p q => p.1 < q.1) → (∀ p, p ∈ L ↔ p ∈ M) → L = M
  | [], [], _, _, _ => rfl
  | [], q :: M, _, _, h => by
    have := (h q).mpr (List.mem_cons_self ..)
    cases this
  | p :: L, [], _, _, h => by
    have := (h p).mp (List.mem_cons_self ..)
    cases this
  | p :: L, q :: M, h1, h2, h => by
    rw [List.pairwise_cons] at h1 h2
    have e : p = q := by
      rcases List.mem_cons.mp ((h p).mp (List.mem_cons_self ..)) with z | z
      · exact z
      · rcases List.mem_cons.mp ((h q).mpr (List.mem_cons_self ..)) with z2 | z2
        · exact z2.symm
        · have := h2.1 p z
          have := h1.1 q z2
          omega
    subst e
    rw [same_sorted h1.2 h2.2 fun x => ⟨fun hx => ?_, fun hx => ?_⟩]
    · rcases List.mem_cons.mp ((h x).mp (List.mem_cons_of_mem _ hx)) with z | z
      · have := h1.1 x hx
        rw [z] at this
        omega
      · exact z
    · rcases List.mem_cons.mp ((h x).mpr (List.mem_cons_of_mem _ hx)) with z | z
      · have := h2.1 x hx
        rw [z] at this
        omega
      · exact z
theorem RL.lt {n : Nat} {L : List (Nat × Nat)} (h : RL s n L) : L.Pairwise (fun p q => p.1 < q.1) := by
  refine List.Pairwise.imp_of_mem ?_ h.apt
  intro p q hp hq hpq
  have := (h.ripe p hp).1.1
  have : p.2 ≤ q.1 := hpq
  omega
theorem RL.unique {n : Nat} {L M : List (Nat × Nat)} (h1 : RL s n L) (h2 : RL s n M) : L = M :=
  same_sorted h1.lt h2.lt fun p => ⟨fun hp => h2.all _ _ (h1.ripe p hp), fun hp => h1.all _ _ (h2.ripe p hp)⟩
/-- it is enough that two of these that differ begin at unlike places, ascending -/
theorem RL.of_lt {n : Nat} {L : List (Nat × Nat)} (h1 : ∀ p ∈ L, Ripe s n p.1 p.2) (h2 : ∀ b e, Ripe s n b e → (b, e) ∈ L) (h3 : L.Pairwise (fun p q => p.1 ≤ q.1 ∧ p ≠ q)) : RL s n L := by
  refine ⟨h1, h2, ?_⟩
  refine List.Pairwise.imp_of_mem ?_ h3
  intro p q hp hq hpq
  rcases ripe_apart (h1 p hp) (h1 q hq) hpq.1 with ⟨z1, z2⟩ | z
  · exact absurd (Prod.ext z1 z2) hpq.2
  · exact z
/-- what the document says of a stretch that stands by itself -/
theorem St_iff {b e : Nat} (hb : b < e) : St s b e ↔ 0 < s e - s b ∧ ∀ b' e', b ≤ b' → b' < e' → e' ≤ e → (b', e') ≠ (b, e) → s e' - s b' < s e - s b := by
  constructor
  · intro h
    refine ⟨by have := h.2.1 e hb (Nat.le_refl _); omega, fun b' e' h1 h2 h3 h4 => ?_⟩
    have k1 : s b ≤ s b' := by
      by_cases hz : b = b'
      · subst hz
        exact Int.le_refl _
      · have := h.2.1 b' (by omega) (by omega)
        omega
    have k2 : s e' ≤ s e := by
      by_cases hz : e' = e
      · subst hz
        exact Int.le_refl _
      · have := h.2.2 e' (by omega) (by omega)
        omega
    by_cases hz : b = b'
    · have : e' ≠ e := fun q => h4 (by rw [hz, q])
      have := h.2.2 e' (by omega) (by omega)
      omega
    · have := h.2.1 b' (by omega) (by omega)
      omega
  · rintro ⟨h1, h2⟩
    refine ⟨hb, fun j j1 j2 => ?_, fun j j1 j2 => ?_⟩
    · by_cases hz : j = e
      · subst hz
        omega
      · have := h2 j e (by omega) (by omega) (Nat.le_refl _) (fun q => by have := congrArg Prod.fst q; simp only at this; omega)
        omega
    · by_cases hz : j = b
      · subst hz
        omega
      · have := h2 b j (Nat.le_refl _) (by omega) (by omega) (fun q => by have := congrArg Prod.snd q; simp only at this; omega)
        omega
end
end Sr
namespace Sr
open PySem PySem.Spec PyProof.Rows L2
/-! ### levels of likes; parts and stretches as tuples -/
def lev (g l : Int) (z : List Nat) (i : Nat) : Int := wor g l (z.take i)
theorem lev_succ (g l : Int) {z : List Nat} {i : Nat} (h : i < z.length) : lev g l z (i + 1) = lev g l z i + (if z[i] = 61 then g else -l) := wor_take g l h
theorem lev_zero (g l : Int) (z : List Nat) : lev g l z 0 = 0 := by
  unfold lev
  rw [List.take_zero]
  rfl
/-- only the object at a is another -/
def K1 (a : Addr) (H H' : Hp) : Prop := ∀ p o, p ≠ a → H p = some o → H' p = some o
theorem K1.refl {a : Addr} (H : Hp) : K1 a H H := fun _ _ _ h => h
theorem K1.trans {a : Addr} {H H1 H2 : Hp} (x : K1 a H H1) (y : K1 a H1 H2) : K1 a H H2 := fun p o h1 h => y p o h1 (x p o h1 h)
theorem K1.of {a : Addr} {H H' : Hp} (x : Same H H') : K1 a H H' := fun p o _ h => x p o h
theorem K1.at {a : Addr} {H : Hp} {o : HO} : K1 a H (upd H a o) := fun q u n e => by
  rw [upd_ne n]
  exact e
theorem K1.same {a : Addr} {H0 H H' : Hp} (x : K1 a H H') (h0 : H0 a = none) (s : Same H0 H) : Same H0 H' := fun p o h => x p o (ne_of_none h h0) (s p o h)
/-- the tuples at as tell L, each by f -/
def Tup {α : Type} (f : α → List V) (H : Hp) (as : List Addr) (L : List α) : Prop := as.length = L.length ∧ ∀ (j : Nat) (a : Addr) (p : α), as[j]? = some a → L[j]? = some p → H a = some (.tup (f p))
section
variable {α : Type} {f : α → List V} {H H' : Hp} {as : List Addr} {L : List α}
theorem Tup.nil : Tup f H [] [] := ⟨rfl, fun j a p h => by simp at h⟩
theorem Tup.k1 {a : Addr} {xs : List V} (h : Tup f H as L) (k : K1 a H H') (ha : H a = some (.lst xs)) : Tup f H' as L := ⟨h.1, fun j b p h1 h2 => by
  have h3 := h.2 j b p h1 h2
  exact k b _ (ne_of h3 ha (by intro q; cases q)) h3⟩
theorem Tup.same (h : Tup f H as L) (k : Same H H') : Tup f H' as L := ⟨h.1, fun j b p h1 h2 => k b _ (h.2 j b p h1 h2)⟩
theorem Tup.take (h : Tup f H as L) (k : Nat) : Tup f H (as.take k) (L.take k) := ⟨by rw [List.length_take, List.length_take, h.1], fun j b p h1 h2 => by
  rw [List.getElem?_take] at h1 h2
  split at h1
  · rename_i hj
    rw [if_pos hj] at h2
    exact h.2 j b p h1 h2
  · cases h1⟩
theorem Tup.snoc {a : Addr} {p : α} (h : Tup f H as L) (ha : H a = some (.tup (f p))) : Tup f H (as ++ [a]) (L ++ [p]) := ⟨by rw [List.length_append, List.length_append, h.1]; rfl, fun j b q h1 h2 => by
  by_cases hj : j < as.length
  · rw [List.getElem?_append_left hj] at h1
    rw [List.getElem?_append_left (by rw [← h.1]; exact hj)] at h2
    exact h.2 j b q h1 h2
  · rw [List.getElem?_append_right (by omega)] at h1
    rw [List.getElem?_append_right (by rw [← h.1]; omega)] at h2
    have e1 : j - as.length = 0 := by
      apply Classical.byContradiction
      intro hn
      rw [List.getElem?_eq_none (by simp; omega)] at h1
      cases h1
    rw [e1] at h1
    rw [← h.1, e1] at h2
    have : a = b := Option.some.inj h1
    have : p = q := Option.some.inj h2
    subst_vars
    exact ha⟩
theorem Tup.get (h : Tup f H as L) {j : Nat} {p : α} (hp : L[j]? = some p) : ∃ a, as[j]? = some a ∧ (as.map V.ref)[j]? = some (.ref a) ∧ H a = some (.tup (f p)) := by
  have hj : j < as.length := by
    rw [h.1]
    exact (List.getElem?_eq_some_iff.mp hp).1
  refine ⟨as[j], List.getElem?_eq_getElem hj, by rw [List.getElem?_map, List.getElem?_eq_getElem hj]; rfl, h.2 j _ p (List.getElem?_eq_getElem hj) hp⟩
theorem Tup.len (h : Tup f H as L) : (as.map V.ref).length = L.length := by rw [List.length_map, h.1]
theorem Tup.dp {K : PySem.W.Frag} {g : α → List PyData} (hg : ∀ p, DpAll K H (f p) (g p)) : ∀ {as : List Addr} {L : List α}, Tup f H as L → DpAll K H (as.map V.ref) (L.map fun p => PyData.tuple (g p))
  | [], [], _ => .nil
  | [], p :: L, h => by have := h.1; simp at this
  | a :: as, [], h => by have := h.1; simp at this
  | a :: as, p :: L, h => .cons (.tup (SqT.of (h.2 0 a p rfl rfl)) (hg p)) (Tup.dp hg ⟨by simpa using h.1, fun j b q h1 h2 => h.2 (j + 1) b q h1 h2⟩)
end
/-- a part: its stretch, and the levels at its ends -/
def part4 (s : Nat → Int) (p : Nat × Nat) : List V := [.int (p.1 : Nat), .int (p.2 : Nat), .int (s p.1), .int (s p.2)]
def pair2 (p : Nat × Nat) : List V := [.int (p.1 : Nat), .int (p.2 : Nat)]
def pairD (p : Nat × Nat) : List PyData := [.int (p.1 : Nat), .int (p.2 : Nat)]
theorem pair2_dp {K : PySem.W.Frag} {H : Hp} (p : Nat × Nat) : DpAll K H (pair2 p) (pairD p) := .cons (.int _) (.cons (.int _) .nil)
theorem len_sorted : ∀ {L : List (Nat × Nat)} {k n : Nat}, L.Pairwise (fun p q => p.1 < q.1) → (∀ p ∈ L, k ≤ p.1 ∧ p.1 < n) → L.length ≤ n - k
  | [], _, _, _, _ => by simp
  | p :: L, k, n, h, hb => by
    rw [List.pairwise_cons] at h
    have hp := hb p (List.mem_cons_self ..)
    have ih := len_sorted (k := p.1 + 1) (n := n) h.2 fun q hq => ⟨h.1 q hq, (hb q (List.mem_cons_of_mem _ hq)).2⟩
    rw [List.length_cons]
    omega
theorem RL.len {s : Nat → Int} {n : Nat} {L : List (Nat × Nat)} (h : RL s n L) : L.length ≤ n := by
  have := len_sorted (k := 0) (n := n) h.lt fun p hp => ⟨Nat.zero_le _, by
    have r := h.ripe p hp
    have := r.1.1
    have := r.2.1
    omega⟩
  omega
theorem Gd_pairs (L : List (Nat × Nat)) (h : L.length ≤ 100000) : Gd (.list (L.map fun p => PyData.tuple (pairD p))) := by
  refine .lst _ (by rw [List.length_map]; exact h) fun d hd => ?_
  obtain ⟨p, _, rfl⟩ := List.mem_map.mp hd
  refine .tup _ (by show 2 ≤ 100000; omega) fun e he => ?_
  rcases List.mem_cons.mp he with rfl | he
  · exact .int _
  · rcases List.mem_cons.mp he with rfl | he
    · exact .int _
    · cases he
theorem depth_pairs (L : List (Nat × Nat)) : PyData.depthAll (L.map fun p => PyData.tuple (pairD p)) ≤ 1 := by
  induction L with
  | nil => simp [PyData.depthAll]
  | cons p L ih =>
    have h : (PyData.tuple (pairD p)).depth = 1 := by simp [pairD, PyData.depth, PyData.depthAll]
    rw [List.map_cons, PyData.depthAll, h]
    exact Nat.max_le.mpr ⟨Nat.le_refl _, ih⟩
theorem eq_like (c : Nat) : decide (V.str (sg c) = V.str (Str.ofString "=")) = decide (c = 61) := by
  by_cases h : c = 61
  · subst h
    rfl
  · rw [decide_eq_false h]
    refine decide_eq_false fun q => h ?_
    have : S [c] = S [61] := V.str.inj q
    have := S_inj this
    exact (List.cons.inj this).1
theorem x_slT {K : PySem.W.Frag} {H : Hp} {a : Addr} {xs : List V} {lo hi : Option Int} {Q : VK} (h : SqT K H a xs) (hn : ¬ (HT.sIx xs.length 0 lo = 0 ∧ HT.sIx xs.length xs.length hi = xs.length)) (q : ∀ p, H p = none → Q (.ref p) (upd H p (.tup (cutV xs lo hi)))) :
    rSlT K (.ref a) lo hi H Q := ⟨a, xs, rfl, h, hn, q⟩
/-- a new tuple t is appended to the list of tuples at D -/
theorem tup_push {α : Type} {f : α → List V} {H0 H : Hp} {D t : Addr} {as : List Addr} {M : List α} {p : α} (hD0 : H0 D = none) (sm : Same H0 H) (hD : H D = some (.lst (as.map V.ref))) (hT : Tup f H as M) (ht : H t = none) :
    Same H0 (upd (upd H t (.tup (f p))) D (.lst (as.map V.ref ++ [.ref t]))) ∧ upd (upd H t (.tup (f p))) D (.lst (as.map V.ref ++ [.ref t])) D = some (.lst ((as ++ [t]).map V.ref)) ∧
      Tup f (upd (upd H t (.tup (f p))) D (.lst (as.map V.ref ++ [.ref t]))) (as ++ [t]) (M ++ [p]) := by
  have hne : D ≠ t := ne_of_none hD ht
  have k : K1 D H (upd (upd H t (.tup (f p))) D (.lst (as.map V.ref ++ [.ref t]))) := (K1.of (same_upd ht)).trans K1.at
  refine ⟨k.same hD0 sm, by rw [upd_same, List.map_append]; rfl, Tup.snoc (hT.k1 k hD) ?_⟩
  rw [upd_ne hne.symm, upd_same]
theorem wor_cut (g l : Int) (z : List Nat) {i j : Nat} (h : i ≤ j) : wor g l ((z.drop i).take (j - i)) = lev g l z j - lev g l z i := by
  have e : z.take j = z.take i ++ (z.drop i).take (j - i) := by
    have hj : j = i + (j - i) := by omega
    rw [hj, List.take_add, ← hj]
  unfold lev
  rw [e, wor_app]
  omega
theorem eqv_pair (a b c d : Int) : PyData.eqv (.tuple [.int a, .int b]) (.tuple [.int c, .int d]) = decide (a = c ∧ b = d) := by
  simp [PyData.eqv, PyData.eqvAll]
  by_cases h1 : a = c <;> by_cases h2 : b = d <;> simp [h1, h2]
theorem dp_pair {K : PySem.W.Frag} {H : Hp} {p : Addr} {a b : Int} (h : H p = some (.tup [.int a, .int b])) : Dp K H (.ref p) (.tuple [.int a, .int b]) := .tup (SqT.of h) (.cons (.int a) (.cons (.int b) .nil))
/-- all stretches that stand by themselves, as far as the walk has come: ahead of (bi, ei) -/
def Lex (p q : Nat × Nat) : Prop := p.1 < q.1 ∨ (p.1 = q.1 ∧ p.2 < q.2)
structure SLI (s : Nat → Int) (n bi ei : Nat) (L : List (Nat × Nat)) : Prop where
  st : ∀ p ∈ L, St s p.1 p.2 ∧ p.2 ≤ n
  all : ∀ b e, St s b e → e ≤ n → (b < bi ∨ (b = bi ∧ e < ei)) → (b, e) ∈ L
  lt : L.Pairwise Lex
  top : ∀ p ∈ L, p.1 < bi ∨ (p.1 = bi ∧ p.2 < ei)
  len : L.length ≤ bi * (n + 1) + ei
theorem SLI.zero (s : Nat → Int) (n : Nat) : SLI s n 0 1 [] := ⟨(fun p h => nomatch h), (fun b e h _ h2 => by have := h.1; omega), .nil, (fun p h => nomatch h), by simp⟩
theorem SLI.row {s : Nat → Int} {n i : Nat} {L : List (Nat × Nat)} (h : SLI s n i (n + 1) L) : SLI s n (i + 1) (i + 1 + 1) L := by
  refine ⟨h.st, fun b e hs he h2 => h.all b e hs he ?_, h.lt, fun p hp => ?_, ?_⟩
  · have := hs.1
    omega
  · have := h.top p hp
    omega
  · have := h.len
    rw [Nat.succ_mul]
    omega
theorem SLI.no {s : Nat → Int} {n i e : Nat} {L : List (Nat × Nat)} (h : SLI s n i e L) (hn : ¬ St s i e) : SLI s n i (e + 1) L := by
  refine ⟨h.st, fun b e' hs he h2 => h.all b e' hs he ?_, h.lt, fun p hp => ?_, ?_⟩
  · by_cases hz : b = i ∧ e' = e
    · obtain ⟨z1, z2⟩ := hz
      subst z1 z2
      exact absurd hs hn
    · omega
  · have := h.top p hp
    omega
  · have := h.len
    omega
theorem SLI.yes {s : Nat → Int} {n i e : Nat} {L : List (Nat × Nat)} (h : SLI s n i e L) (hy : St s i e) (he : e ≤ n) : SLI s n i (e + 1) (L ++ [(i, e)]) := by
  refine ⟨fun p hp => ?_, fun b e' hs he h2 => ?_, ?_, fun p hp => ?_, ?_⟩
  · rcases List.mem_append.mp hp with z | z
    · exact h.st p z
    · rw [List.mem_singleton.mp z]
      exact ⟨hy, he⟩
  · by_cases hz : b = i ∧ e' = e
    · rw [hz.1, hz.2]
      simp
    · exact List.mem_append.mpr (.inl (h.all b e' hs he (by omega)))
  · rw [List.pairwise_append]
    refine ⟨h.lt, by simp, fun p hp q hq => ?_⟩
    rw [List.mem_singleton.mp hq]
    exact h.top p hp
  · rcases List.mem_append.mp hp with z | z
    · have := h.top p z
      omega
    · rw [List.mem_singleton.mp z]
      exact .inr ⟨rfl, Nat.lt_succ_self _⟩
  · have := h.len
    rw [List.length_append]
    show L.length + 1 ≤ _
    omega
/-- q holds p within, and is another -/
def cont (p q : Nat × Nat) : Bool := decide (q.1 ≤ p.1) && (decide (p.2 ≤ q.2) && !decide (q = p))
def mxs (L : List (Nat × Nat)) (p : Nat × Nat) : Bool := (L.filter (cont p)).isEmpty
theorem SLI.ripe {s : Nat → Int} {n : Nat} {L : List (Nat × Nat)} (h : SLI s n n (n + 1) L) : RL s n (L.filter (mxs L)) := by
  have all : ∀ b e, St s b e → e ≤ n → (b, e) ∈ L := fun b e hs he => h.all b e hs he (by have := hs.1; omega)
  refine RL.of_lt (fun p hp => ?_) (fun b e r => ?_) ?_
  · obtain ⟨h1, h2⟩ := List.mem_filter.mp hp
    obtain ⟨h3, h4⟩ := h.st p h1
    refine ⟨h3, h4, fun b' e' hs he hb hi => ?_⟩
    apply Classical.byContradiction
    intro hn
    have hc : cont p (b', e') = true := by
      unfold cont
      rw [decide_eq_true (show (b', e').1 ≤ p.1 from hb), decide_eq_true (show p.2 ≤ (b', e').2 from hi), decide_eq_false (show ¬ (b', e') = p from fun q => hn ⟨congrArg Prod.fst q, congrArg Prod.snd q⟩)]
      rfl
    have hm : (b', e') ∈ L.filter (cont p) := List.mem_filter.mpr ⟨all b' e' hs he, hc⟩
    unfold mxs at h2
    rw [List.isEmpty_iff] at h2
    rw [h2] at hm
    cases hm
  · refine List.mem_filter.mpr ⟨all b e r.1 r.2.1, ?_⟩
    unfold mxs
    rw [List.isEmpty_iff, List.filter_eq_nil_iff]
    intro q hq hc
    unfold cont at hc
    simp only [Bool.and_eq_true, decide_eq_true_eq, Bool.not_eq_true', decide_eq_false_iff_not] at hc
    obtain ⟨h3, h4⟩ := h.st q hq
    have := r.2.2 q.1 q.2 h3 h4 hc.1 hc.2.1
    exact hc.2.2 (Prod.ext this.1 this.2)
  · refine (h.lt.filter _).imp fun {p q} hpq => ⟨?_, fun e => ?_⟩
    · rcases hpq with z | z <;> omega
    · subst e
      rcases hpq with z | z <;> omega
theorem SLI.skip {s : Nat → Int} {n i e e' : Nat} {L : List (Nat × Nat)} (h : SLI s n i e L) (hn : ∀ x, e ≤ x → ¬ St s i x) (hle : e ≤ e') : SLI s n i e' L := by
  refine ⟨h.st, fun b x hs he h2 => h.all b x hs he ?_, h.lt, fun p hp => ?_, ?_⟩
  · by_cases hz : b = i ∧ e ≤ x
    · obtain ⟨z1, z2⟩ := hz
      subst z1
      exact absurd hs (hn x z2)
    · omega
  · have := h.top p hp
    omega
  · have := h.len
    omega
/-- some stretch that stands by itself is worth as much as any two levels differ -/
theorem St.of_diff {s : Nat → Int} {i j : Nat} (hij : i < j) (h : s i < s j) : ∃ b e, i ≤ b ∧ b < e ∧ e ≤ j ∧ St s b e ∧ s j - s i ≤ s e - s b := by
  obtain ⟨e, e1, e2, e3, e4⟩ := argmax_first s i (j - i)
  have he := e4 j (by omega) (by omega)
  have hie : i ≠ e := fun q => by
    rw [← q] at he
    omega
  obtain ⟨b, b1, b2, b3, b4⟩ := argmin_last s i (e - i)
  have hb := b4 i (Nat.le_refl _) (by omega)
  have hbe : b ≠ e := fun q => by
    rw [q] at hb
    have := e3 i (Nat.le_refl _) (by omega)
    omega
  exact ⟨b, e, b1, by omega, by omega, ⟨by omega, fun x x1 x2 => b3 x x1 (by omega), fun x x1 x2 => e3 x (by omega) x2⟩, by omega⟩
theorem RL.best {s : Nat → Int} {n : Nat} {L : List (Nat × Nat)} (h : RL s n L) {i j : Nat} (hij : i < j) (hj : j ≤ n) (hd : s i < s j) : ∃ p ∈ L, s j - s i ≤ s p.2 - s p.1 := by
  obtain ⟨b, e, h1, h2, h3, h4, h5⟩ := St.of_diff hij hd
  obtain ⟨b', e', r, r1, r2⟩ := ripe_over (n := n) h4 (by omega)
  refine ⟨(b', e'), h.all b' e' r, ?_⟩
  have k1 : s b' ≤ s b := by
    by_cases hz : b' = b
    · subst hz
      exact Int.le_refl _
    · have := r.1.2.1 b (by omega) (by omega)
      omega
  have k2 : s e ≤ s e' := by
    by_cases hz : e = e'
    · subst hz
      exact Int.le_refl _
    · have := r.1.2.2 e (by omega) (by omega)
      omega
  show s j - s i ≤ s e' - s b'
  omega
theorem lev_add (g l : Int) {z : List Nat} {i : Nat} (h : i < z.length) : wor g l [z[i]] = lev g l z (i + 1) - lev g l z i := by
  rw [lev_succ g l h]
  show (if z[i] = 61 then g else -l) + 0 = _
  omega
end Sr

namespace L2
open PySem PySem.Spec PyProof.Rows
/-! ### an exception that a suite holds: isinstance of it, with what must be known of it told in the reading -/
/-- what stands of the exception at a: its class is own class D, its dict is tracked -/
def Caught (K : PySem.W.Frag) (cls : Value) (d : Option Addr) (H : Hp) (D : Addr) : Prop :=
  cls = .ref D ∧ ExcC K D ∧ (d = none ∨ ∃ dd fs, d = some dd ∧ H dd = some (.xd fs))
theorem caught_at {X : Cx} {a D : Addr} {oe : Obj} {cls : Value} {d : Option Addr} {pn pins : List (Addr × Obj)} {σ : St} {H : Hp} {s : Shared} (hz : Zc cls d oe) (hf : ∃ vs, oe.data = .fields vs)
    (I : Inv (X.suite a ((a, oe) :: pn)) pins σ H s) (C : Caught X.K cls d H D) : ∃ od, PySem.W.InstAt s.heap a oe D od := by
  obtain ⟨ec, _, hd⟩ := C
  obtain ⟨hget, _⟩ := I.pin (a, oe) (List.mem_append_left _ List.mem_cons_self)
  obtain ⟨vs, hv⟩ := hf
  subst ec
  obtain ⟨zc, zd⟩ := hz
  have nc : PySem.W.notCls oe := by
    unfold PySem.W.notCls
    rw [hv]
  rcases hd with e | ⟨dd, fs, e, hH⟩
  · exact ⟨none, hget, zc, nc, by rw [zd, e]; trivial⟩
  · have k : ObjOk X.prog X.w H s.heap dd (.xd fs) := I.hok dd _ hH
    obtain ⟨mA, hns, _⟩ := k
    obtain ⟨od, ho, _⟩ := lookIn_ns hns
    exact ⟨some od, hget, zc, nc, by rw [zd, e]; exact ho⟩
def rIsC (K : PySem.W.Frag) (a : Addr) (cls : Value) (d : Option Addr) : List V → Hp → VK → Prop := fun xs H Q =>
  ∃ (D : Addr) (c : V) (u : Value) (b : Bool), Caught K cls d H D ∧ xs = [.ref a, c] ∧ ClsV c u ∧ PySem.W.kitOne K (.ref D) u = some b ∧ Q (.bl b) H
theorem call_isC {X : Cx} {a : Addr} {oe : Obj} {cls : Value} {d : Option Addr} {pn : List (Addr × Obj)} (hz : Zc cls d oe) (hf : ∃ vs, oe.data = .fields vs) : CallR (X.suite a ((a, oe) :: pn)) (.builtin "isinstance") (rIsC X.K a cls d) := by
  intro pins s σ H xs us Q I r h
  obtain ⟨D, c, u, b, C, rfl, k, e, q⟩ := h
  obtain ⟨u1, u2, rfl, r1, r2⟩ := vals2 r
  cases r1
  have e2 := k.eq r2
  subst e2
  obtain ⟨od, J⟩ := caught_at hz hf I C
  have F := C.2.1
  exact PySem.W.kia_one (PySem.W.kitx_exc (by obtain ⟨cd, hc, _⟩ := PySem.W.any_some F.hd; rw [hc]; rfl) F.hg F.hk F.hs F.ha F.hn F.ht F.hm) I.kIn J e (fun z => nomatch z) fun tk => ⟨.bl b, H, I.kept (t' := tk) fun _ _ z => z, rfl, q⟩
def rIsCT (K : PySem.W.Frag) (a : Addr) (cls : Value) (d : Option Addr) : List V → Hp → VK → Prop := fun xs H Q =>
  ∃ (D tp : Addr) (cs : List V) (us : List Value) (b : Bool), Caught K cls d H D ∧ xs = [.ref a, .ref tp] ∧ H tp = some (.tup cs) ∧ Paired ClsV cs us ∧ PySem.W.kitAny K (.ref D) us = some b ∧ Q (.bl b) H
theorem call_isCT {X : Cx} {a : Addr} {oe : Obj} {cls : Value} {d : Option Addr} {pn : List (Addr × Obj)} (hz : Zc cls d oe) (hf : ∃ vs, oe.data = .fields vs) : CallR (X.suite a ((a, oe) :: pn)) (.builtin "isinstance") (rIsCT X.K a cls d) := by
  intro pins s σ H xs us Q I r h
  obtain ⟨D, tp, cs, ws, b, C, rfl, hT, k, e, q⟩ := h
  obtain ⟨u1, u2, rfl, r1, r2⟩ := vals2 r
  cases r1
  cases (show u2 = Value.ref tp from r2)
  obtain ⟨od, J⟩ := caught_at hz hf I C
  have F := C.2.1
  obtain ⟨_, its, rv, o, h1, h2, n, h3⟩ := (show ObjOk X.prog X.w H s.heap tp (.tup cs) from I.hok tp _ hT)
  have e3 := ClsV.all k rv
  subst e3
  obtain ⟨oc, oo, dt, sl⟩ := o
  dsimp only at h2 h3
  cases h2
  cases h3
  exact PySem.W.kia_tup (PySem.W.kitx_exc (by obtain ⟨cd, hc, _⟩ := PySem.W.any_some F.hd; rw [hc]; rfl) F.hg F.hk F.hs F.ha F.hn F.ht F.hm) I.kIn J h1 e (fun z => nomatch z) fun tk => ⟨.bl b, H, I.kept (t' := tk) fun _ _ z => z, rfl, q⟩
/-- what is known of two own classes: D is under C or not -/
theorem kit_own {K : PySem.W.Frag} {D C : Addr} {b : Bool} (hC : PySem.W.hasDictIn K C = true) (ht : PySem.W.typeIn K (.ref C) = some (.type "type")) (hb : PySem.W.subIn K (.ref D) (.ref C) = some b) (hD : PySem.W.subIn K (.ref D) (.ref D) = some true) : PySem.W.kitOne K (.ref D) (.ref C) = some b := by
  unfold PySem.W.kitOne
  by_cases e : D = C
  · subst e
    rw [if_pos (by simp)]
    exact hD.symm.trans hb
  · rw [if_neg (by simpa using e)]
    obtain ⟨cd, hc, _⟩ := PySem.W.any_some hC
    show (if ((PySem.W.clsIn K C).isSome && PySem.W.typeIn K (.ref C) == some (.type "type")) = true then PySem.W.subIn K (.ref D) (.ref C) else none) = some b
    rw [if_pos (by rw [hc, ht]; rfl)]
    exact hb
theorem kit_typ {K : PySem.W.Frag} {D : Addr} {T : String} {b : Bool} (hT : PySem.W.kitMeta T = true) (hb : PySem.W.subIn K (.ref D) (.type T) = some b) : PySem.W.kitOne K (.ref D) (.type T) = some b := by
  unfold PySem.W.kitOne
  rw [if_neg (by simp)]
  show (if PySem.W.kitMeta T = true then PySem.W.subIn K (.ref D) (.type T) else none) = some b
  rw [if_pos hT]
  exact hb
/-! ### list.count of flat things -/
def rCntF (K : PySem.W.Frag) : V → List V → Hp → VK → Prop := fun x xs H Q => ∃ (p : Addr) (ys : List V) (y : V), x = .ref p ∧ xs = [y] ∧ SqL K H p ys ∧ flatV y = true ∧ ys.all flatV = true ∧ Q (.int ((ys.countP fun z => eqV z y) : Nat)) H
theorem cnt_eqU {y : V} : ∀ {ys : List V} {us : List Value}, Vals ys us → ys.all flatV = true → us.countP (eqU y) = ys.countP fun z => eqV z y
  | _, _, .nil, _ => rfl
  | z :: ys, u :: us, .cons r t, f => by
    rw [List.all_cons, Bool.and_eq_true] at f
    rw [List.countP_cons, List.countP_cons, cnt_eqU t f.2, eqU_of r f.1]
theorem mt_countF {X : Cx} : MtR X "list.count" (rCntF X.K) := by
  intro pins s σ H x xs v us Q I rx rxs h
  obtain ⟨p, ys, y, rfl, rfl, hs, fy, fys, q⟩ := h
  cases rx
  obtain ⟨u, rfl, ru⟩ := rxs.one
  obtain ⟨its, rv, ⟨⟨cls, dd, data, sl⟩, n, ho, hc, hdn, hd⟩, hlen⟩ := I.list hs
  dsimp only at hc hd
  cases hc
  cases hd
  refine call_meets PySem.F.slot_list_count ⟨_, ho, rfl⟩ PySem.F.entry_list_count (PySem.F.args_list_count_2 _ _)
    (SeqAt.list_countAt p its.toArray n dd sl u (eqU y)) ⟨ho, fun z hz => mem_eqAt ru fy rv fys z (by simpa using hz), ?_⟩
  refine ⟨.int ((ys.countP fun z => eqV z y) : Nat), H, I.tok _, ⟨s.toks, ?_⟩, q⟩
  have ec := cnt_eqU (y := y) rv fys
  show Value.int ((its.toArray.toList.countP (eqU y) : Nat) : Int) s.toks = Value.int ((ys.countP fun z => eqV z y : Nat) : Int) s.toks
  rw [show its.toArray.toList = its from rfl, ec]
end L2
namespace L2
open PySem PySem.Spec PyProof.Rows
theorem x_callS {sp : Sp} {E : St → XK} {t : TA} {σ : St} {H : Hp} {Q : VK} (q : t σ H fun vs H1 => sp vs H1 Q (E σ)) : tCallS sp E t σ H Q := q
end L2
namespace L2
open PySem PySem.Spec PyProof.Rows
section
variable {X : Cx} {K : PySem.W.Frag} {T id : String} {name : Str} {o e : Expr} {es : List Expr} {to : TE} {t : TA} {apos cpos : Pos} {r : V → List V → Hp → VK → Prop}
/-- a built-in's method, the written part named -/
theorem pe_bmK (hK : X.K = K) (pa : PlainAttrs T) (slot : Slot T name id) (hty : typeOf (.builtin id) = pure (.type "method_descriptor")) (hm : MtR X id r) (ho : PE X o to) (ha : PA X (e :: es) t)
    (h1 : attributeBase o name X.env (eval o X.env) = eval o X.env := by rfl)
    (h2 : ((backTo cpos (starEach (e :: es) X.env)).all (fun x => !x.1) && (backToKw cpos (keywordEach [] X.env)).all (fun x => x.1.isSome) && decide ((e :: es).length + ([] : List Keyword).length + (if ([] : List Keyword).isEmpty then 0 else 1) < 30)) = true := by rfl)
    (h3 : (apos.endLine == cpos.line) = true := by rfl) (h4 : starEach (e :: es) X.env = (false, eval e X.env) :: starEach es X.env := by rfl) (h5 : (backTo cpos (starEach es X.env)).any (·.1) = false := by rfl) :
    PE X (.Call (.Attribute o name apos) (e :: es) [] cpos) (tBM K T r to t) := by
  subst hK
  exact pe_bm pa slot hty hm ho ha h1 h2 h3 h4 h5
end
end L2
namespace L2
open PySem PySem.Spec PyProof.Rows
section
variable {K : PySem.W.Frag} {a D tp p : Addr} {cls : Value} {d : Option Addr} {H : Hp} {Q : VK} {c y : V} {u : Value} {us : List Value} {cs ys : List V} {b : Bool} {n : Nat}
theorem x_isC (C : Caught K cls d H D) (k : ClsV c u) (e : PySem.W.kitOne K (.ref D) u = some b) (q : Q (.bl b) H) : rIsC K a cls d [.ref a, c] H Q := ⟨D, c, u, b, C, rfl, k, e, q⟩
theorem x_isCT (C : Caught K cls d H D) (h : H tp = some (.tup cs)) (k : Paired ClsV cs us) (e : PySem.W.kitAny K (.ref D) us = some b) (q : Q (.bl b) H) : rIsCT K a cls d [.ref a, .ref tp] H Q := ⟨D, tp, cs, us, b, C, rfl, h, k, e, q⟩
theorem x_cntF (h : SqL K H p ys) (f : flatV y = true) (g : ys.all flatV = true) (e : (ys.countP fun z => eqV z y) = n) (q : Q (.int n) H) : rCntF K (.ref p) [y] H Q := ⟨p, ys, y, rfl, rfl, h, f, g, by rw [e]; exact q⟩
theorem x_indexF {j : Nat} {z : V} (h : SqL K H p ys) (f : flatV y = true) (g : ys.all flatV = true) (e : ys[j]? = some z) (e1 : eqV z y = true) (e2 : ∀ m z', m < j → ys[m]? = some z' → eqV z' y = false) (q : Q (.int j) H) : rIndex K (.ref p) [y] H Q := ⟨p, ys, y, j, z, rfl, rfl, h, f, g, e, e1, e2, q⟩
end
end L2

namespace L2
open PySem PySem.Spec PyProof.Rows
/-! ### text * int; is of truth values -/
theorem foldl_cps (c : Array Nat) : ∀ (n : Nat) (acc : Array Nat), ((List.replicate n c).foldl (· ++ ·) acc).toList = acc.toList ++ (List.replicate n c.toList).flatten
  | 0, acc => by simp
  | n + 1, acc => by
    rw [List.replicate_succ, List.foldl_cons, foldl_cps c n, List.replicate_succ, List.flatten_cons, Array.toList_append, List.append_assoc]
def rMulS : R2 := fun x y H Q => ∃ (z : Str) (n : Int), x = .str z ∧ y = .int n ∧ n ≤ 1000 ∧ -1000 ≤ n ∧ z.length ≤ 1000 ∧ Q (.str ⟨((List.replicate n.toNat z.cps.toList).flatten).toArray⟩) H
theorem rep_le (z : List Nat) (n : Nat) : ((List.replicate n z).flatten).length = n * z.length := by
  induction n with
  | zero => simp
  | succ n ih => rw [List.replicate_succ, List.flatten_cons, List.length_append, ih, Nat.succ_mul, Nat.add_comm]
theorem op_mulS {X : Cx} : OpR X (binaryOp .Mult) rMulS := by
  intro pins s σ H x y v u Q I rx ry h
  obtain ⟨z, n, rfl, rfl, h1, h2, hz, q⟩ := h
  obtain ⟨t, rfl⟩ := rx
  obtain ⟨t', rfl⟩ := ry
  have hlen : z.cps.toList.length = z.length := by simp [Str.length]
  have hm : z.length * n.toNat ≤ 1000 * 1000 := Nat.mul_le_mul hz (by omega)
  refine P.mul_str ?_ (fun h3 h4 => ?_) (fun h3 h4 => ?_) ?_
  · rw [decide_eq_false (by omega), decide_eq_false (by omega)]
    rfl
  · have h5 : (1000 : Int) ≤ (2 ^ 63 - 1) / n := Int.le_ediv_of_mul_le (by omega) (by omega)
    omega
  · unfold Builtin.Str.tooLong
    exact decide_eq_false (by have : (1000000 : Nat) ≤ sizeLine := by decide
                              omega)
  · by_cases h3 : n < 1
    · rw [if_pos h3]
      have e0 : n.toNat = 0 := by omega
      rw [e0] at q
      exact ⟨by decide, .str _, H, I.tok _, ⟨_, rfl⟩, q⟩
    · rw [if_neg h3]
      have ef : (⟨(List.replicate n.toNat z.cps).foldl (· ++ ·) #[]⟩ : Str) = ⟨((List.replicate n.toNat z.cps.toList).flatten).toArray⟩ := by
        have e := foldl_cps z.cps n.toNat #[]
        have e2 : (List.replicate n.toNat z.cps).foldl (· ++ ·) #[] = ((List.replicate n.toNat z.cps.toList).flatten).toArray := by
          apply Array.toList_inj.mp
          rw [e]
          simp
        rw [e2]
      by_cases h4 : (n == 1 || z.length == 0) = true
      · rw [if_pos h4]
        have ez : (⟨((List.replicate n.toNat z.cps.toList).flatten).toArray⟩ : Str) = z := by
          rcases Bool.or_eq_true _ _ |>.mp h4 with h5 | h5
          · have : n = 1 := by simpa using h5
            subst this
            show (⟨((List.replicate 1 z.cps.toList).flatten).toArray⟩ : Str) = z
            simp
          · have h6 : z.length = 0 := by simpa using h5
            have h7 : z.cps.toList = [] := List.length_eq_zero_iff.mp (by rw [hlen]; exact h6)
            apply TL.ext_tl
            show ((List.replicate n.toNat z.cps.toList).flatten) = z.cps.toList
            rw [h7]
            simp
        rw [ez] at q
        exact ⟨.str z, H, I, ⟨t, rfl⟩, q⟩
      · rw [if_neg h4, ef]
        refine ⟨?_, .str _, H, I.tok _, ⟨_, rfl⟩, q⟩
        show ((List.replicate n.toNat z.cps.toList).flatten).toArray.size ≤ sizeLine
        rw [List.size_toArray, rep_le, hlen]
        have : (1000000 : Nat) ≤ sizeLine := by decide
        have := Nat.mul_comm n.toNat z.length
        omega
theorem x_mulS {z : List Nat} {n : Int} {H : Hp} {Q : VK} (h1 : n ≤ 1000) (h2 : -1000 ≤ n) (hz : z.length ≤ 1000) (q : Q (.str (Sr.S (List.replicate n.toNat z).flatten)) H) : rMulS (.str (Sr.S z)) (.int n) H Q :=
  ⟨Sr.S z, n, rfl, rfl, h1, h2, by rw [Sr.len_S]; exact hz, q⟩
theorem x_isBl {a b : Bool} {H : Hp} {Q : VK} (q : Q (.bl (decide (a = b))) H) : rIsB (.bl a) (.bl b) H Q := ⟨a, b, rfl, rfl, q⟩
theorem x_notBl {a b : Bool} {H : Hp} {Q : VK} (q : Q (.bl (!decide (a = b))) H) : rNotB (.bl a) (.bl b) H Q := ⟨a, b, rfl, rfl, q⟩
section
variable {X : Cx} {K : PySem.W.Frag} {σ : St} {H : Hp} {Q : VK} {ta : TE} {t : TA}
theorem x_make {C : Addr} {sp : Sp} {dvs : List V} {E : XK} (q : t σ H fun vs H1 => ∀ x dx, H1 x = none → H1 dx = none → dx ≠ x → sp (.ref x :: (vs ++ dvs)) (upd (upd H1 dx (.own x)) x (.ins C dx [])) (fun v H2 => v = .non ∧ Q (.ref x) H2) E) : tMake C sp dvs E t σ H Q := q
theorem x_meth {C : Addr} {m : Str} {sp : Sp} {dvs : List V} {E : XK} (q : ta σ H fun x H1 => ∃ a dx fs, x = .ref a ∧ H1 a = some (.ins C dx fs) ∧ fs.lookup m = none ∧ t σ H1 fun vs H2 => sp (x :: (vs ++ dvs)) H2 Q E) : tMeth C m sp dvs E ta t σ H Q := q
end
end L2
namespace L2
open PySem PySem.Spec PyProof.Rows
theorem x_notT {K : PySem.W.Frag} {ta : TE} {σ : St} {H : Hp} {Q : VK} (q : ta σ H fun x H1 => ∃ k, TruV K x H1 k ∧ Q (.bl (!k)) H1) : tNotT K ta σ H Q := q
end L2

namespace Sr
open PySem PySem.Spec PyProof.Rows L2
/-! ### seeds: 35 a pick, 45 a gap; likes: 61 like, 47 unlike -/
def matB : List Nat → List Nat → Bool
  | [], _ => true
  | _ :: _, [] => false
  | c :: s, d :: z => !(c == 35 && d == 47) && matB s z
/-- a seed fits in likes at a place, any whole number -/
def fitsB (sd z : List Nat) (p : Int) : Bool := decide (0 ≤ p) && matB sd (z.drop p.toNat)
def seededB (sds : List (List Nat)) (z : List Nat) : Bool := sds.any fun sd => (List.range z.length).any fun p => fitsB sd z (p : Int)
theorem matB_iff : ∀ {sd z : List Nat}, matB sd z = true ↔ sd.length ≤ z.length ∧ ∀ k, k < sd.length → ¬ (sd[k]? = some 35 ∧ z[k]? = some 47)
  | [], z => by simp [matB]
  | c :: s, [] => by simp [matB]
  | c :: s, d :: z => by
    rw [matB, Bool.and_eq_true, matB_iff]
    constructor
    · rintro ⟨h1, h2, h3⟩
      refine ⟨by simpa using h2, fun k hk => ?_⟩
      cases k with
      | zero =>
        rintro ⟨e1, e2⟩
        have e1' : c = 35 := Option.some.inj e1
        have e2' : d = 47 := Option.some.inj e2
        subst e1' e2'
        simp at h1
      | succ k =>
        have := h3 k (by simpa using hk)
        simpa using this
    · rintro ⟨h2, h3⟩
      refine ⟨?_, by simpa using h2, fun k hk => ?_⟩
      · have := h3 0 (by simp)
        simp only [List.getElem?_cons_zero, Option.some.injEq] at this
        by_cases e1 : c = 35
        · by_cases e2 : d = 47
          · exact absurd ⟨e1, e2⟩ this
          · simp [e2]
        · simp [e1]
      · have := h3 (k + 1) (by simpa using hk)
        simpa using this
theorem fitsB_iff {sd z : List Nat} {p : Int} (h1 : 1 ≤ sd.length) : fitsB sd z p = true ↔ 0 ≤ p ∧ p + sd.length ≤ z.length ∧ ∀ k, k < sd.length → ¬ (sd[k]? = some 35 ∧ z[p.toNat + k]? = some 47) := by
  unfold fitsB
  rw [Bool.and_eq_true, decide_eq_true_eq, matB_iff, List.length_drop]
  constructor
  · rintro ⟨h2, h3, h4⟩
    refine ⟨h2, by omega, fun k hk => ?_⟩
    have := h4 k hk
    rw [List.getElem?_drop] at this
    exact this
  · rintro ⟨h2, h3, h4⟩
    refine ⟨h2, by omega, fun k hk => ?_⟩
    have := h4 k hk
    rw [List.getElem?_drop]
    exact this
/-- what a seed is -/
structure Sd (n : Nat) (sd : List Nat) : Prop where
  one : 1 ≤ sd.length
  most : sd.length ≤ n
  all : ∀ c ∈ sd, c = 35 ∨ c = 45
  first : sd[0]? = some 35
  last : sd[sd.length - 1]? = some 35
theorem Sd.wide {n m : Nat} {sd : List Nat} (h : Sd n sd) (hm : n ≤ m) : Sd m sd := ⟨h.one, Nat.le_trans h.most hm, h.all, h.first, h.last⟩
theorem eq_sign (c d : Nat) (x : Str) (hx : x = sg d) : decide (V.str (sg c) = V.str x) = decide (c = d) := by
  subst hx
  by_cases h : c = d
  · subst h
    rw [decide_eq_true rfl, decide_eq_true rfl]
  · rw [decide_eq_false h]
    refine decide_eq_false fun q => h ?_
    have : S [c] = S [d] := V.str.inj q
    exact (List.cons.inj (S_inj this)).1
/-- a list of ints is kept by a filter over a range -/
theorem range_filter_empty {f : Nat → Bool} {n : Nat} : ((List.range n).filter f).isEmpty = true ↔ ∀ k, k < n → ¬ f k = true := by
  rw [List.isEmpty_iff, List.filter_eq_nil_iff]
  exact ⟨fun h k hk => h k (List.mem_range.mpr hk), fun h k hk => h k (List.mem_range.mp hk)⟩
theorem range_filter_snoc (f : Nat → Bool) (n : Nat) : (List.range (n + 1)).filter f = (List.range n).filter f ++ if f n = true then [n] else [] := by
  rw [List.range_succ, List.filter_append, List.filter_cons]
  rfl
theorem filter_len_le (f : Nat → Bool) (n : Nat) : ((List.range n).filter f).length ≤ n := by
  have := List.length_filter_le f (List.range n)
  rw [List.length_range] at this
  exact this
/-- a comprehension over a range that keeps its own ints: a turn -/
theorem flt_yes {H0 H : Hp} {D : Addr} {f : Nat → Bool} {i : Nat} (hn : H0 D = none) (sm : Same H0 H) (hD : H D = some (.lst (((List.range i).filter f).map fun p => V.int (p : Nat)))) (hi : i ≤ 1000000) (hf : f i = true) {v : V} (hv : v = V.int (i : Nat)) :
    ∃ acc, H D = some (.lst acc) ∧ acc.length < sizeLine ∧ (Same H0 (upd H D (.lst (acc ++ [v]))) ∧ upd H D (.lst (acc ++ [v])) D = some (.lst (((List.range (i + 1)).filter f).map fun p => V.int (p : Nat)))) := by
  refine ⟨_, hD, ?_, fun b x e => ?_, ?_⟩
  · rw [List.length_map]
    exact Nat.lt_of_le_of_lt (Nat.le_trans (filter_len_le f i) hi) (by decide)
  · rw [upd_ne (ne_of_none e hn)]
    exact sm b x e
  · rw [upd_same, range_filter_snoc, if_pos hf, List.map_append, hv]
    rfl
theorem flt_no {H0 H : Hp} {D : Addr} {f : Nat → Bool} {i : Nat} (sm : Same H0 H) (hD : H D = some (.lst (((List.range i).filter f).map fun p => V.int (p : Nat)))) (hf : ¬ f i = true) :
    Same H0 H ∧ H D = some (.lst (((List.range (i + 1)).filter f).map fun p => V.int (p : Nat))) := by
  refine ⟨sm, ?_⟩
  rw [range_filter_snoc, if_neg hf, List.append_nil]
  exact hD
theorem map_int_nat (l : List Nat) : (l.map fun p => V.int (p : Nat)) = (l.map fun p => ((p : Nat) : Int)).map V.int := by rw [List.map_map]; rfl
theorem isEmpty_map {α β : Type} (f : α → β) (l : List α) : (l.map f).isEmpty = l.isEmpty := by cases l <;> rfl
/-- .. == [] of such a list -/
theorem eqD_nil {K : PySem.W.Frag} {H : Hp} {D p : Addr} {cs : List Int} (hD : H D = some (.lst (cs.map V.int))) (hp : H p = some (.lst [])) {Q : VK} (q : Q (.bl cs.isEmpty) H) : rEqD K (.ref D) (.ref p) H Q :=
  ⟨.list (cs.map PyData.int), .list [], .lst (SqL.of hD) (dp_ints _), .lst (SqL.of hp) .nil, shaped_ints _, by decide +kernel, by rw [eqv_ints_nil]; exact q⟩
theorem neD_nil {K : PySem.W.Frag} {H : Hp} {D p : Addr} {cs : List Int} (hD : H D = some (.lst (cs.map V.int))) (hp : H p = some (.lst [])) {Q : VK} (q : Q (.bl (!cs.isEmpty)) H) : rNeD K (.ref D) (.ref p) H Q :=
  ⟨.list (cs.map PyData.int), .list [], .lst (SqL.of hD) (dp_ints _), .lst (SqL.of hp) .nil, shaped_ints _, by decide +kernel, by rw [eqv_ints_nil]; exact q⟩
/-- texts as values -/
def strV (z : List Nat) : V := .str (S z)
end Sr
namespace Sr
theorem filter_any {α : Type} (f : α → Bool) : ∀ l : List α, (!(l.filter f).isEmpty) = l.any f
  | [] => rfl
  | x :: l => by
    rw [List.filter_cons, List.any_cons, ← filter_any f l]
    by_cases h : f x = true
    · rw [if_pos h, h]
      rfl
    · rw [if_neg h, Bool.eq_false_iff.mpr h, Bool.false_or]
end Sr
namespace Sr
open PySem PySem.Spec PyProof.Rows L2
/-! ### lists of texts as data -/
def strD (z : List Nat) : PyData := .str (S z)
theorem dp_strs {K : PySem.W.Frag} {H : Hp} : ∀ l : List (List Nat), DpAll K H (l.map strV) (l.map strD)
  | [] => .nil
  | c :: cs => .cons (.str _) (dp_strs cs)
theorem strOk_S {z : List Nat} (h : ∀ c ∈ z, c < 1114112) : PyData.strOk (S z) = true := by
  unfold PyData.strOk S
  rw [Array.all_eq_true']
  intro c hc
  exact decide_eq_true (h c (by simpa using hc))
def Cd (l : List (List Nat)) : Prop := ∀ z ∈ l, ∀ c ∈ z, c < 1114112
theorem lay_strs : ∀ {cs : List (List Nat)}, Cd cs → PyData.canLayAll0 (cs.map strD) = true
  | [], _ => by simp [PyData.canLayAll0]
  | c :: cs, hc => by
    have h := lay_strs (cs := cs) fun z hz => hc z (List.mem_cons_of_mem _ hz)
    rw [List.map_cons]
    simp only [strD, PyData.canLayAll0, PyData.canLay0, Bool.and_eq_true]
    exact ⟨strOk_S (hc c List.mem_cons_self), h⟩
theorem Cd.sds {m : Nat} {l : List (List Nat)} (h : ∀ sd ∈ l, Sd m sd) : Cd l := fun z hz c hc => by
  rcases (h z hz).all c hc with e | e <;> omega
theorem depth_strs : ∀ cs : List (List Nat), PyData.depthAll (cs.map strD) ≤ 1
  | [] => by simp [PyData.depthAll]
  | c :: cs => by
    have h := depth_strs cs
    simp [strD, PyData.depthAll, PyData.depth] at h ⊢
    omega
theorem shaped_strs {cs : List (List Nat)} (hc : Cd cs) : SeqAt.shaped (.list (cs.map strD)) = true := by
  unfold SeqAt.shaped
  rw [Bool.and_eq_true]
  refine ⟨lay_strs hc, decide_eq_true ?_⟩
  have h := depth_strs cs
  simp only [PyData.depth]
  omega
theorem eqv_strs_same {l : List (List Nat)} (hl : Cd l) : PyData.eqv (.list (l.map strD)) (.list (l.map strD)) = true := SeqAt.eqv_refl _ (lay_strs hl)
theorem ne_strs_same {K : PySem.W.Frag} {H : Hp} {a b : Addr} {l : List (List Nat)} (hl : Cd l) (ha : SqL K H a (l.map strV)) (hb : SqL K H b (l.map strV)) {Q : VK} (q : Q (.bl false) H) : rNeD K (.ref a) (.ref b) H Q :=
  ⟨.list (l.map strD), .list (l.map strD), .lst ha (dp_strs l), .lst hb (dp_strs l), shaped_strs hl, shaped_strs hl, by rw [eqv_strs_same hl]; exact q⟩
end Sr
namespace Sr
def ulK (sd z : List Nat) (p : Nat) (k : Nat) : Bool := decide (sd[k]? = some 35) && decide (z[p + k]? = some 47)
def ulL (sd z : List Nat) (p : Nat) : List Nat := (List.range sd.length).filter (ulK sd z p)
end Sr

namespace Sr
open PySem PySem.Spec PyProof.Rows L2
/-! ### sorted of tuples of data, any number -/
def rSortD (K : PySem.W.Frag) : List V → Hp → VK → Prop := fun vs H Q => ∃ (α : Type) (a : Addr) (as : List Addr) (L : List α) (f : α → List V) (g : α → List PyData), vs = [.ref a] ∧ SqL K H a (as.map V.ref) ∧ Tup f H as L ∧ (∀ p, DpAll K H (f p) (g p)) ∧
  PySem.W.AllAlike (L.map fun p => PyData.tuple (g p)) ∧ (∀ p ∈ L, g p ≠ []) ∧ (∀ p ∈ L, (PyData.tuple (g p)).depth ≤ 60) ∧
  ∀ (D : Addr) (as' : List Addr), H D = none → Tup f H as' (L.mergeSort (PySem.W.dataLe false fun p => PyData.tuple (g p))) → Q (.ref D) (upd H D (.lst (as'.map V.ref)))
theorem refs_of : ∀ {as : List Addr} {us : List Value}, Vals (as.map V.ref) us → us = as.map Value.ref
  | [], _, h => by
    cases h
    rfl
  | a :: as, _, h => by
    cases h with
    | cons h1 h2 =>
      have e1 : _ = Value.ref a := h1
      rw [e1, refs_of h2]
      rfl
theorem vals_refs : ∀ as : List Addr, Vals (as.map V.ref) (as.map Value.ref)
  | [] => .nil
  | a :: as => .cons rfl (vals_refs as)
theorem each_tup {α : Type} {f : α → List V} {H : Hp} : ∀ {as : List Addr} {L : List α}, Tup f H as L → PySem.W.EachIs (fun (v : Value) (p : α) => ∃ t, v = .ref t ∧ H t = some (.tup (f p))) (as.map Value.ref) L
  | [], [], _ => .nil
  | [], p :: L, h => by have := h.1; simp at this
  | a :: as, [], h => by have := h.1; simp at this
  | a :: as, p :: L, h => .cons ⟨a, rfl, h.2 0 a p rfl rfl⟩ (each_tup ⟨by simpa using h.1, fun j b q h1 h2 => h.2 (j + 1) b q h1 h2⟩)
theorem tup_each {α : Type} {f : α → List V} {H : Hp} : ∀ {us : List Value} {L : List α}, PySem.W.EachIs (fun (v : Value) (p : α) => ∃ t, v = .ref t ∧ H t = some (.tup (f p))) us L → ∃ as, us = as.map Value.ref ∧ Tup f H as L
  | [], [], _ => ⟨[], rfl, Tup.nil⟩
  | u :: us, p :: L, h => by
    cases h with
    | cons h1 h2 =>
      obtain ⟨t, rfl, ht⟩ := h1
      obtain ⟨as, rfl, hT⟩ := tup_each h2
      refine ⟨t :: as, rfl, by rw [List.length_cons, List.length_cons, hT.1], fun j b q k1 k2 => ?_⟩
      cases j with
      | zero =>
        have e1 : t = b := Option.some.inj k1
        have e2 : p = q := Option.some.inj k2
        subst e1 e2
        exact ht
      | succ j => exact hT.2 j b q k1 k2
theorem cr_sortD {X : Cx} (hu : X.A.units + 64 < cLine) : CallR X (.builtin "sorted") (rSortD X.K) := by
  intro pins s σ H vs us Q I r h
  obtain ⟨α, a, as, L, f, g, rfl, hs, hT, hg, hal, hne, hdep, q⟩ := h
  obtain ⟨its, rv, hl, hz⟩ := I.list hs
  obtain ⟨u, rfl, ru⟩ := vals1 r
  obtain rfl : u = Value.ref a := ru
  obtain rfl := refs_of rv
  have eR := each_tup hT
  have hlen : L.length ≤ sizeLine := by
    rw [← hT.1]
    rw [List.length_map] at hz
    exact hz
  refine PySem.W.sorted_data (enc := fun p => PyData.tuple (g p)) hl.isList eR (eR.mono fun v p h => ?_) hal (.inl fun d hd => ?_) hlen (fun p hp => ?_) fun out ho hout => ?_
  · obtain ⟨t, rfl, ht⟩ := h
    exact Dp.reads I (.tuple (g p)) (.ref t) (.ref t) (.tup (SqT.of ht) (hg p)) rfl
  · obtain ⟨p, hp, rfl⟩ := List.mem_map.mp hd
    cases hgp : g p with
    | nil => exact absurd hgp (hne p hp)
    | cons x xs => exact ⟨x, xs, rfl⟩
  · have := hdep p hp
    show X.A.units + 2 + (PyData.tuple (g p)).depth < cLine
    omega
  · obtain ⟨as', rfl, hT'⟩ := tup_each hout
    obtain ⟨e, he⟩ := PyProof.Rows.sortedAll_at s.heap (as.map Value.ref) (as'.map Value.ref).toArray
    have hD : H (s.heap.objs.size + 1) = none := I.hok.fresh (Nat.le_succ _)
    have new : ObjOk X.prog X.w (upd H (s.heap.objs.size + 1) (.lst (as'.map V.ref))) (PyProof.Rows.sortedAll s.heap (as.map Value.ref) (as'.map Value.ref).toArray) (s.heap.objs.size + 1) (.lst (as'.map V.ref)) :=
      ⟨by rw [List.length_map, hT'.1, List.length_mergeSort]; exact hlen, as'.map Value.ref, e, vals_refs as', he⟩
    exact ⟨.ref (s.heap.objs.size + 1), _, I.laid (t' := s.toks) (fun b o z => PyProof.Rows.sortedAll_old z) (Nat.le_succ _) new, rfl, q _ as' hD hT'⟩
end Sr

namespace Sr
open PySem PySem.Spec PyProof.Rows L2
/-! ### texts in which no seed fits; what bar tells -/
def Free (sds : List (List Nat)) (z : List Nat) : Prop := seededB sds z = false
def Ones (sds : List (List Nat)) : Prop := ∀ sd ∈ sds, 1 ≤ sd.length
theorem free_iff {sds : List (List Nat)} {z : List Nat} (h1 : Ones sds) : Free sds z ↔ ∀ sd ∈ sds, ∀ p : Nat, p + sd.length ≤ z.length → ∃ k, k < sd.length ∧ sd[k]? = some 35 ∧ z[p + k]? = some 47 := by
  unfold Free seededB
  constructor
  · intro h sd hsd p hp
    rw [List.any_eq_false] at h
    have h2 := h sd hsd
    rw [List.any_eq_true] at h2
    have h3 : ¬ fitsB sd z (p : Int) = true := fun h4 => h2 ⟨p, List.mem_range.mpr (by have := h1 sd hsd; omega), h4⟩
    rw [fitsB_iff (h1 sd hsd)] at h3
    refine Classical.byContradiction fun hn => h3 ⟨by omega, by omega, fun k hk hc => hn ⟨k, hk, hc.1, ?_⟩⟩
    have : ((p : Nat) : Int).toNat = p := by omega
    rw [this] at hc
    exact hc.2
  · intro h
    rw [List.any_eq_false]
    intro sd hsd h2
    obtain ⟨p, _, h4⟩ := List.any_eq_true.mp h2
    obtain ⟨_, h5, h6⟩ := (fitsB_iff (h1 sd hsd)).mp h4
    have e : ((p : Nat) : Int).toNat = p := by omega
    rw [e] at h6
    obtain ⟨k, hk, e1, e2⟩ := h sd hsd p (by omega)
    exact h6 k hk ⟨e1, e2⟩
theorem Free.mid {sds : List (List Nat)} (h1 : Ones sds) {a b c : List Nat} (h : Free sds (a ++ b ++ c)) : Free sds b := by
  rw [free_iff h1] at h ⊢
  intro sd hsd p hp
  obtain ⟨k, hk, e1, e2⟩ := h sd hsd (a.length + p) (by simp only [List.length_append]; omega)
  refine ⟨k, hk, e1, ?_⟩
  rw [List.getElem?_append_left (by simp only [List.length_append]; omega), List.getElem?_append_right (by omega)] at e2
  rw [← e2]
  congr 1
  omega
theorem Free.tail {sds : List (List Nat)} (h1 : Ones sds) {c : Nat} {z : List Nat} (h : Free sds (c :: z)) : Free sds z :=
  Free.mid h1 (a := [c]) (c := []) (by simpa using h)
def rp (r : List Nat) (k : Nat) : List Nat := (List.replicate k r).flatten
theorem rp_succ (r : List Nat) (k : Nat) : rp r (k + 1) = r ++ rp r k := by
  unfold rp
  rw [List.replicate_succ, List.flatten_cons]
theorem rp_get (r : List Nat) : ∀ (k i : Nat), i < k * r.length → (rp r k)[i]? = r[i % r.length]?
  | 0, i, h => by omega
  | k + 1, i, h => by
    rw [rp_succ]
    by_cases hi : i < r.length
    · rw [List.getElem?_append_left hi, Nat.mod_eq_of_lt hi]
    · rw [List.getElem?_append_right (by omega), rp_get r k (i - r.length) (by rw [Nat.succ_mul] at h; omega), show i % r.length = (i - r.length) % r.length from Nat.mod_eq_sub_mod (by omega)]
theorem rp_len (r : List Nat) (k : Nat) : (rp r k).length = k * r.length := rep_le r k
theorem wor_rp (g l : Int) (r : List Nat) : ∀ k : Nat, wor g l (rp r k) = k * wor g l r
  | 0 => by simp [rp, wor]
  | k + 1 => by
    rw [rp_succ, wor_app, wor_rp g l r k]
    rw [Int.natCast_add, Int.add_mul]
    omega
theorem Lk.app {a b : List Nat} (ha : Lk a) (hb : Lk b) : Lk (a ++ b) := fun c hc => (List.mem_append.mp hc).elim (ha c) (hb c)
theorem Lk.rp {r : List Nat} (hr : Lk r) : ∀ k, Lk (rp r k)
  | 0 => fun c hc => by simp [Sr.rp] at hc
  | k + 1 => by
    rw [rp_succ]
    exact hr.app (Lk.rp hr k)
theorem Lk.rep (n c : Nat) (hc : c = 61 ∨ c = 47) : Lk (List.replicate n c) := fun x hx => by
  rw [List.eq_of_mem_replicate hx]
  exact hc
/-- = ahead of / -/
def lexB : List Nat → List Nat → Bool
  | [], _ => true
  | _ :: _, [] => false
  | c :: a, d :: b => decide (d < c) || (decide (c = d) && lexB a b)
theorem lexB_refl : ∀ a : List Nat, lexB a a = true
  | [] => rfl
  | c :: a => by simp [lexB, lexB_refl a]
theorem lexB_anti : ∀ {a b : List Nat}, a.length = b.length → lexB a b = true → lexB b a = true → a = b
  | [], [], _, _, _ => rfl
  | [], _ :: _, h, _, _ => by simp at h
  | _ :: _, [], h, _, _ => by simp at h
  | c :: a, d :: b, h, h1, h2 => by
    simp only [lexB, Bool.or_eq_true, Bool.and_eq_true, decide_eq_true_eq] at h1 h2
    rcases h1 with h1 | ⟨e, h1⟩
    · rcases h2 with h2 | ⟨e2, _⟩ <;> omega
    · subst e
      rcases h2 with h2 | ⟨_, h2⟩
      · omega
      · rw [lexB_anti (by simpa using h) h1 h2]
def Sle (a b : List Nat) : Prop := a.length < b.length ∨ (a.length = b.length ∧ lexB a b = true)
theorem Sle.anti {a b : List Nat} (h1 : Sle a b) (h2 : Sle b a) : a = b := by
  rcases h1 with h1 | ⟨e, h1⟩
  · rcases h2 with h2 | ⟨e2, _⟩ <;> omega
  · rcases h2 with h2 | ⟨_, h2⟩
    · omega
    · exact lexB_anti e h1 h2
inductive BarR where
  | bar (w : Int) (z : List Nat)
  | ring (a r : List Nat)
structure IsBar (sds : List (List Nat)) (g l w : Int) (z : List Nat) : Prop where
  lk : Lk z
  free : Free sds z
  is : wor g l z = w
  max : ∀ z', Lk z' → Free sds z' → wor g l z' ≤ w
  first : ∀ z', Lk z' → Free sds z' → wor g l z' = w → Sle z z'
  len : z.length ≤ 1000
structure IsRing (sds : List (List Nat)) (g l : Int) (a r : List Nat) : Prop where
  lka : Lk a
  lkr : Lk r
  free : ∀ k, Free sds (a ++ rp r k)
  pos : 0 < wor g l r
  lena : a.length ≤ 1000
  lenr : r.length ≤ 1000
def BarOk (sds : List (List Nat)) (g l : Int) : BarR → Prop
  | .bar w z => IsBar sds g l w z
  | .ring a r => IsRing sds g l a r
theorem IsBar.uniq {sds : List (List Nat)} {g l w w' : Int} {z z' : List Nat} (h : IsBar sds g l w z) (h' : IsBar sds g l w' z') : w = w' ∧ z = z' := by
  have e1 := h.max z' h'.lk h'.free
  have e2 := h'.max z h.lk h.free
  rw [h'.is] at e1
  rw [h.is] at e2
  have e : w = w' := by omega
  subst e
  exact ⟨rfl, (h.first z' h'.lk h'.free h'.is).anti (h'.first z h.lk h.free h.is)⟩
/-- worths of the texts in which no seed fits grow without end -/
def Grows (sds : List (List Nat)) (g l : Int) : Prop := ∀ B : Nat, ∃ z, Lk z ∧ Free sds z ∧ (B : Int) < wor g l z
theorem IsRing.grows {sds : List (List Nat)} {g l : Int} {a r : List Nat} (h : IsRing sds g l a r) : Grows sds g l := fun B => by
  refine ⟨a ++ rp r (B + (-(wor g l a)).toNat + 1), h.lka.app (h.lkr.rp _), h.free _, ?_⟩
  rw [wor_app, wor_rp]
  have h1 := h.pos
  have h2 : ((B + (-(wor g l a)).toNat + 1 : Nat) : Int) * 1 ≤ ((B + (-(wor g l a)).toNat + 1 : Nat) : Int) * wor g l r := Int.mul_le_mul_of_nonneg_left (by omega) (by omega)
  omega
theorem IsBar.stops {sds : List (List Nat)} {g l w : Int} {z : List Nat} (h : IsBar sds g l w z) : ¬ Grows sds g l := fun hg => by
  obtain ⟨z', h1, h2, h3⟩ := hg w.toNat
  have := h.max z' h1 h2
  omega
/-! ### bars known by hand -/
def ones (m : Nat) : List Nat := List.replicate m 35
def gaps (m : Nat) : List Nat := 35 :: (List.replicate (m - 2) 45 ++ [35])
structure HB (sds : List (List Nat)) (r0 r1 : Int) (b : Nat) : Prop where
  bound : ∀ g l : Int, 1 ≤ g → 1 ≤ l → r0 * g - r1 * l ≤ 0 → ∀ z, Lk z → Free sds z → wor g l z ≤ g * (b : Nat)
  own : Free sds (List.replicate b 61)
  grow : ∀ g l : Int, 1 ≤ g → 1 ≤ l → 0 < r0 * g - r1 * l → Grows sds g l
theorem wor_rep61 (g l : Int) : ∀ n : Nat, wor g l (List.replicate n 61) = g * (n : Nat)
  | 0 => by simp [wor]
  | n + 1 => by
    rw [List.replicate_succ]
    show (if (61 : Nat) = 61 then g else -l) + wor g l (List.replicate n 61) = _
    rw [wor_rep61 g l n, if_pos rfl, Int.natCast_add, Int.mul_add]
    omega
theorem wor_rep47 (g l : Int) : ∀ n : Nat, wor g l (List.replicate n 47) = -(l * (n : Nat))
  | 0 => by simp [wor]
  | n + 1 => by
    rw [List.replicate_succ]
    show (if (47 : Nat) = 61 then g else -l) + wor g l (List.replicate n 47) = _
    rw [wor_rep47 g l n, if_neg (by decide), Int.natCast_add, Int.mul_add]
    omega
theorem wor_le_count (g l : Int) (hg : 1 ≤ g) (hl : 1 ≤ l) : ∀ z : List Nat, Lk z → wor g l z ≤ g * ((z.count 61 : Nat) : Int) := fun z hz => by
  have := wor_count g l hz
  have h0 : 0 ≤ l * ((z.count 47 : Nat) : Int) := Int.mul_nonneg (by omega) (by omega)
  omega
theorem HB.best {sds : List (List Nat)} {r0 r1 : Int} {b : Nat} (h : HB sds r0 r1 b) {g l : Int} (hg : 1 ≤ g) (hl : 1 ≤ l) (hr : r0 * g - r1 * l ≤ 0) (hb : b ≤ 1000) : IsBar sds g l (g * (b : Nat)) (List.replicate b 61) := by
  refine ⟨Lk.rep _ _ (.inl rfl), h.own, wor_rep61 g l b, h.bound g l hg hl hr, fun z hz hf hw => ?_, by rw [List.length_replicate]; exact hb⟩
  have h1 := wor_le_count g l hg hl z hz
  rw [hw] at h1
  have h2 : (b : Int) ≤ ((z.count 61 : Nat) : Int) := Int.le_of_mul_le_mul_left h1 (by omega)
  have h3 := List.count_le_length (a := 61) (l := z)
  unfold Sle
  rw [List.length_replicate]
  by_cases hlt : b < z.length
  · exact .inl hlt
  · refine .inr ⟨by omega, ?_⟩
    have e : z = List.replicate b 61 := by
      have e1 : List.count 61 z = z.length := by omega
      have e2 := List.eq_replicate_iff.mpr ⟨rfl, fun c hc => (List.count_eq_length.mp e1 c hc).symm⟩
      have e3 : z.length = b := by omega
      rw [e3] at e2
      exact e2
    rw [e]
    exact lexB_refl _
theorem get_rep {n c i : Nat} (h : i < n) : (List.replicate n c)[i]? = some c := by
  rw [List.getElem?_replicate, if_pos h]
/-! so many picks in a row -/
def lead : List Nat → Nat
  | [] => 0
  | c :: z => if c = 61 then lead z + 1 else 0
theorem lead_get : ∀ (z : List Nat) (k : Nat), k < lead z → z[k]? = some 61
  | [], k, h => by simp [lead] at h
  | c :: z, k, h => by
    unfold lead at h
    by_cases hc : c = 61
    · rw [if_pos hc] at h
      cases k with
      | zero => rw [hc]; rfl
      | succ k => exact lead_get z k (by omega)
    · rw [if_neg hc] at h
      omega
theorem lead_le : ∀ z : List Nat, lead z ≤ z.length
  | [] => Nat.le_refl _
  | c :: z => by
    have := lead_le z
    unfold lead
    split <;> simp only [List.length_cons] <;> omega
theorem ones_len (m : Nat) : (ones m).length = m := List.length_replicate
theorem one_ones {m : Nat} (h : 1 ≤ m) : Ones [ones m] := fun sd hsd => by
  rw [List.mem_singleton.mp hsd, ones_len]
  exact h
theorem lead_lt {m : Nat} (hm : 1 ≤ m) {z : List Nat} (hf : Free [ones m] z) : lead z ≤ m - 1 := by
  rw [free_iff (one_ones hm)] at hf
  refine Classical.byContradiction fun h => ?_
  obtain ⟨k, hk, _, e⟩ := hf _ (List.mem_singleton.mpr rfl) 0 (by rw [ones_len]; have := lead_le z; omega)
  rw [ones_len] at hk
  rw [Nat.zero_add, lead_get z k (by omega)] at e
  cases e
theorem wor_lead {m : Nat} (hm : 1 ≤ m) {g l : Int} (hr : ((m : Int) - 1) * g ≤ l) (hg : 1 ≤ g) : ∀ z : List Nat, Free [ones m] z → wor g l z ≤ g * (lead z : Nat)
  | [], _ => by simp [wor, lead]
  | c :: z, hf => by
    have hf' := hf.tail (one_ones hm)
    have ih := wor_lead hm hr hg z hf'
    have h1 := lead_lt hm hf'
    show (if c = 61 then g else -l) + wor g l z ≤ g * ((if c = 61 then lead z + 1 else 0 : Nat) : Int)
    by_cases hc : c = 61
    · rw [if_pos hc, if_pos hc, Int.natCast_add, Int.mul_add]
      omega
    · rw [if_neg hc, if_neg hc]
      have h2 : g * (lead z : Nat) ≤ g * ((m : Int) - 1) := Int.mul_le_mul_of_nonneg_left (by omega) (by omega)
      rw [Int.mul_comm g ((m : Int) - 1)] at h2
      omega
theorem HB.row {m : Nat} (hm : 1 ≤ m) : HB [ones m] ((m : Int) - 1) 1 (m - 1) := by
  refine ⟨fun g l hg hl hr z hz hf => ?_, ?_, fun g l hg hl hr B => ?_⟩
  · have h1 := wor_lead hm (g := g) (l := l) (by omega) hg z hf
    have h2 : g * (lead z : Nat) ≤ g * ((m - 1 : Nat) : Int) := Int.mul_le_mul_of_nonneg_left (by have := lead_lt hm hf; omega) (by omega)
    omega
  · rw [free_iff (one_ones hm)]
    intro sd hsd p hp
    rw [List.mem_singleton.mp hsd, ones_len, List.length_replicate] at hp
    omega
  · refine ⟨rp (List.replicate (m - 1) 61 ++ [47]) (B + 1), Lk.rp (Lk.app (Lk.rep _ _ (.inl rfl)) (fun c hc => .inr (List.mem_singleton.mp hc))) _, ?_, ?_⟩
    · rw [free_iff (one_ones hm)]
      intro sd hsd p hp
      rw [List.mem_singleton.mp hsd, ones_len, rp_len, List.length_append, List.length_replicate] at hp
      rw [List.mem_singleton.mp hsd, ones_len]
      have hmm : m - 1 + [47].length = m := by show m - 1 + 1 = m; omega
      rw [hmm] at hp
      have hlt := Nat.mod_lt p (show 0 < m by omega)
      refine ⟨m - 1 - p % m, by omega, get_rep (by omega), ?_⟩
      rw [rp_get _ _ _ (by rw [List.length_append, List.length_replicate, hmm]; omega), List.length_append, List.length_replicate, hmm]
      have e : (p + (m - 1 - p % m)) % m = m - 1 := by
        have h := Nat.div_add_mod p m
        have e2 : p + (m - 1 - p % m) = m * (p / m) + (m - 1) := by omega
        rw [e2, Nat.mul_add_mod, Nat.mod_eq_of_lt (by omega)]
      rw [e, List.getElem?_append_right (by rw [List.length_replicate]; exact Nat.le_refl _), List.length_replicate, Nat.sub_self]
      rfl
    · rw [wor_rp, wor_app, wor_rep61]
      have e : wor g l [47] = -l := by simp [wor]
      rw [e]
      have e1 : ((m - 1 : Nat) : Int) = (m : Int) - 1 := by omega
      rw [e1, Int.mul_comm g]
      have h2 : ((B + 1 : Nat) : Int) * 1 ≤ ((B + 1 : Nat) : Int) * (((m : Int) - 1) * g + -l) := Int.mul_le_mul_of_nonneg_left (by omega) (by omega)
      omega
/-! two picks so far apart -/
theorem gaps_len {m : Nat} (hm : 2 ≤ m) : (gaps m).length = m := by
  unfold gaps
  rw [List.length_cons, List.length_append, List.length_replicate]
  show m - 2 + 1 + 1 = m
  omega
theorem one_gaps {m : Nat} (hm : 2 ≤ m) : Ones [gaps m] := fun sd hsd => by
  rw [List.mem_singleton.mp hsd, gaps_len hm]
  omega
theorem gaps_pick {m k : Nat} (hm : 2 ≤ m) (hk : k < m) : (gaps m)[k]? = some 35 ↔ k = 0 ∨ k = m - 1 := by
  unfold gaps
  cases k with
  | zero => simp
  | succ k =>
    rw [List.getElem?_cons_succ]
    by_cases h : k < m - 2
    · rw [List.getElem?_append_left (by rw [List.length_replicate]; exact h), get_rep h]
      constructor
      · intro e
        cases e
      · intro e
        omega
    · rw [List.getElem?_append_right (by rw [List.length_replicate]; omega), List.length_replicate]
      have : k - (m - 2) = 0 := by omega
      rw [this]
      constructor
      · intro _
        omega
      · intro _
        rfl
theorem free_gaps {m : Nat} (hm : 2 ≤ m) {z : List Nat} : Free [gaps m] z ↔ ∀ p, p + m ≤ z.length → z[p]? = some 47 ∨ z[p + (m - 1)]? = some 47 := by
  rw [free_iff (one_gaps hm)]
  constructor
  · intro h p hp
    obtain ⟨k, hk, e1, e2⟩ := h _ (List.mem_singleton.mpr rfl) p (by rw [gaps_len hm]; exact hp)
    rw [gaps_len hm] at hk
    rcases (gaps_pick hm hk).mp e1 with e | e
    · subst e
      exact .inl e2
    · subst e
      exact .inr e2
  · intro h sd hsd p hp
    rw [List.mem_singleton.mp hsd] at hp ⊢
    rw [gaps_len hm] at hp ⊢
    rcases h p hp with e | e
    · exact ⟨0, by omega, (gaps_pick hm (by omega)).mpr (.inl rfl), e⟩
    · exact ⟨m - 1, by omega, (gaps_pick hm (by omega)).mpr (.inr rfl), e⟩
theorem count_pair : ∀ (y x : List Nat), y.length ≤ x.length → (∀ i : Nat, y[i]? = some 61 → x[i]? = some 47) → y.count 61 ≤ x.count 47
  | [], x, _, _ => by simp
  | _ :: _, [], h, _ => by simp at h
  | c :: y, d :: x, h, hp => by
    have ih := count_pair y x (by simpa using h) fun i hi => hp (i + 1) hi
    rw [List.count_cons, List.count_cons]
    by_cases hc : c = 61
    · have : d = 47 := by
        have := hp 0 (by rw [hc]; rfl)
        exact Option.some.inj this
      subst hc this
      simp
      omega
    · have : (c == 61) = false := by simpa using hc
      rw [this]
      simp
      omega
theorem HB.two {m : Nat} (hm : 2 ≤ m) : HB [gaps m] ((m : Int) - 1) ((m : Int) - 1) (m - 1) := by
  refine ⟨fun g l hg hl hr z hz hf => ?_, ?_, fun g l hg hl hr B => ?_⟩
  · rw [free_gaps hm] at hf
    have hgl : g ≤ l := by
      have : ((m : Int) - 1) * g ≤ ((m : Int) - 1) * l := by omega
      exact Int.le_of_mul_le_mul_left this (by omega)
    have h1 : (z.drop (m - 1)).count 61 ≤ z.count 47 := by
      refine count_pair _ _ (by rw [List.length_drop]; omega) fun i hi => ?_
      rw [List.getElem?_drop] at hi
      have hil := (List.getElem?_eq_some_iff.mp hi).1
      rcases hf i (by omega) with e | e
      · exact e
      · rw [show i + (m - 1) = m - 1 + i by omega, hi] at e
        cases e
    have h2 : (z.take (m - 1)).count 61 ≤ m - 1 := Nat.le_trans List.count_le_length (by rw [List.length_take]; omega)
    have h3 : z.count 61 = (z.take (m - 1)).count 61 + (z.drop (m - 1)).count 61 := by rw [← List.count_append, List.take_append_drop]
    have h4 := wor_count g l hz
    have h5 : g * ((z.count 61 : Nat) : Int) ≤ g * (((m - 1 : Nat) : Int) + ((z.count 47 : Nat) : Int)) := Int.mul_le_mul_of_nonneg_left (by omega) (by omega)
    have h6 : g * ((z.count 47 : Nat) : Int) ≤ l * ((z.count 47 : Nat) : Int) := Int.mul_le_mul_of_nonneg_right hgl (by omega)
    rw [Int.mul_add] at h5
    omega
  · rw [free_gaps hm]
    intro p hp
    rw [List.length_replicate] at hp
    omega
  · refine ⟨rp (List.replicate (m - 1) 61 ++ List.replicate (m - 1) 47) (B + 1), Lk.rp (Lk.app (Lk.rep _ _ (.inl rfl)) (Lk.rep _ _ (.inr rfl))) _, ?_, ?_⟩
    · rw [free_gaps hm]
      intro p hp
      rw [rp_len] at hp
      have e0 : (List.replicate (m - 1) 61 ++ List.replicate (m - 1) 47).length = 2 * (m - 1) := by
        rw [List.length_append, List.length_replicate, List.length_replicate]
        omega
      have hlt := Nat.mod_lt p (show 0 < 2 * (m - 1) by omega)
      rw [e0] at hp
      by_cases hs : p % (2 * (m - 1)) < m - 1
      · refine .inr ?_
        rw [rp_get _ _ _ (by rw [e0]; omega), e0]
        have e : (p + (m - 1)) % (2 * (m - 1)) = p % (2 * (m - 1)) + (m - 1) := by
          have h := Nat.div_add_mod p (2 * (m - 1))
          generalize hq : p / (2 * (m - 1)) = q at h
          have e2 : p + (m - 1) = 2 * (m - 1) * q + (p % (2 * (m - 1)) + (m - 1)) := by omega
          rw [e2, Nat.mul_add_mod, Nat.mod_eq_of_lt (by omega)]
        rw [e, List.getElem?_append_right (by rw [List.length_replicate]; omega), List.length_replicate, get_rep (by omega)]
      · refine .inl ?_
        rw [rp_get _ _ _ (by rw [e0]; omega), e0, List.getElem?_append_right (by rw [List.length_replicate]; omega), List.length_replicate, get_rep (by omega)]
    · rw [wor_rp, wor_app, wor_rep61, wor_rep47]
      have e1 : ((m - 1 : Nat) : Int) = (m : Int) - 1 := by omega
      rw [e1, Int.mul_comm g, Int.mul_comm l]
      have h2 : ((B + 1 : Nat) : Int) * 1 ≤ ((B + 1 : Nat) : Int) * (((m : Int) - 1) * g + -(((m : Int) - 1) * l)) := Int.mul_le_mul_of_nonneg_left (by omega) (by omega)
      omega
/-! a longer seed beside it, in which it fits -/
theorem HB.beside {sds sds' : List (List Nat)} {r0 r1 : Int} {b : Nat} (h : HB sds r0 r1 b) (e : ∀ z, Free sds' z ↔ Free sds z) : HB sds' r0 r1 b :=
  ⟨fun g l hg hl hr z hz hf => h.bound g l hg hl hr z hz ((e z).mp hf), (e _).mpr h.own, fun g l hg hl hr B => by
    obtain ⟨z, h1, h2, h3⟩ := h.grow g l hg hl hr B
    exact ⟨z, h1, (e z).mpr h2, h3⟩⟩
theorem free_beside {sd : List Nat} {n : Nat} (h1 : 1 ≤ sd.length) (hn : sd.length ≤ n) {sds : List (List Nat)} (hs : sds = [sd, ones n] ∨ sds = [ones n, sd]) (z : List Nat) : Free sds z ↔ Free [sd] z := by
  have o1 : Ones [sd] := fun s hsd => by rw [List.mem_singleton.mp hsd]; exact h1
  have mem : ∀ s, s ∈ sds ↔ s = sd ∨ s = ones n := by
    intro s
    rcases hs with e | e <;> subst e <;> simp [or_comm]
  have o2 : Ones sds := fun s hsd => by
    rcases (mem s).mp hsd with e | e
    · rw [e]; exact h1
    · rw [e, ones_len]; omega
  rw [free_iff o1, free_iff o2]
  constructor
  · intro h s hsd
    rw [List.mem_singleton.mp hsd]
    exact h sd ((mem sd).mpr (.inl rfl))
  · intro h s hsd p hp
    rcases (mem s).mp hsd with e | e
    · rw [e] at hp ⊢
      exact h sd (List.mem_singleton.mpr rfl) p hp
    · rw [e] at hp ⊢
      rw [ones_len] at hp ⊢
      obtain ⟨k, hk, _, e2⟩ := h sd (List.mem_singleton.mpr rfl) p (by omega)
      exact ⟨k, by omega, get_rep (by omega), e2⟩
theorem rep_flat (c : Nat) : ∀ k : Nat, (List.replicate k [c]).flatten = List.replicate k c
  | 0 => rfl
  | k + 1 => by
    rw [List.replicate_succ, List.flatten_cons, rep_flat c k]
    rfl
theorem x_mul1 (c : Nat) {n : Int} {H : Hp} {Q : VK} (k : Nat) (hk : n.toNat = k) (h1 : n ≤ 1000) (h2 : -1000 ≤ n) (q : Q (.str (S (List.replicate k c))) H) : rMulS (.str (S [c])) (.int n) H Q :=
  x_mulS (z := [c]) h1 h2 (show 1 ≤ 1000 by decide) (by rw [rep_flat, hk]; exact q)
theorem sd_ones {m : Nat} (h1 : 1 ≤ m) (h8 : m ≤ 8) : Sd 8 (ones m) :=
  ⟨by rw [ones_len]; exact h1, by rw [ones_len]; exact h8, fun c hc => .inl (List.eq_of_mem_replicate hc), get_rep (by omega), by rw [ones_len]; exact get_rep (by omega)⟩
theorem sd_gaps {m : Nat} (h1 : 2 ≤ m) (h8 : m ≤ 8) : Sd 8 (gaps m) := by
  refine ⟨by rw [gaps_len h1]; omega, by rw [gaps_len h1]; exact h8, fun c hc => ?_, (gaps_pick h1 (by omega)).mpr (.inl rfl), by rw [gaps_len h1]; exact (gaps_pick h1 (by omega)).mpr (.inr rfl)⟩
  unfold gaps at hc
  rcases List.mem_cons.mp hc with e | e
  · exact .inl e
  · rcases List.mem_append.mp e with e | e
    · exact .inr (List.eq_of_mem_replicate e)
    · exact .inl (List.mem_singleton.mp e)
def barV : BarR → List V
  | .bar w z => [.str "bar", .int w, .str (S z)]
  | .ring a r => [.str "endless", .str (S a), .str (S r)]
theorem Lk.cd {z : List Nat} (h : Lk z) : ∀ c ∈ z, c < 1114112 := fun c hc => by rcases h c hc with e | e <;> omega
def barD : BarR → PyData
  | .bar w z => .tuple [.str "bar", .int w, .str (S z)]
  | .ring a r => .tuple [.str "endless", .str (S a), .str (S r)]
theorem dp_bar {K : PySem.W.Frag} {H : Hp} {p : Addr} : ∀ {b : BarR}, H p = some (.tup (barV b)) → Dp K H (.ref p) (barD b)
  | .bar _ _, h => .tup (SqT.of h) (.cons (.str _) (.cons (.int _) (.cons (.str _) .nil)))
  | .ring _ _, h => .tup (SqT.of h) (.cons (.str _) (.cons (.str _) (.cons (.str _) .nil)))
theorem lay_bar {sds : List (List Nat)} {g l : Int} : ∀ {b : BarR}, BarOk sds g l b → PyData.canLay0 (barD b) = true
  | .bar w z, h => by
    have h1 : IsBar sds g l w z := h
    have h2 := strOk_S h1.lk.cd
    simp only [barD, PyData.canLayAll0, PyData.canLay0, Bool.and_eq_true, Bool.true_and]
    exact ⟨by decide +kernel, h2, trivial⟩
  | .ring a r, h => by
    have h1 : IsRing sds g l a r := h
    have h2 := strOk_S h1.lka.cd
    have h3 := strOk_S h1.lkr.cd
    simp only [barD, PyData.canLayAll0, PyData.canLay0, Bool.and_eq_true, Bool.true_and]
    exact ⟨by decide +kernel, h2, h3, trivial⟩
theorem shaped_bar {sds : List (List Nat)} {g l : Int} {b : BarR} (h : BarOk sds g l b) : SeqAt.shaped (barD b) = true := by
  unfold SeqAt.shaped
  rw [Bool.and_eq_true]
  refine ⟨lay_bar h, decide_eq_true ?_⟩
  cases b <;> simp only [barD, PyData.depth, PyData.depthAll] <;> omega
theorem ne_bar_same {K : PySem.W.Frag} {H : Hp} {p p' : Addr} {sds : List (List Nat)} {g l : Int} {b : BarR} (ok : BarOk sds g l b) (h : H p = some (.tup (barV b))) (h' : H p' = some (.tup (barV b))) {Q : VK} (q : Q (.bl false) H) : rNeD K (.ref p) (.ref p') H Q :=
  ⟨barD b, barD b, dp_bar h, dp_bar h', shaped_bar ok, shaped_bar ok, by rw [SeqAt.eqv_refl _ (lay_bar ok)]; exact q⟩
end Sr

namespace Sr
/-! ### what bar works with -/
/-- no seed that fits ends with c behind t -/
def okS (sds : List (List Nat)) (t : List Nat) (c : Nat) : Bool := !(sds.any fun sd => fitsB sd (t ++ [c]) (((t ++ [c]).length : Int) - (sd.length : Int)))
/-- the tail that matters -/
def tlK (k : Nat) (z : List Nat) : List Nat := (z.drop (z.length - k)).dropWhile (fun c => c == 47)
theorem tw_all : ∀ (l : List Nat), ∀ c ∈ l.takeWhile (fun c => c == 47), c = 47
  | [], c, h => by simp at h
  | d :: l, c, h => by
    rw [List.takeWhile_cons] at h
    by_cases e : (d == 47) = true
    · rw [if_pos e] at h
      rcases List.mem_cons.mp h with h | h
      · rw [h]; simpa using e
      · exact tw_all l c h
    · rw [if_neg e] at h
      simp at h
theorem dw_app : ∀ {u : List Nat} (w : List Nat), (∀ c ∈ u, c = 47) → (u ++ w).dropWhile (fun c => c == 47) = w.dropWhile (fun c => c == 47)
  | [], w, _ => rfl
  | d :: u, w, h => by
    rw [List.cons_append, List.dropWhile_cons, if_pos (by have := h d List.mem_cons_self; simp [this])]
    exact dw_app w fun c hc => h c (List.mem_cons_of_mem _ hc)
theorem dw_fix {w : List Nat} (l : List Nat) (h : w = l.dropWhile (fun c => c == 47)) : w.dropWhile (fun c => c == 47) = w := by
  subst h
  induction l with
  | nil => rfl
  | cons d l ih =>
    by_cases e : (d == 47) = true
    · rw [List.dropWhile_cons, if_pos e]
      exact ih
    · rw [List.dropWhile_cons, if_neg e, List.dropWhile_cons, if_neg e]
theorem tlK_split (k : Nat) (z : List Nat) : ∃ p u, z = p ++ (u ++ tlK k z) ∧ p.length = z.length - k ∧ ∀ c ∈ u, c = 47 := by
  refine ⟨z.take (z.length - k), (z.drop (z.length - k)).takeWhile (fun c => c == 47), ?_, ?_, tw_all _⟩
  · unfold tlK
    rw [List.takeWhile_append_dropWhile, List.take_append_drop]
  · rw [List.length_take]
    omega
theorem fits_end {k : Nat} {sd : List Nat} (h1 : 1 ≤ sd.length) (hk : sd.length ≤ k + 1) (h0 : sd[0]? = some 35) (z : List Nat) (c : Nat) :
    fitsB sd (z ++ [c]) (((z ++ [c]).length : Int) - (sd.length : Int)) = fitsB sd (tlK k z ++ [c]) (((tlK k z ++ [c]).length : Int) - (sd.length : Int)) := by
  obtain ⟨p, u, e, hp, hu⟩ := tlK_split k z
  generalize tlK k z = t at e
  subst e
  rw [Bool.eq_iff_iff, fitsB_iff h1, fitsB_iff h1]
  simp only [List.length_append, List.length_cons, List.length_nil] at hp ⊢
  constructor
  · rintro ⟨a, b, f⟩
    have hlen : sd.length ≤ t.length + 1 := by
      refine Classical.byContradiction fun hn => ?_
      have hq := f 0 (by omega)
      refine hq ⟨h0, ?_⟩
      generalize hqe : (((p.length + (u.length + t.length) + (0 + 1) : Nat) : Int) - (sd.length : Int)).toNat = q
      have hq1 : p.length ≤ q := by omega
      have hq2 : q < p.length + u.length := by omega
      rw [Nat.add_zero, List.append_assoc, List.append_assoc, List.getElem?_append_right hq1, List.getElem?_append_left (by omega), List.getElem?_eq_getElem (by omega)]
      exact congrArg some (hu _ (List.getElem_mem _))
    refine ⟨by omega, by omega, fun j hj hc => f j hj ⟨hc.1, ?_⟩⟩
    rw [← hc.2, show p ++ (u ++ t) ++ [c] = (p ++ u) ++ (t ++ [c]) by simp, List.getElem?_append_right (by simp only [List.length_append]; omega)]
    congr 1
    simp only [List.length_append]
    omega
  · rintro ⟨a, b, f⟩
    refine ⟨by omega, by omega, fun j hj hc => f j hj ⟨hc.1, ?_⟩⟩
    have h2 := hc.2
    rw [show p ++ (u ++ t) ++ [c] = (p ++ u) ++ (t ++ [c]) by simp, List.getElem?_append_right (by simp only [List.length_append]; omega)] at h2
    rw [← h2]
    congr 1
    simp only [List.length_append]
    omega
structure SdK (k : Nat) (sds : List (List Nat)) : Prop where
  one : ∀ sd ∈ sds, 1 ≤ sd.length
  most : ∀ sd ∈ sds, sd.length ≤ k + 1
  first : ∀ sd ∈ sds, sd[0]? = some 35
theorem any_congr' {α : Type} {f g : α → Bool} : ∀ {l : List α}, (∀ x ∈ l, f x = g x) → l.any f = l.any g
  | [], _ => rfl
  | x :: l, h => by
    rw [List.any_cons, List.any_cons, h x List.mem_cons_self, any_congr' fun y hy => h y (List.mem_cons_of_mem _ hy)]
theorem okS_tl {k : Nat} {sds : List (List Nat)} (hs : SdK k sds) (z : List Nat) (c : Nat) : okS sds z c = okS sds (tlK k z) c := by
  unfold okS
  rw [any_congr' fun sd h => fits_end (hs.one sd h) (hs.most sd h) (hs.first sd h) z c]
theorem tlK_len (k : Nat) (z : List Nat) : (tlK k z).length ≤ k := by
  obtain ⟨p, u, e, hp, hu⟩ := tlK_split k z
  have := congrArg List.length e
  simp only [List.length_append] at this
  omega
theorem tlK_short {k : Nat} {z : List Nat} (h : z.length ≤ k) : tlK k z = z.dropWhile (fun c => c == 47) := by
  unfold tlK
  rw [show z.length - k = 0 by omega, List.drop_zero]
theorem tlK_idem (k : Nat) (z : List Nat) : tlK k (tlK k z) = tlK k z := by
  rw [tlK_short (tlK_len k z)]
  exact dw_fix _ rfl
theorem tlK_snoc (k : Nat) (z : List Nat) (c : Nat) : tlK k (z ++ [c]) = tlK k (tlK k z ++ [c]) := by
  obtain ⟨p, u, e, hp, hu⟩ := tlK_split k z
  have hl := tlK_len k z
  generalize tlK k z = t at e hl
  subst e
  simp only [List.length_append] at hp
  by_cases hk : k = 0
  · subst hk
    unfold tlK
    rw [List.drop_of_length_le (by omega), List.drop_of_length_le (by omega)]
  · by_cases hz : p.length = 0
    · have : p = [] := List.length_eq_zero_iff.mp hz
      subst this
      by_cases ht : u.length + t.length = k
      · unfold tlK
        cases u with
        | nil => rfl
        | cons a u =>
          rw [List.nil_append, show ((a :: u ++ t ++ [c]).length - k) = 1 by simp only [List.length_append, List.length_cons, List.length_nil] at ht ⊢; omega]
          rw [show ((t ++ [c]).length - k) = 0 by simp only [List.length_append, List.length_cons, List.length_nil] at ht ⊢; omega, List.drop_zero]
          show (u ++ t ++ [c]).dropWhile _ = _
          rw [List.append_assoc]
          exact dw_app _ fun d hd => hu d (List.mem_cons_of_mem _ hd)
      · rw [tlK_short (by simp only [List.length_append, List.length_cons, List.length_nil]; simp only [List.length_nil] at hp; omega), tlK_short (by simp only [List.length_append, List.length_cons, List.length_nil]; simp only [List.length_nil] at hp; omega), List.nil_append, List.append_assoc]
        exact dw_app _ hu
    · have ht : u.length + t.length = k := by omega
      unfold tlK
      rw [show ((p ++ (u ++ t) ++ [c]).length - k) = p.length + 1 by simp only [List.length_append, List.length_cons, List.length_nil]; omega]
      rw [show p ++ (u ++ t) ++ [c] = p ++ (u ++ (t ++ [c])) by simp, List.drop_append, List.drop_of_length_le (by omega), List.nil_append, show p.length + 1 - p.length = 1 by omega]
      cases u with
      | nil =>
        simp only [List.length_nil] at ht
        rw [List.nil_append, show ((t ++ [c]).length - k) = 1 by simp only [List.length_append, List.length_cons, List.length_nil]; omega]
      | cons a u =>
        simp only [List.length_cons] at ht
        rw [show ((t ++ [c]).length - k) = 0 by simp only [List.length_append, List.length_cons, List.length_nil]; omega, List.drop_zero]
        show (u ++ (t ++ [c])).dropWhile _ = _
        exact dw_app _ fun d hd => hu d (List.mem_cons_of_mem _ hd)
/-! walks over tails -/
def run (sds : List (List Nat)) (k : Nat) : List Nat → List Nat → Option (List Nat)
  | t, [] => some t
  | t, c :: z => if okS sds t c = true then run sds k (tlK k (t ++ [c])) z else none
theorem run_tl {k : Nat} {sds : List (List Nat)} (hs : SdK k sds) : ∀ (z h : List Nat) (t' : List Nat), run sds k (tlK k h) z = some t' → t' = tlK k (h ++ z)
  | [], h, t', e => by
    rw [List.append_nil]
    exact (Option.some.inj e).symm
  | c :: z, h, t', e => by
    unfold run at e
    by_cases hc : okS sds (tlK k h) c = true
    · rw [if_pos hc, ← tlK_snoc] at e
      have := run_tl hs z (h ++ [c]) t' e
      rw [this]
      simp
    · rw [if_neg hc] at e
      cases e
theorem run_some {k : Nat} {sds : List (List Nat)} (hs : SdK k sds) : ∀ (z h : List Nat), (run sds k (tlK k h) z).isSome = true ↔ ∀ i, (hi : i < z.length) → okS sds (h ++ z.take i) z[i] = true
  | [], h => by simp [run]
  | c :: z, h => by
    unfold run
    by_cases hc : okS sds (tlK k h) c = true
    · rw [if_pos hc, ← tlK_snoc, run_some hs z (h ++ [c])]
      constructor
      · intro q i hi
        cases i with
        | zero =>
          rw [List.take_zero, List.append_nil, okS_tl hs]
          exact hc
        | succ i =>
          have := q i (by simpa using hi)
          simpa using this
      · intro q i hi
        have := q (i + 1) (by simpa using hi)
        simpa using this
    · rw [if_neg hc]
      refine ⟨fun q => by simp at q, fun q => ?_⟩
      have := q 0 (by simp)
      rw [List.take_zero, List.append_nil, okS_tl hs] at this
      exact absurd this hc
theorem free_of_ok {sds : List (List Nat)} (h1 : Ones sds) (h z : List Nat) (q : ∀ i, (hi : i < z.length) → okS sds (h ++ z.take i) z[i] = true) : Free sds z := by
  rw [free_iff h1]
  intro sd hsd p hp
  have hl := h1 sd hsd
  have hi : p + sd.length - 1 < z.length := by omega
  have := q (p + sd.length - 1) hi
  unfold okS at this
  rw [Bool.not_eq_true', List.any_eq_false] at this
  have h2 := this sd hsd
  rw [fitsB_iff hl] at h2
  refine Classical.byContradiction fun hn => h2 ⟨?_, ?_, fun j hj hc => hn ⟨j, hj, hc.1, ?_⟩⟩
  · simp only [List.length_append, List.length_take, List.length_cons, List.length_nil]
    omega
  · simp only [List.length_append, List.length_take, List.length_cons, List.length_nil]
    omega
  · have h3 := hc.2
    rw [List.append_assoc, show z.take (p + sd.length - 1) ++ [z[p + sd.length - 1]] = z.take (p + sd.length - 1 + 1) from (List.take_succ_eq_append_getElem hi).symm] at h3
    rw [List.getElem?_append_right (by simp only [List.length_append, List.length_take]; omega), List.getElem?_take] at h3
    split at h3
    · rw [← h3]
      congr 1
      simp only [List.length_append, List.length_take]
      omega
    · cases h3
theorem free_ok {sds : List (List Nat)} (h1 : Ones sds) {z : List Nat} (f : Free sds z) (i : Nat) (hi : i < z.length) : okS sds (z.take i) z[i] = true := by
  rw [free_iff h1] at f
  unfold okS
  rw [Bool.not_eq_true', List.any_eq_false]
  intro sd hsd hc
  have hl := h1 sd hsd
  obtain ⟨a, b, g⟩ := (fitsB_iff hl).mp hc
  rw [show z.take i ++ [z[i]] = z.take (i + 1) from (List.take_succ_eq_append_getElem hi).symm] at a b g
  rw [List.length_take] at a b g
  have hm : min (i + 1) z.length = i + 1 := by omega
  rw [hm] at a b g
  obtain ⟨j, hj, e1, e2⟩ := f sd hsd (i + 1 - sd.length) (by omega)
  refine g j hj ⟨e1, ?_⟩
  rw [List.getElem?_take, if_pos (by omega), ← e2]
  congr 1
  omega
theorem free_run {k : Nat} {sds : List (List Nat)} (hs : SdK k sds) {z : List Nat} : Free sds z ↔ (run sds k [] z).isSome = true := by
  have e : ([] : List Nat) = tlK k [] := by unfold tlK; simp
  have key := run_some hs z []
  rw [← e] at key
  rw [key]
  exact ⟨fun f i hi => by rw [List.nil_append]; exact free_ok hs.one f i hi, fun q => free_of_ok hs.one [] z q⟩
theorem run_free {k : Nat} {sds : List (List Nat)} (hs : SdK k sds) {t z : List Nat} (ht : tlK k t = t) (h : (run sds k t z).isSome = true) : Free sds z := by
  have key := run_some hs z t
  rw [ht] at key
  exact free_of_ok hs.one t z (key.mp h)
theorem run_cons (sds : List (List Nat)) (k : Nat) (t : List Nat) (c : Nat) (z : List Nat) : run sds k t (c :: z) = if okS sds t c = true then run sds k (tlK k (t ++ [c])) z else none := rfl
theorem run_app {sds : List (List Nat)} {k : Nat} : ∀ (a t b : List Nat), run sds k t (a ++ b) = (run sds k t a).bind fun s => run sds k s b
  | [], t, b => rfl
  | c :: a, t, b => by
    rw [List.cons_append, run_cons, run_cons]
    by_cases h : okS sds t c = true
    · rw [if_pos h, if_pos h]
      exact run_app a _ b
    · rw [if_neg h, if_neg h]
      rfl
theorem run_rp {sds : List (List Nat)} {k : Nat} {t r : List Nat} (h : run sds k t r = some t) : ∀ n, run sds k t (rp r n) = some t
  | 0 => rfl
  | n + 1 => by
    rw [rp_succ, run_app, h]
    exact run_rp h n
end Sr
namespace Sr
/-! ### the best likes behind a tail -/
def wt (g l : Int) (c : Nat) : Int := if c = 61 then g else -l
def stps (sds : List (List Nat)) (k : Nat) (t : List Nat) : List (Nat × List Nat) := ([61, 47].filter fun c => okS sds t c).map fun c => (c, tlK k (t ++ [c]))
/-- b is better than a, as the program weighs them -/
def bet (a b : Int × List Nat) : Bool := decide (a.1 < b.1) || (decide (a.1 = b.1) && decide (b.2.length < a.2.length))
def pick (a b : Int × List Nat) : Int × List Nat := if bet a b = true then b else a
def cand (g l : Int) (o : List Nat → Int × List Nat) (p : Nat × List Nat) : Int × List Nat := (wt g l p.1 + (o p.2).1, p.1 :: (o p.2).2)
def optS (sds : List (List Nat)) (k : Nat) (g l : Int) : Nat → List Nat → Int × List Nat
  | 0, _ => (0, [])
  | r + 1, t => ((stps sds k t).map (cand g l (optS sds k g l r))).foldl pick (0, [])
theorem lexB_trans : ∀ {a b c : List Nat}, lexB a b = true → lexB b c = true → lexB a c = true
  | [], _, _, _, _ => rfl
  | x :: a, [], _, h, _ => by simp [lexB] at h
  | x :: a, y :: b, [], _, h => by simp [lexB] at h
  | x :: a, y :: b, w :: c, h1, h2 => by
    simp only [lexB, Bool.or_eq_true, Bool.and_eq_true, decide_eq_true_eq] at h1 h2 ⊢
    rcases h1 with h1 | ⟨e1, h1⟩
    · rcases h2 with h2 | ⟨e2, h2⟩
      · exact .inl (by omega)
      · exact .inl (by omega)
    · rcases h2 with h2 | ⟨e2, h2⟩
      · exact .inl (by omega)
      · exact .inr ⟨by omega, lexB_trans h1 h2⟩
theorem Sle.refl (a : List Nat) : Sle a a := .inr ⟨rfl, lexB_refl a⟩
theorem Sle.trans {a b c : List Nat} (h1 : Sle a b) (h2 : Sle b c) : Sle a c := by
  rcases h1 with h1 | ⟨e1, h1⟩
  · rcases h2 with h2 | ⟨e2, _⟩
    · exact .inl (by omega)
    · exact .inl (by omega)
  · rcases h2 with h2 | ⟨e2, h2⟩
    · exact .inl (by omega)
    · exact .inr ⟨by omega, lexB_trans h1 h2⟩
theorem Sle.len {a b : List Nat} (h : Sle a b) : a.length ≤ b.length := by
  rcases h with h | ⟨e, _⟩ <;> omega
theorem Sle.cons {a b : List Nat} (c : Nat) (h : Sle a b) : Sle (c :: a) (c :: b) := by
  rcases h with h | ⟨e, h⟩
  · exact .inl (by simpa using h)
  · exact .inr ⟨by simpa using e, by simp [lexB, h]⟩
/-- at least as good -/
def Gd2 (p q : Int × List Nat) : Prop := q.1 < p.1 ∨ (p.1 = q.1 ∧ Sle p.2 q.2)
theorem Gd2.refl (p : Int × List Nat) : Gd2 p p := .inr ⟨rfl, Sle.refl _⟩
theorem Gd2.trans {p q r : Int × List Nat} (h1 : Gd2 p q) (h2 : Gd2 q r) : Gd2 p r := by
  rcases h1 with h1 | ⟨e1, h1⟩
  · rcases h2 with h2 | ⟨e2, h2⟩
    · exact .inl (by omega)
    · exact .inl (by omega)
  · rcases h2 with h2 | ⟨e2, h2⟩
    · exact .inl (by omega)
    · exact .inr ⟨by omega, h1.trans h2⟩
theorem Gd2.anti {p q : Int × List Nat} (h1 : Gd2 p q) (h2 : Gd2 q p) : p = q := by
  rcases h1 with h1 | ⟨e1, h1⟩
  · rcases h2 with h2 | ⟨e2, h2⟩ <;> omega
  · rcases h2 with h2 | ⟨e2, h2⟩
    · omega
    · exact Prod.ext e1 (h1.anti h2)
/-- the pick of two is at least as good as both, where equal worth and length puts the first one ahead -/
theorem pick_gd {a b : Int × List Nat} (h : a.1 = b.1 → a.2.length = b.2.length → Sle a.2 b.2) : Gd2 (pick a b) a ∧ Gd2 (pick a b) b := by
  unfold pick bet
  by_cases hb : (decide (a.1 < b.1) || (decide (a.1 = b.1) && decide (b.2.length < a.2.length))) = true
  · rw [if_pos hb]
    refine ⟨?_, Gd2.refl _⟩
    simp only [Bool.or_eq_true, Bool.and_eq_true, decide_eq_true_eq] at hb
    rcases hb with hb | ⟨e, hb⟩
    · exact .inl hb
    · exact .inr ⟨e.symm, .inl hb⟩
  · rw [if_neg hb]
    refine ⟨Gd2.refl _, ?_⟩
    simp only [Bool.or_eq_true, Bool.and_eq_true, decide_eq_true_eq] at hb
    by_cases e : b.1 < a.1
    · exact .inl e
    · by_cases e2 : a.1 = b.1
      · refine .inr ⟨e2, ?_⟩
        by_cases e3 : a.2.length = b.2.length
        · exact h e2 e3
        · exact .inl (by omega)
      · omega
theorem pick_or (a b : Int × List Nat) : pick a b = a ∨ pick a b = b := by
  unfold pick
  split
  · exact .inr rfl
  · exact .inl rfl
structure IsOpt (sds : List (List Nat)) (k : Nat) (g l : Int) (r : Nat) (t : List Nat) (p : Int × List Nat) : Prop where
  lk : Lk p.2
  ok : (run sds k t p.2).isSome = true
  is : wor g l p.2 = p.1
  len : p.2.length ≤ r
  best : ∀ z, Lk z → (run sds k t z).isSome = true → z.length ≤ r → Gd2 p (wor g l z, z)
theorem IsOpt.uniq {sds : List (List Nat)} {k : Nat} {g l : Int} {r : Nat} {t : List Nat} {p q : Int × List Nat} (h : IsOpt sds k g l r t p) (h' : IsOpt sds k g l r t q) : p = q := by
  have a := h.best q.2 h'.lk h'.ok h'.len
  have b := h'.best p.2 h.lk h.ok h.len
  rw [h'.is] at a
  rw [h.is] at b
  exact a.anti b
theorem wor_cons (g l : Int) (c : Nat) (z : List Nat) : wor g l (c :: z) = wt g l c + wor g l z := rfl
theorem Lk.cons {c : Nat} {z : List Nat} (hc : c = 61 ∨ c = 47) (hz : Lk z) : Lk (c :: z) := fun d hd => by
  rcases List.mem_cons.mp hd with e | e
  · rw [e]; exact hc
  · exact hz d e
theorem optS_is {sds : List (List Nat)} {k : Nat} {g l : Int} : ∀ (r : Nat) (t : List Nat), IsOpt sds k g l r t (optS sds k g l r t)
  | 0, t => ⟨fun c h => by simp [optS] at h, rfl, rfl, Nat.le_refl _, fun z _ _ hz => by
      have : z = [] := List.length_eq_zero_iff.mp (by omega)
      subst this
      exact Gd2.refl _⟩
  | r + 1, t => by
    have ih := optS_is (sds := sds) (k := k) (g := g) (l := l) r
    -- one pair's candidate
    have cnd : ∀ c, (c = 61 ∨ c = 47) → okS sds t c = true →
        (Lk (cand g l (optS sds k g l r) (c, tlK k (t ++ [c]))).2 ∧ (run sds k t (cand g l (optS sds k g l r) (c, tlK k (t ++ [c]))).2).isSome = true ∧
         wor g l (cand g l (optS sds k g l r) (c, tlK k (t ++ [c]))).2 = (cand g l (optS sds k g l r) (c, tlK k (t ++ [c]))).1 ∧ (cand g l (optS sds k g l r) (c, tlK k (t ++ [c]))).2.length ≤ r + 1) ∧
        ∀ y, Lk y → (run sds k t (c :: y)).isSome = true → y.length ≤ r → Gd2 (cand g l (optS sds k g l r) (c, tlK k (t ++ [c]))) (wor g l (c :: y), c :: y) := by
      intro c hc hok
      have h := ih (tlK k (t ++ [c]))
      refine ⟨⟨Lk.cons hc h.lk, ?_, ?_, ?_⟩, fun y hy hr hl => ?_⟩
      · show (run sds k t (c :: _)).isSome = true
        rw [run_cons, if_pos hok]
        exact h.ok
      · show wor g l (c :: _) = wt g l c + _
        rw [wor_cons, h.is]
      · exact Nat.succ_le_succ h.len
      · rw [run_cons, if_pos hok] at hr
        have := h.best y hy hr hl
        rw [wor_cons]
        rcases this with e | ⟨e, e2⟩
        · exact .inl (by show wt g l c + wor g l y < wt g l c + _; simp only at e ⊢; omega)
        · exact .inr ⟨by show wt g l c + _ = wt g l c + wor g l y; simp only at e ⊢; omega, Sle.cons c e2⟩
    have em : Lk ([] : List Nat) := fun c h => by simp at h
    -- what is walked begins with nothing, = or /
    have cas : ∀ z : List Nat, Lk z → (run sds k t z).isSome = true → z.length ≤ r + 1 → z = [] ∨ ∃ c y, z = c :: y ∧ (c = 61 ∨ c = 47) ∧ okS sds t c = true ∧ Lk y ∧ (run sds k t (c :: y)).isSome = true ∧ y.length ≤ r := by
      intro z hz hr hl
      cases z with
      | nil => exact .inl rfl
      | cons c y =>
        refine .inr ⟨c, y, rfl, hz c List.mem_cons_self, ?_, fun d hd => hz d (List.mem_cons_of_mem _ hd), hr, by simpa using hl⟩
        rw [run_cons] at hr
        by_cases e : okS sds t c = true
        · exact e
        · rw [if_neg e] at hr
          simp at hr
    have p0 : ∀ c, Gd2 (pick (0, []) (cand g l (optS sds k g l r) (c, tlK k (t ++ [c])))) (0, []) ∧ Gd2 (pick (0, []) (cand g l (optS sds k g l r) (c, tlK k (t ++ [c])))) (cand g l (optS sds k g l r) (c, tlK k (t ++ [c]))) := fun c => by
      refine pick_gd fun _ e => ?_
      simp [cand] at e
    unfold optS stps
    by_cases h1 : okS sds t 61 = true
    · obtain ⟨⟨a1, a2, a3, a4⟩, a5⟩ := cnd 61 (.inl rfl) h1
      by_cases h2 : okS sds t 47 = true
      · obtain ⟨⟨b1, b2, b3, b4⟩, b5⟩ := cnd 47 (.inr rfl) h2
        rw [List.filter_cons, if_pos h1, List.filter_cons, if_pos h2, List.filter_nil]
        simp only [List.map_cons, List.map_nil, List.foldl_cons, List.foldl_nil]
        have q1 := p0 61
        have q2 : Gd2 (pick (pick (0, []) (cand g l (optS sds k g l r) (61, tlK k (t ++ [61])))) (cand g l (optS sds k g l r) (47, tlK k (t ++ [47])))) (pick (0, []) (cand g l (optS sds k g l r) (61, tlK k (t ++ [61])))) ∧ Gd2 (pick (pick (0, []) (cand g l (optS sds k g l r) (61, tlK k (t ++ [61])))) (cand g l (optS sds k g l r) (47, tlK k (t ++ [47])))) (cand g l (optS sds k g l r) (47, tlK k (t ++ [47]))) := by
          refine pick_gd fun _ e => ?_
          rcases pick_or (0, []) (cand g l (optS sds k g l r) (61, tlK k (t ++ [61]))) with e3 | e3
          · rw [e3] at e
            simp [cand] at e
          · rw [e3] at e ⊢
            exact .inr ⟨e, by simp [cand, lexB]⟩
        have fin : ∀ z, Lk z → (run sds k t z).isSome = true → z.length ≤ r + 1 → Gd2 (pick (pick (0, []) (cand g l (optS sds k g l r) (61, tlK k (t ++ [61])))) (cand g l (optS sds k g l r) (47, tlK k (t ++ [47])))) (wor g l z, z) := fun z hz hr hl => by
          rcases cas z hz hr hl with e | ⟨c, y, rfl, hc, hok, hy, hr2, hl2⟩
          · subst e
            exact q2.1.trans q1.1
          · rcases hc with e | e
            · subst e
              exact (q2.1.trans q1.2).trans (a5 y hy hr2 hl2)
            · subst e
              exact q2.2.trans (b5 y hy hr2 hl2)
        rcases pick_or (pick (0, []) (cand g l (optS sds k g l r) (61, tlK k (t ++ [61])))) (cand g l (optS sds k g l r) (47, tlK k (t ++ [47]))) with e | e
        · rcases pick_or (0, []) (cand g l (optS sds k g l r) (61, tlK k (t ++ [61]))) with e3 | e3
          · rw [e3] at e fin
            rw [e3, e]
            rw [e] at fin
            exact ⟨em, rfl, rfl, Nat.zero_le _, fin⟩
          · rw [e3] at e fin
            rw [e3, e]
            rw [e] at fin
            exact ⟨a1, a2, a3, a4, fin⟩
        · rw [e] at fin ⊢
          exact ⟨b1, b2, b3, b4, fin⟩
      · rw [List.filter_cons, if_pos h1, List.filter_cons, if_neg h2, List.filter_nil]
        simp only [List.map_cons, List.map_nil, List.foldl_cons, List.foldl_nil]
        have q1 := p0 61
        have fin : ∀ z, Lk z → (run sds k t z).isSome = true → z.length ≤ r + 1 → Gd2 (pick (0, []) (cand g l (optS sds k g l r) (61, tlK k (t ++ [61])))) (wor g l z, z) := fun z hz hr hl => by
          rcases cas z hz hr hl with e | ⟨c, y, rfl, hc, hok, hy, hr2, hl2⟩
          · subst e
            exact q1.1
          · rcases hc with e | e
            · subst e
              exact q1.2.trans (a5 y hy hr2 hl2)
            · subst e
              exact absurd hok h2
        rcases pick_or (0, []) (cand g l (optS sds k g l r) (61, tlK k (t ++ [61]))) with e | e
        · rw [e] at fin ⊢
          exact ⟨em, rfl, rfl, Nat.zero_le _, fin⟩
        · rw [e] at fin ⊢
          exact ⟨a1, a2, a3, a4, fin⟩
    · by_cases h2 : okS sds t 47 = true
      · obtain ⟨⟨b1, b2, b3, b4⟩, b5⟩ := cnd 47 (.inr rfl) h2
        rw [List.filter_cons, if_neg h1, List.filter_cons, if_pos h2, List.filter_nil]
        simp only [List.map_cons, List.map_nil, List.foldl_cons, List.foldl_nil]
        have q1 := p0 47
        have fin : ∀ z, Lk z → (run sds k t z).isSome = true → z.length ≤ r + 1 → Gd2 (pick (0, []) (cand g l (optS sds k g l r) (47, tlK k (t ++ [47])))) (wor g l z, z) := fun z hz hr hl => by
          rcases cas z hz hr hl with e | ⟨c, y, rfl, hc, hok, hy, hr2, hl2⟩
          · subst e
            exact q1.1
          · rcases hc with e | e
            · subst e
              exact absurd hok h1
            · subst e
              exact q1.2.trans (b5 y hy hr2 hl2)
        rcases pick_or (0, []) (cand g l (optS sds k g l r) (47, tlK k (t ++ [47]))) with e | e
        · rw [e] at fin ⊢
          exact ⟨em, rfl, rfl, Nat.zero_le _, fin⟩
        · rw [e] at fin ⊢
          exact ⟨b1, b2, b3, b4, fin⟩
      · rw [List.filter_cons, if_neg h1, List.filter_cons, if_neg h2, List.filter_nil]
        simp only [List.map_nil, List.foldl_nil]
        refine ⟨em, rfl, rfl, Nat.zero_le _, fun z hz hr hl => ?_⟩
        rcases cas z hz hr hl with e | ⟨c, y, rfl, hc, hok, hy, hr2, hl2⟩
        · subst e
          exact Gd2.refl _
        · rcases hc with e | e <;> subst e
          · exact absurd hok h1
          · exact absurd hok h2
/-- where a pair more betters it, it is as long as may be -/
theorem optS_len {sds : List (List Nat)} {k : Nat} {g l : Int} {r : Nat} {t : List Nat} (h : optS sds k g l (r + 1) t ≠ optS sds k g l r t) : (optS sds k g l (r + 1) t).2.length = r + 1 := by
  have h1 := optS_is (sds := sds) (k := k) (g := g) (l := l) (r + 1) t
  have h2 := optS_is (sds := sds) (k := k) (g := g) (l := l) r t
  refine Classical.byContradiction fun hn => h (IsOpt.uniq (r := r) (t := t) ?_ h2)
  have := h1.len
  exact ⟨h1.lk, h1.ok, h1.is, by omega, fun z a b c => h1.best z a b (by omega)⟩
end Sr
namespace Sr
/-! ### all tails -/
def goals (sds : List (List Nat)) (k : Nat) (t : List Nat) : List (List Nat) := (stps sds k t).map (·.2)
def stp (sds : List (List Nat)) (k : Nat) : Nat → List (List Nat) → List (List Nat) → List (List Nat)
  | 0, ks, _ => ks
  | n + 1, ks, w => match w.getLast? with
    | none => ks
    | some t => if t ∈ ks then stp sds k n ks w.dropLast else stp sds k n (ks ++ [t]) (w.dropLast ++ goals sds k t)
def keys (sds : List (List Nat)) (k : Nat) : List (List Nat) := stp sds k 1000 [] [[]]
theorem goals_len (sds : List (List Nat)) (k : Nat) (t : List Nat) : (goals sds k t).length ≤ 2 := by
  unfold goals stps
  rw [List.length_map, List.length_map]
  exact Nat.le_trans (List.length_filter_le _ _) (by decide)
theorem mem_stps {sds : List (List Nat)} {k : Nat} {t : List Nat} {p : Nat × List Nat} : p ∈ stps sds k t ↔ (p.1 = 61 ∨ p.1 = 47) ∧ okS sds t p.1 = true ∧ p.2 = tlK k (t ++ [p.1]) := by
  unfold stps
  rw [List.mem_map]
  constructor
  · rintro ⟨c, hc, rfl⟩
    rw [List.mem_filter] at hc
    exact ⟨by simpa using hc.1, hc.2, rfl⟩
  · rintro ⟨h1, h2, h3⟩
    exact ⟨p.1, List.mem_filter.mpr ⟨by simpa using h1, h2⟩, by rw [← h3]⟩
/-- a tail: of likes, no more than k, no unlike one first -/
structure Tl (k : Nat) (t : List Nat) : Prop where
  fix : tlK k t = t
  lk : Lk t
theorem Lk.tlK {k : Nat} {z : List Nat} (h : Lk z) : Lk (Sr.tlK k z) := fun c hc => by
  unfold Sr.tlK at hc
  exact h c (List.mem_of_mem_drop ((List.dropWhile_sublist _).subset hc))
theorem Tl.nil (k : Nat) : Tl k [] := ⟨by unfold tlK; simp, fun c h => by simp at h⟩
theorem Tl.step {k : Nat} {t : List Nat} (h : Tl k t) {c : Nat} (hc : c = 61 ∨ c = 47) : Tl k (tlK k (t ++ [c])) :=
  ⟨tlK_idem _ _, Lk.tlK fun d hd => by
    rcases List.mem_append.mp hd with e | e
    · exact h.lk d e
    · rw [List.mem_singleton.mp e]; exact hc⟩
theorem Tl.goal {k : Nat} {t u : List Nat} {sds : List (List Nat)} (h : Tl k t) (hu : u ∈ goals sds k t) : Tl k u := by
  unfold goals at hu
  obtain ⟨p, hp, rfl⟩ := List.mem_map.mp hu
  obtain ⟨h1, h2, h3⟩ := mem_stps.mp hp
  rw [h3]
  exact h.step h1
theorem Tl.len {k : Nat} {t : List Nat} (h : Tl k t) : t.length ≤ k := by rw [← h.fix]; exact tlK_len _ _
/-! how many there may be -/
theorem nodup_le : ∀ {l u : List (List Nat)}, l.Nodup → (∀ x ∈ l, x ∈ u) → l.length ≤ u.length
  | [], u, _, _ => Nat.zero_le _
  | a :: l, u, hn, h => by
    rw [List.nodup_cons] at hn
    have ha := h a List.mem_cons_self
    have := nodup_le (l := l) (u := u.erase a) hn.2 fun x hx => by
      refine (List.mem_erase_of_ne ?_).mpr (h x (List.mem_cons_of_mem _ hx))
      rintro rfl
      exact hn.1 hx
    rw [List.length_erase_of_mem ha] at this
    have hp := List.length_pos_of_mem ha
    rw [List.length_cons]
    omega
def allL : Nat → List (List Nat)
  | 0 => [[]]
  | n + 1 => [] :: ((allL n).map (61 :: ·) ++ (allL n).map (47 :: ·))
theorem allL_len : ∀ n, (allL n).length + 1 = 2 ^ (n + 1)
  | 0 => rfl
  | n + 1 => by
    have := allL_len n
    rw [allL, List.length_cons, List.length_append, List.length_map, List.length_map, Nat.pow_succ, ← this]
    omega
theorem mem_allL : ∀ {n : Nat} {z : List Nat}, Lk z → z.length ≤ n → z ∈ allL n
  | 0, z, _, hz => by
    rw [List.length_eq_zero_iff.mp (Nat.le_zero.mp hz)]
    exact List.mem_singleton.mpr rfl
  | n + 1, [], _, _ => List.mem_cons_self
  | n + 1, c :: z, hl, hz => by
    have ih := mem_allL (n := n) (z := z) (fun d hd => hl d (List.mem_cons_of_mem _ hd)) (by simpa using hz)
    refine List.mem_cons_of_mem _ (List.mem_append.mpr ?_)
    rcases hl c List.mem_cons_self with e | e
    · rw [e]; exact .inl (List.mem_map.mpr ⟨z, ih, rfl⟩)
    · rw [e]; exact .inr (List.mem_map.mpr ⟨z, ih, rfl⟩)
theorem tails_le {k : Nat} (hk : k ≤ 7) {ks : List (List Nat)} (hn : ks.Nodup) (ht : ∀ t ∈ ks, Tl k t) : ks.length ≤ 255 := by
  have h1 := nodup_le hn fun x hx => mem_allL (n := 7) (ht x hx).lk (Nat.le_trans (ht x hx).len hk)
  have h2 := allL_len 7
  omega
/-- where the search for tails stands -/
structure StpI (sds : List (List Nat)) (k : Nat) (ks w : List (List Nat)) : Prop where
  nodup : ks.Nodup
  tl : ∀ t ∈ ks, Tl k t
  wtl : ∀ t ∈ w, Tl k t
  closed : ∀ t ∈ ks, ∀ u ∈ goals sds k t, u ∈ ks ∨ u ∈ w
  root : [] ∈ ks ∨ [] ∈ w
def msr (ks w : List (List Nat)) : Nat := 2 * (256 - ks.length) + w.length
theorem snoc_of {α : Type} {w : List α} {t : α} (h : w.getLast? = some t) : w = w.dropLast ++ [t] := by
  have hne : w ≠ [] := fun e => by rw [e] at h; cases h
  have := List.dropLast_concat_getLast hne
  rw [List.getLast?_eq_getLast hne] at h
  rw [Option.some.inj h] at this
  exact this.symm
theorem StpI.old {sds : List (List Nat)} {k : Nat} {ks w : List (List Nat)} {t : List Nat} (h : StpI sds k ks w) (hl : w.getLast? = some t) (ht : t ∈ ks) : StpI sds k ks w.dropLast := by
  have e := snoc_of hl
  have mem : ∀ u, u ∈ w → u ∈ ks ∨ u ∈ w.dropLast := fun u hu => by
    rw [e] at hu
    rcases List.mem_append.mp hu with q | q
    · exact .inr q
    · rw [List.mem_singleton.mp q]; exact .inl ht
  refine ⟨h.nodup, h.tl, fun u hu => h.wtl u ((List.dropLast_sublist _).subset hu), fun u hu v hv => ?_, ?_⟩
  · rcases h.closed u hu v hv with q | q
    · exact .inl q
    · exact mem v q
  · rcases h.root with q | q
    · exact .inl q
    · exact mem _ q
theorem StpI.new {sds : List (List Nat)} {k : Nat} {ks w : List (List Nat)} {t : List Nat} (h : StpI sds k ks w) (hl : w.getLast? = some t) (ht : t ∉ ks) : StpI sds k (ks ++ [t]) (w.dropLast ++ goals sds k t) := by
  have e := snoc_of hl
  have htl : Tl k t := h.wtl t (by rw [e]; exact List.mem_append_right _ (List.mem_singleton.mpr rfl))
  have mem : ∀ u, u ∈ w → u ∈ ks ++ [t] ∨ u ∈ w.dropLast ++ goals sds k t := fun u hu => by
    rw [e] at hu
    rcases List.mem_append.mp hu with q | q
    · exact .inr (List.mem_append_left _ q)
    · exact .inl (List.mem_append_right _ q)
  refine ⟨?_, fun u hu => ?_, fun u hu => ?_, fun u hu v hv => ?_, ?_⟩
  · rw [List.nodup_append]
    refine ⟨h.nodup, by simp, fun a ha b hb q => ?_⟩
    rw [List.mem_singleton.mp hb] at q
    exact ht (q ▸ ha)
  · rcases List.mem_append.mp hu with q | q
    · exact h.tl u q
    · rw [List.mem_singleton.mp q]; exact htl
  · rcases List.mem_append.mp hu with q | q
    · exact h.wtl u ((List.dropLast_sublist _).subset q)
    · exact htl.goal q
  · rcases List.mem_append.mp hu with q | q
    · rcases h.closed u q v hv with r | r
      · exact .inl (List.mem_append_left _ r)
      · exact mem v r
    · rw [List.mem_singleton.mp q] at hv
      exact .inr (List.mem_append_right _ hv)
  · rcases h.root with q | q
    · exact .inl (List.mem_append_left _ q)
    · exact mem _ q
theorem msr_old {ks w : List (List Nat)} {t : List Nat} (hl : w.getLast? = some t) : msr ks w.dropLast < msr ks w := by
  have e := congrArg List.length (snoc_of hl)
  rw [List.length_append] at e
  unfold msr
  simp only [List.length_cons, List.length_nil] at e
  omega
theorem msr_new {sds : List (List Nat)} {k : Nat} (hk : k ≤ 7) {ks w : List (List Nat)} {t : List Nat} (h : StpI sds k ks w) (hl : w.getLast? = some t) (ht : t ∉ ks) : msr (ks ++ [t]) (w.dropLast ++ goals sds k t) < msr ks w := by
  have e := congrArg List.length (snoc_of hl)
  have h1 := tails_le hk (h.new hl ht).nodup (h.new hl ht).tl
  have h2 := goals_len sds k t
  unfold msr
  simp only [List.length_append, List.length_cons, List.length_nil] at e h1 ⊢
  omega
theorem stp_is {sds : List (List Nat)} {k : Nat} (hk : k ≤ 7) : ∀ (n : Nat) (ks w : List (List Nat)), StpI sds k ks w → msr ks w < n → StpI sds k (stp sds k n ks w) []
  | 0, _, _, _, h => by omega
  | n + 1, ks, w, h, hm => by
    unfold stp
    cases hl : w.getLast? with
    | none =>
      have : w = [] := List.getLast?_eq_none_iff.mp hl
      subst this
      exact h
    | some t =>
      show StpI sds k (if t ∈ ks then _ else _) []
      by_cases ht : t ∈ ks
      · rw [if_pos ht]
        exact stp_is hk n _ _ (h.old hl ht) (by have := msr_old (ks := ks) hl; omega)
      · rw [if_neg ht]
        exact stp_is hk n _ _ (h.new hl ht) (by have := msr_new hk h hl ht; omega)
theorem StpI.start (sds : List (List Nat)) (k : Nat) : StpI sds k [] [[]] :=
  ⟨List.nodup_nil, fun t h => by simp at h, fun t h => by rw [List.mem_singleton.mp h]; exact Tl.nil k, fun t h => by simp at h, .inr (List.mem_singleton.mpr rfl)⟩
structure KeysI (sds : List (List Nat)) (k : Nat) (ks : List (List Nat)) : Prop where
  nodup : ks.Nodup
  tl : ∀ t ∈ ks, Tl k t
  closed : ∀ t ∈ ks, ∀ u ∈ goals sds k t, u ∈ ks
  root : [] ∈ ks
  len : ks.length ≤ 255
theorem keys_is {sds : List (List Nat)} {k : Nat} (hk : k ≤ 7) : KeysI sds k (keys sds k) := by
  have h := stp_is hk 1000 _ _ (StpI.start sds k) (by decide)
  refine ⟨h.nodup, h.tl, fun t ht u hu => ?_, ?_, tails_le hk h.nodup h.tl⟩
  · rcases h.closed t ht u hu with q | q
    · exact q
    · simp at q
  · rcases h.root with q | q
    · exact q
    · simp at q
theorem KeysI.step {sds : List (List Nat)} {k : Nat} {ks : List (List Nat)} (h : KeysI sds k ks) {t : List Nat} (ht : t ∈ ks) {c : Nat} (hc : c = 61 ∨ c = 47) (ho : okS sds t c = true) : tlK k (t ++ [c]) ∈ ks :=
  h.closed t ht _ (by
    unfold goals
    exact List.mem_map.mpr ⟨(c, tlK k (t ++ [c])), mem_stps.mpr ⟨hc, ho, rfl⟩, rfl⟩)
/-! ### rings -/
def rgo (k : Nat) (vis : List (List Nat)) (t : List Nat) (don : List Nat) : List Nat → List Nat
  | [] => []
  | c :: z => if tlK k (t ++ [c]) ∈ vis then (don ++ [c]).drop (vis.idxOf (tlK k (t ++ [c]))) else rgo k (vis ++ [tlK k (t ++ [c])]) (tlK k (t ++ [c])) (don ++ [c]) z
/-- the way so far: vis are all tails that were come by, behind done -/
structure RgI (sds : List (List Nat)) (k : Nat) (ks : List (List Nat)) (t0 : List Nat) (vis : List (List Nat)) (t don : List Nat) : Prop where
  len : vis.length = don.length + 1
  nodup : vis.Nodup
  mem : ∀ u ∈ vis, u ∈ ks
  at_ : ∀ i u, vis[i]? = some u → run sds k t0 (don.take i) = some u
  here : run sds k t0 don = some t
theorem RgI.start {sds : List (List Nat)} {k : Nat} {ks : List (List Nat)} {t0 : List Nat} (h : t0 ∈ ks) : RgI sds k ks t0 [t0] t0 [] :=
  ⟨rfl, by simp, fun u hu => by rw [List.mem_singleton.mp hu]; exact h, fun i u e => by
    cases i with
    | zero => exact e
    | succ i => simp at e, rfl⟩
theorem RgI.last {sds : List (List Nat)} {k : Nat} {ks : List (List Nat)} {t0 t don : List Nat} {vis : List (List Nat)} (h : RgI sds k ks t0 vis t don) : t ∈ vis := by
  have hl := h.len
  have e : vis[don.length]? = some vis[don.length] := List.getElem?_eq_getElem (by omega)
  have := h.at_ _ _ e
  rw [List.take_length, h.here] at this
  rw [Option.some.inj this]
  exact List.getElem_mem _
theorem RgI.step {sds : List (List Nat)} {k : Nat} {ks : List (List Nat)} (hk : KeysI sds k ks) {t0 t don : List Nat} {vis : List (List Nat)} (h : RgI sds k ks t0 vis t don) {c : Nat} (hc : c = 61 ∨ c = 47) (ho : okS sds t c = true) (hn : tlK k (t ++ [c]) ∉ vis) :
    RgI sds k ks t0 (vis ++ [tlK k (t ++ [c])]) (tlK k (t ++ [c])) (don ++ [c]) := by
  have hrun : run sds k t0 (don ++ [c]) = some (tlK k (t ++ [c])) := by
    rw [run_app, h.here]
    show run sds k t [c] = _
    rw [run_cons, if_pos ho]
    rfl
  refine ⟨by rw [List.length_append, List.length_append, h.len]; rfl, ?_, fun u hu => ?_, fun i u e => ?_, hrun⟩
  · rw [List.nodup_append]
    refine ⟨h.nodup, by simp, fun a ha b hb q => ?_⟩
    rw [List.mem_singleton.mp hb] at q
    exact hn (q ▸ ha)
  · rcases List.mem_append.mp hu with q | q
    · exact h.mem u q
    · rw [List.mem_singleton.mp q]
      exact hk.step (h.mem t h.last) hc ho
  · have hl := h.len
    by_cases hi : i < vis.length
    · rw [List.getElem?_append_left hi] at e
      rw [List.take_append_of_le_length (by omega)]
      exact h.at_ i u e
    · have hi2 := (List.getElem?_eq_some_iff.mp e).1
      rw [List.length_append, List.length_cons, List.length_nil] at hi2
      have : i = vis.length := by omega
      subst this
      rw [List.getElem?_append_right (Nat.le_refl _), Nat.sub_self] at e
      rw [List.take_of_length_le (by rw [List.length_append, hl]; exact Nat.le_refl _), hrun]
      exact e
/-- what a ring is found for: a way that comes by a tail twice -/
theorem rgo_is {sds : List (List Nat)} {k : Nat} {ks : List (List Nat)} (hk : KeysI sds k ks) {t0 : List Nat} : ∀ (z : List Nat) (vis : List (List Nat)) (t don : List Nat), RgI sds k ks t0 vis t don → Lk z → (run sds k t z).isSome = true →
    (∃ a r b u, don ++ z = a ++ (r ++ b) ∧ rgo k vis t don z = r ∧ r ≠ [] ∧ u ∈ ks ∧ run sds k t0 a = some u ∧ run sds k u r = some u) ∨ (rgo k vis t don z = [] ∧ don.length + z.length + 1 ≤ ks.length)
  | [], vis, t, don, h, _, _ => .inr ⟨rfl, by
      have := nodup_le h.nodup h.mem
      rw [h.len] at this
      exact this⟩
  | c :: z, vis, t, don, h, hz, hr => by
    have hc := hz c List.mem_cons_self
    rw [run_cons] at hr
    have ho : okS sds t c = true := by
      refine Classical.byContradiction fun e => ?_
      rw [if_neg e] at hr
      simp at hr
    rw [if_pos ho] at hr
    unfold rgo
    by_cases hm : tlK k (t ++ [c]) ∈ vis
    · rw [if_pos hm]
      have hj := List.idxOf_lt_length_of_mem hm
      have hg : vis[vis.idxOf (tlK k (t ++ [c]))]? = some (tlK k (t ++ [c])) := by
        rw [List.getElem?_eq_getElem hj]
        exact congrArg some (List.getElem_idxOf hj)
      have h1 := h.at_ _ _ hg
      generalize vis.idxOf (tlK k (t ++ [c])) = j at hj h1
      have hl := h.len
      have hfull : run sds k t0 (don ++ [c]) = some (tlK k (t ++ [c])) := by
        rw [run_app, h.here]
        show run sds k t [c] = _
        rw [run_cons, if_pos ho]
        rfl
      have esp : (don ++ [c]).take j = don.take j := List.take_append_of_le_length (by omega)
      have e2 : don ++ [c] = don.take j ++ (don ++ [c]).drop j := by
        rw [← esp, List.take_append_drop]
      refine .inl ⟨don.take j, (don ++ [c]).drop j, z, tlK k (t ++ [c]), ?_, rfl, fun q => ?_, h.mem _ hm, h1, ?_⟩
      · rw [← List.append_assoc, ← e2]
        simp
      · have := congrArg List.length q
        simp only [List.length_drop, List.length_append, List.length_cons, List.length_nil] at this
        omega
      · rw [e2, run_app, h1] at hfull
        exact hfull
    · rw [if_neg hm]
      have := rgo_is hk z _ _ _ (h.step hk hc ho hm) (fun d hd => hz d (List.mem_cons_of_mem _ hd)) hr
      rw [show don ++ c :: z = don ++ [c] ++ z by simp, show don.length + (c :: z).length = (don ++ [c]).length + z.length by simp; omega]
      exact this
/-! ### what bar tells -/
def betd (sds : List (List Nat)) (k : Nat) (g l : Int) (ks : List (List Nat)) (r : Nat) : List (List Nat) := ks.filter fun t => decide (optS sds k g l (r + 1) t ≠ optS sds k g l r t)
def barGo (sds : List (List Nat)) (k : Nat) (g l : Int) (ks : List (List Nat)) : Nat → Nat → BarR
  | 0, _ => .bar 0 []
  | n + 1, r => match betd sds k g l ks r with
    | [] => .bar (optS sds k g l r []).1 (optS sds k g l r []).2
    | t :: _ => if rgo k [t] t [] (optS sds k g l (r + 1) t).2 = [] then barGo sds k g l ks n (r + 1) else .ring [] (rgo k [t] t [] (optS sds k g l (r + 1) t).2)
theorem opt_fix {sds : List (List Nat)} {k : Nat} {g l : Int} {ks : List (List Nat)} (hk : KeysI sds k ks) {r : Nat} (hf : ∀ t ∈ ks, optS sds k g l (r + 1) t = optS sds k g l r t) : ∀ n, ∀ t ∈ ks, optS sds k g l (r + n) t = optS sds k g l r t
  | 0, t, _ => rfl
  | n + 1, t, ht => by
    have ih := opt_fix hk hf n
    rw [← hf t ht]
    show ((stps sds k t).map (cand g l (optS sds k g l (r + n)))).foldl pick (0, []) = ((stps sds k t).map (cand g l (optS sds k g l r))).foldl pick (0, [])
    congr 1
    refine List.map_congr_left fun p hp => ?_
    unfold cand
    rw [ih p.2 (hk.closed t ht _ (by unfold goals; exact List.mem_map.mpr ⟨p, hp, rfl⟩))]
theorem fix_bar {sds : List (List Nat)} {k : Nat} {g l : Int} {ks : List (List Nat)} (hs : SdK k sds) (hk : KeysI sds k ks) {r : Nat} (hr : r ≤ 1000) (hf : ∀ t ∈ ks, optS sds k g l (r + 1) t = optS sds k g l r t) :
    IsBar sds g l (optS sds k g l r []).1 (optS sds k g l r []).2 := by
  have h := optS_is (sds := sds) (k := k) (g := g) (l := l) r []
  have big : ∀ z, Lk z → Free sds z → Gd2 (optS sds k g l r []) (wor g l z, z) := fun z hz hfz => by
    have h2 := optS_is (sds := sds) (k := k) (g := g) (l := l) (r + z.length) []
    rw [opt_fix hk hf z.length [] hk.root] at h2
    exact h2.best z hz ((free_run hs).mp hfz) (by omega)
  refine ⟨h.lk, (free_run hs).mpr h.ok, h.is, fun z hz hfz => ?_, fun z hz hfz e => ?_, by have := h.len; omega⟩
  · rcases big z hz hfz with q | ⟨q, _⟩
    · exact Int.le_of_lt q
    · exact Int.le_of_eq q.symm
  · rcases big z hz hfz with q | ⟨_, q⟩
    · have q' : wor g l z < (optS sds k g l r []).1 := q
      omega
    · exact q
theorem ring_pos {sds : List (List Nat)} {k : Nat} {g l : Int} {r : Nat} {t a q b u : List Nat} (h : IsOpt sds k g l r t (optS sds k g l r t)) (e : (optS sds k g l r t).2 = a ++ (q ++ b)) (hq : q ≠ []) (h1 : run sds k t a = some u) (h2 : run sds k u q = some u) : 0 < wor g l q := by
  have hlk := h.lk
  have hok := h.ok
  have his := h.is
  have hle := h.len
  rw [e] at hlk hok his hle
  have hql : 0 < q.length := by
    cases q with
    | nil => exact absurd rfl hq
    | cons c q => exact Nat.succ_pos _
  have hb := h.best (a ++ b) (fun c hc => hlk c (by
    rcases List.mem_append.mp hc with x | x
    · exact List.mem_append_left _ x
    · exact List.mem_append_right _ (List.mem_append_right _ x))) (by
    rw [run_app, h1] at hok ⊢
    rw [Option.bind_some, run_app, h2] at hok
    exact hok) (by simp only [List.length_append] at hle ⊢; omega)
  rw [wor_app, wor_app] at his
  rcases hb with x | ⟨x, y⟩
  · have x' : wor g l (a ++ b) < (optS sds k g l r t).1 := x
    rw [wor_app] at x'
    omega
  · have y' : Sle (optS sds k g l r t).2 (a ++ b) := y
    have := y'.len
    rw [e] at this
    simp only [List.length_append] at this
    omega
theorem barGo_ok {sds : List (List Nat)} {k : Nat} {g l : Int} {ks : List (List Nat)} (hs : SdK k sds) (hk : KeysI sds k ks) : ∀ (n r : Nat), 256 < n + r → r ≤ 256 → BarOk sds g l (barGo sds k g l ks n r)
  | 0, r, h1, h2 => by omega
  | n + 1, r, h1, h2 => by
    unfold barGo
    cases hb : betd sds k g l ks r with
    | nil =>
      refine fix_bar hs hk (by omega) fun t ht => ?_
      refine Classical.byContradiction fun e => ?_
      have : t ∈ betd sds k g l ks r := List.mem_filter.mpr ⟨ht, decide_eq_true e⟩
      rw [hb] at this
      simp at this
    | cons t r2 =>
      have hm : t ∈ betd sds k g l ks r := by rw [hb]; exact List.mem_cons_self
      obtain ⟨ht, hne⟩ := List.mem_filter.mp hm
      have hne := of_decide_eq_true hne
      have hlen := optS_len hne
      have ho := optS_is (sds := sds) (k := k) (g := g) (l := l) (r + 1) t
      show BarOk sds g l (if rgo k [t] t [] (optS sds k g l (r + 1) t).2 = [] then _ else _)
      rcases rgo_is hk (optS sds k g l (r + 1) t).2 [t] t [] (RgI.start ht) ho.lk ho.ok with ⟨a, q, b, u, e1, e2, e3, e4, e5, e6⟩ | ⟨e1, e2⟩
      · rw [if_neg (by rw [e2]; exact e3), e2]
        rw [List.nil_append] at e1
        have hu := hk.tl u e4
        have hql : q.length ≤ 1000 := by
          have := congrArg List.length e1
          simp only [List.length_append] at this
          omega
        have hlk := ho.lk
        rw [e1] at hlk
        refine ⟨fun c hc => by simp at hc, fun c hc => hlk c (List.mem_append_right _ (List.mem_append_left _ hc)), fun m => ?_, ring_pos ho e1 e3 e5 e6, Nat.zero_le _, hql⟩
        rw [List.nil_append]
        exact run_free hs hu.fix (by rw [run_rp e6]; rfl)
      · rw [if_pos e1]
        rw [hlen, List.length_nil] at e2
        have := hk.len
        exact barGo_ok hs hk n (r + 1) (by omega) (by omega)
def mxL : List Nat → Nat
  | [] => 0
  | a :: l => max a (mxL l)
theorem mxL_ge : ∀ {l : List Nat} {x : Nat}, x ∈ l → x ≤ mxL l
  | a :: l, x, h => by
    rcases List.mem_cons.mp h with e | e
    · subst e; exact Nat.le_max_left _ _
    · exact Nat.le_trans (mxL_ge e) (Nat.le_max_right _ _)
theorem mxL_le : ∀ {l : List Nat} {m : Nat}, (∀ x ∈ l, x ≤ m) → mxL l ≤ m
  | [], m, _ => Nat.zero_le _
  | a :: l, m, h => Nat.max_le.mpr ⟨h a List.mem_cons_self, mxL_le fun x hx => h x (List.mem_cons_of_mem _ hx)⟩
def kM (sds : List (List Nat)) : Nat := mxL (sds.map List.length) - 1
def barM (sds : List (List Nat)) (g l : Int) : BarR := barGo sds (kM sds) g l (keys sds (kM sds)) 300 0
theorem SdK.of {n : Nat} {sds : List (List Nat)} (h : ∀ sd ∈ sds, Sd n sd) : SdK (kM sds) sds :=
  ⟨fun sd hs => (h sd hs).one, fun sd hs => by
    have := mxL_ge (List.mem_map.mpr ⟨sd, hs, rfl⟩ : sd.length ∈ sds.map List.length)
    have h1 := (h sd hs).one
    unfold kM
    omega, fun sd hs => (h sd hs).first⟩
theorem kM_le {sds : List (List Nat)} (h : ∀ sd ∈ sds, Sd 8 sd) : kM sds ≤ 7 := by
  have : mxL (sds.map List.length) ≤ 8 := mxL_le fun x hx => by
    obtain ⟨sd, hs, rfl⟩ := List.mem_map.mp hx
    exact (h sd hs).most
  unfold kM
  omega
theorem barM_ok {sds : List (List Nat)} {g l : Int} (h : ∀ sd ∈ sds, Sd 8 sd) : BarOk sds g l (barM sds g l) :=
  barGo_ok (SdK.of h) (keys_is (kM_le h)) 300 0 (by decide) (by decide)
end Sr

namespace L2
open PySem PySem.Spec PyProof.Rows LamX
/-! ### a lambda that captures nothing, as a known object -/
structure LF where
  qual : Str
  params : Arguments
  body : Expr
  scope : Scope
  c : Addr
abbrev LF.obj (F : LF) (pm ctv : Value) : Obj := PySem.W.kla_obj "<lambda>" F.qual F.params F.body F.scope [] pm F.c ctv
def LamO (f : Addr) (F : LF) : HO := .ext fun h => ∃ (pm ctv : Value), h.get? f = some (F.obj pm ctv)
theorem lamO_ne {f : Addr} {F : LF} (ps : Array Value) : LamO f F ≠ .tbl ps := fun z => by
  unfold LamO at z
  cases z
theorem upd_none' {H : Hp} {a b : Addr} {o : HO} (e : upd H a o b = Option.none) : H b = Option.none := by
  unfold upd at e
  split at e
  · cases e
  · exact e
section
variable {X : Cx} {pins : List (Addr × Obj)} {σ : St} {H : Hp} {s : Shared}
theorem inv_lam {F : LF} {t' : Nat} {pm ctv : Value} (I : Inv X pins σ H s) :
    Inv X pins σ (upd H s.heap.objs.size (LamO s.heap.objs.size F)) { s with heap := s.heap.push (F.obj pm ctv), toks := t' } := by
  refine I.laid (a := s.heap.objs.size) (fun b u e => Heap.get?_push_of_some _ e) (Nat.le_refl _) ?_
  have e : (s.heap.push (F.obj pm ctv)).get? s.heap.objs.size = some (F.obj pm ctv) := Heap.get?_push_size _ rfl
  exact ⟨⟨pm, ctv, e⟩, ⟨_, e⟩, fun h1 h2 ⟨p, t, z⟩ st => ⟨p, t, st _ z⟩⟩
end
/-! ### heaps between which the table at P may have grown -/
theorem tabS_upd {H : Hp} {P D : Addr} {q : Str} {o : HO} (t : TabS H P q) (h1 : ∀ ps, H D ≠ some (.tbl ps)) (h2 : ∀ φ, H D ≠ some (.ext φ)) : TabS (upd H D o) P q := by
  obtain ⟨ps, a, b, c⟩ := t
  refine ⟨ps, by rw [upd_ne (fun z => h1 ps (by rw [← z]; exact a))]; exact a, b, fun pos cv hc => ?_⟩
  obtain ⟨c0, e1, e2⟩ := c pos cv hc
  exact ⟨c0, e1, by rw [upd_ne (fun z => h2 _ (by rw [← z]; exact e2))]; exact e2⟩
structure SmT (P : Addr) (q : Str) (H H' : Hp) : Prop where
  k : ∀ b o, H b = some o → (∀ ps, o ≠ .tbl ps) → H' b = some o
  k' : ∀ b o, b ≠ P → H b = some o → H' b = some o
  t : TabS H P q → TabS H' P q
section
variable {P : Addr} {q : Str} {H H1 H2 H' : Hp}
theorem SmT.refl (H : Hp) : SmT P q H H := ⟨fun _ _ h _ => h, fun _ _ _ h => h, fun h => h⟩
theorem SmT.trans (a : SmT P q H H1) (b : SmT P q H1 H2) : SmT P q H H2 := ⟨fun c o h n => b.k c o (a.k c o h n) n, fun c o n h => b.k' c o n (a.k' c o n h), fun h => b.t (a.t h)⟩
theorem SmT.of (e : Same H H') : SmT P q H H' := ⟨fun b o h _ => e b o h, fun b o _ h => e b o h, fun h => h.ext e⟩
theorem SmT.new {p : Addr} {o : HO} (h : H p = none) : SmT P q H (upd H p o) := SmT.of fun b x e => by
  rw [upd_ne (ne_of_none e h)]
  exact e
theorem SmT.lst (e : SmT P q H H') {a : Addr} {xs : List V} (h : H a = some (.lst xs)) : H' a = some (.lst xs) := e.k _ _ h fun _ z => nomatch z
theorem SmT.tup (e : SmT P q H H') {a : Addr} {xs : List V} (h : H a = some (.tup xs)) : H' a = some (.tup xs) := e.k _ _ h fun _ z => nomatch z
theorem SmT.dK (e : SmT P q H H') {a : Addr} {xs : List (Key × V)} (h : H a = some (.dK xs)) : H' a = some (.dK xs) := e.k _ _ h fun _ z => nomatch z
theorem SmT.frz (e : SmT P q H H') {a : Addr} {o : Obj} {u : HO} (h : H a = some (.frz o u)) : H' a = some (.frz o u) := e.k _ _ h fun _ z => nomatch z
theorem SmT.rdD (e : SmT P q H H') {a : Addr} {xs : List (Key × V)} (h : Rd H a (.dK xs)) : Rd H' a (.dK xs) := by
  rcases h with h | ⟨o, h⟩
  · exact .inl (e.dK h)
  · exact .inr ⟨o, e.frz h⟩
theorem SmT.seq {K : PySem.W.Frag} {a : Addr} {xs : List V} (e : SmT P q H H') (h : SqL K H a xs) : SqL K H' a xs := by
  rcases h with (h | ⟨o, h⟩) | h
  · exact .inl (.inl (e.lst h))
  · exact .inl (.inr ⟨o, e.frz h⟩)
  · exact .inr h
theorem SmT.seqT {K : PySem.W.Frag} {a : Addr} {xs : List V} (e : SmT P q H H') (h : SqT K H a xs) : SqT K H' a xs := by
  rcases h with (h | ⟨o, h⟩) | h
  · exact .inl (.inl (e.tup h))
  · exact .inl (.inr ⟨o, e.frz h⟩)
  · exact .inr h
theorem SmT.free (e : SmT P q H H') (hT : TabS H P q) {l : Addr} (h : H' l = none) : H l = none := by
  cases z : H l with
  | none => rfl
  | some o =>
    by_cases hl : l = P
    · subst hl
      obtain ⟨ps', h1, _⟩ := e.t hT
      rw [h1] at h
      cases h
    · rw [e.k' l o hl z] at h
      cases h
/-- a thing that was new at the start, no table, no code object, is written -/
theorem SmT.put (e : SmT P q H H') {D : Addr} {o : HO} (hD : H D = none) (h1 : ∀ ps, H' D ≠ some (.tbl ps)) (h2 : ∀ φ, H' D ≠ some (.ext φ)) : SmT P q H (upd H' D o) :=
  ⟨fun b x hb n => by rw [upd_ne (ne_of_none hb hD)]; exact e.k b x hb n, fun b x hn hb => by rw [upd_ne (ne_of_none hb hD)]; exact e.k' b x hn hb, fun t => tabS_upd (e.t t) h1 h2⟩
theorem SmT.putD (e : SmT P q H H') {D : Addr} {o : HO} {kvs : List (Key × V)} (hD : H D = none) (h : H' D = some (.dK kvs)) : SmT P q H (upd H' D o) :=
  e.put hD (fun _ z => by rw [h] at z; cases z) fun _ z => by rw [h] at z; cases z
theorem SmT.putL (e : SmT P q H H') {D : Addr} {o : HO} {xs : List V} (hD : H D = none) (h : H' D = some (.lst xs)) : SmT P q H (upd H' D o) :=
  e.put hD (fun _ z => by rw [h] at z; cases z) fun _ z => by rw [h] at z; cases z
theorem SmT.lock {sp : Addr} {od : Obj} {kvs : List (Key × V)} (hd : H sp = some (.dK kvs)) (e : SmT P q (upd H sp (.frz od (.dK kvs))) H2) : SmT P q H (upd H2 sp (.dK kvs)) := by
  have hf : H2 sp = some (.frz od (.dK kvs)) := e.frz upd_same
  refine ⟨fun b o hb n => ?_, fun b o hn hb => ?_, fun t => tabS_upd (e.t (tabS_upd t (fun _ z => by rw [hd] at z; cases z) fun _ z => by rw [hd] at z; cases z)) (fun _ z => by rw [hf] at z; cases z) fun _ z => by rw [hf] at z; cases z⟩
  · by_cases h : b = sp
    · rw [h, hd] at hb
      rw [h, upd_same]
      exact hb
    · rw [upd_ne h]
      exact e.k b o (by rw [upd_ne h]; exact hb) n
  · by_cases h : b = sp
    · rw [h, hd] at hb
      rw [h, upd_same]
      exact hb
    · rw [upd_ne h]
      exact e.k' b o hn (by rw [upd_ne h]; exact hb)
theorem Same.lockD {sp : Addr} {od : Obj} {kvs : List (Key × V)} (hd : H sp = some (.dK kvs)) (e : Same (upd H sp (.frz od (.dK kvs))) H2) : Same H (upd H2 sp (.dK kvs)) := fun b o hb => by
  by_cases h : b = sp
  · rw [h, hd] at hb
    rw [h, upd_same]
    exact hb
  · rw [upd_ne h]
    exact e b o (by rw [upd_ne h]; exact hb)
theorem Same.putN (e : Same H H') {D : Addr} {o : HO} (hD : H D = none) : Same H (upd H' D o) := fun b x hb => by
  rw [upd_ne (ne_of_none hb hD)]
  exact e b x hb
theorem Same.rdD (e : Same H H') {a : Addr} {xs : List (Key × V)} (h : Rd H a (.dK xs)) : Rd H' a (.dK xs) := by
  rcases h with h | ⟨o, h⟩
  · exact .inl (e _ _ h)
  · exact .inr ⟨o, e _ _ h⟩
end
def tLamF (P : Addr) (q : Str) (params : Arguments) (body : Expr) (scope : Scope) : TE := fun _ H Q => TabS H P q ∧
  ∀ (f c' : Addr) (H1 : Hp), SmT P q H H1 → H f = none → H1 f = some (LamO f ⟨q, params, body, scope, c'⟩) → H1 c' = some (CodeO c' q) → Q (.ref f) H1
theorem pe_lamF {X : Cx} {c P : Addr} {params : Arguments} {body : Expr} {scope : Scope} {pos : Pos} (TB : TabB X.base X.mg c P) (hcode : X.env.code = .ref c) (hcl : closureFor scope X.env = pure []) (hdef : defaultsOf params X.env = ([], [])) :
    PE X (.Lambda params body scope pos) (tLamF P (X.env.qual ++ "<lambda>") params body scope) := by
  refine ⟨fun pins s σ H Q I h => ?_⟩
  obtain ⟨⟨ps, hP, ht, ha⟩, h⟩ := h
  refine PySem.W.kla_eval hdef ?_
  have bP : s.heap.BuiltinsAt X.mg P := TB.bm.keeps I.bk
  have hP' : s.heap.get? P = some { cls := .none, data := .fields ps } := I.hok P _ hP
  cases hc : codeAmong pos ps.toList with
  | none =>
    refine PySem.W.kla_makeFunction (mg := X.mg) (c := c) (P := P) (ps := ps) hcl I.ok.glob (I.mod.glob.keeps I.bk) hcode (TB.code.keeps I.bk) hP' ht hc TB.gP bP fun c' ctv h' tk hx hge hlt hrec htb => ?_
    obtain ⟨c2, oc, vs, t, e2, hoc, hd, hv⟩ := hrec
    cases e2
    have nC : H c' = none := I.hok.fresh hge
    have I1 := inv_table (t' := tk) (more := #[rawInt pos.line, rawInt pos.col, .ref c']) (h' := h') I hP (fun b o hb e => hx b o hb e) htb hge ⟨oc, vs, t, hoc, hd, hv⟩
    have hE : ExtN H (upd (upd H P (.tbl (ps ++ #[rawInt pos.line, rawInt pos.col, .ref c']))) c' (CodeO c' (X.env.qual ++ "<lambda>"))) := fun b o e n => by
      rw [upd_ne (ne_of_none e nC), upd_ne (fun z => n ps (Option.some.inj (e.symm.trans (by rw [z]; exact hP))))]
      exact e
    have hE' : ∀ b o, b ≠ P → H b = some o → upd (upd H P (.tbl (ps ++ #[rawInt pos.line, rawInt pos.col, .ref c']))) c' (CodeO c' (X.env.qual ++ "<lambda>")) b = some o := fun b o n e => by
      rw [upd_ne (ne_of_none e nC), upd_ne n]
      exact e
    have eL : (ps ++ #[rawInt pos.line, rawInt pos.col, .ref c']).toList = ps.toList ++ [rawInt pos.line, rawInt pos.col, .ref c'] := by simp
    have T1 : TabS (upd (upd H P (.tbl (ps ++ #[rawInt pos.line, rawInt pos.col, .ref c']))) c' (CodeO c' (X.env.qual ++ "<lambda>"))) P (X.env.qual ++ "<lambda>") := by
      refine ⟨_, by rw [upd_ne (ne_of_none hP nC), upd_same], by rw [eL]; exact PySem.TriplesOk_snoc _ _ _ _ ht, fun p' cv hcv => ?_⟩
      rw [eL] at hcv
      rcases among_app _ ht hcv with z | z
      · obtain ⟨c0, e1, e2⟩ := ha p' cv z
        exact ⟨c0, e1, hE _ _ e2 codeO_ne⟩
      · exact ⟨c', z, upd_same⟩
    have hcc : upd (upd H P (.tbl (ps ++ #[rawInt pos.line, rawInt pos.col, .ref c']))) c' (CodeO c' (X.env.qual ++ "<lambda>")) c' = some (CodeO c' (X.env.qual ++ "<lambda>")) := upd_same
    generalize upd (upd H P (.tbl (ps ++ #[rawInt pos.line, rawInt pos.col, .ref c']))) c' (CodeO c' (X.env.qual ++ "<lambda>")) = H1 at I1 hE hE' T1 hcc
    have nf : H1 h'.objs.size = none := I1.hok.fresh (Nat.le_refl _)
    have sm : ∀ b o, H1 b = some o → upd H1 h'.objs.size (LamO h'.objs.size ⟨X.env.qual ++ "<lambda>", params, body, scope, c'⟩) b = some o := fun b o e => by
      rw [upd_ne (ne_of_none e nf)]
      exact e
    have nfH : H h'.objs.size = none := I.hok.fresh (Nat.le_trans hge (Nat.le_of_lt hlt))
    exact ⟨.ref h'.objs.size, _, inv_lam (F := ⟨X.env.qual ++ "<lambda>", params, body, scope, c'⟩) (t' := tk) I1, rfl, h _ c' _ (SmT.trans ⟨fun b o e n => hE b o e n, hE', fun _ => T1⟩ (SmT.of sm)) nfH upd_same (sm _ _ hcc)⟩
  | some cv =>
    obtain ⟨c', e, hco⟩ := ha pos cv hc
    subst e
    refine PySem.W.kla_makeFunctionHit (mg := X.mg) (c := c) (P := P) (ps := ps) hcl I.ok.glob (I.mod.glob.keeps I.bk) hcode (TB.code.keeps I.bk) hP' ht hc bP fun ctv h' tk hx hsz => ?_
    have I1 : Inv X pins σ H { s with heap := h', toks := tk } := I.kept hx
    have nf : H h'.objs.size = none := I.hok.fresh hsz
    have sm : ∀ b o, H b = some o → upd H h'.objs.size (LamO h'.objs.size ⟨X.env.qual ++ "<lambda>", params, body, scope, c'⟩) b = some o := fun b o e => by
      rw [upd_ne (ne_of_none e nf)]
      exact e
    exact ⟨.ref h'.objs.size, _, inv_lam (F := ⟨X.env.qual ++ "<lambda>", params, body, scope, c'⟩) (t' := tk) I1, rfl, h _ c' _ (SmT.of sm) nf upd_same (sm _ _ hco)⟩
/-! ### its call -/
theorem lam_call {P : Program} {w : World} {K : PySem.W.Frag} {mg : Str → Option Value} {base : Heap} {k : Nat} {F : LF} {f : Addr} {pm ctv : Value} {N ps : List Str} {A : Around} {outer : List Env} {s : Shared} {H : Hp} {us : List Value} {vs : List V} {Q : VK}
    (S : FnScope N ps F.scope) (ho : s.heap.get? f = some (F.obj pm ctv)) (hcode : s.heap.CodeRec (.ref F.c) F.qual) (hb : bindArgs (PySem.W.kla_fn "<lambda>" F.qual F.params F.body F.scope [] pm (.ref F.c) ctv) ⟨us, []⟩ = pure (ps.zip us))
    (r : Vals vs us) (hl : vs.length = ps.length) (hr : Room (k + 1) A) (e0 : Env0 P w K mg base A outer s H)
    (hbody : Room k (A.deeper (envOfC F.qual F.scope s.heap.objs.size f (.ref F.c))) → ∃ t, PE (cxOf CX0 P w K mg base N F.qual F.scope f (.ref F.c) A outer s H E0) F.body t ∧ t (start N vs) H Q) :
    codeAny (model P w) A (.call (.ref f) ⟨us, []⟩) (CR CX0 outer P w H s Q E0) s := by
  have lim : s.heap.NoLimit := e0.mod.nolimit.keeps fun b o e => (e0.bs b o e).1
  have hkind : ∀ y ∈ ps.zip us, F.scope.names.lookup y.1 = some .local ∨ (F.scope.names.lookup y.1 = some .cell ∧ ((cellsFrom (s.heap.objs.size + 1) F.scope.names []).lookup y.1).isSome = true) := fun ⟨n, v⟩ hy => by
    rcases S.par n (List.of_mem_zip hy).1 with q | q
    · exact .inl q
    · exact .inr ⟨q, PySem.W.cellsFrom_some _ _ _ (.inl q)⟩
  refine PySem.W.kla_callFunE hr.depth ho rfl S.co S.gen rfl hcode ?_
  rw [hb]
  refine wpAny_pure ?_
  refine wpAny_newFunctionEnv_cells S.kind hkind fun env he s1 x => ?_
  subst he
  refine ⟨lim.keeps x.toInCall.keep, ?_⟩
  obtain ⟨t, ht, hq⟩ := hbody (hr.deeper _)
  have I : Inv (cxOf CX0 P w K mg base N F.qual F.scope f (.ref F.c) A outer s H E0) [] (start N vs) H s1 := inv_start S hr.hd e0 hl r x
  refine PySem.W.kla_codeExpr (wpAny_mono (ht.run [] s1 (start N vs) H Q I hq) (fun v s' hs => ?_) fun e s' hs => hs)
  obtain ⟨w', H', J, rv, q⟩ := hs
  exact ⟨w', H', J.os, J.bare, J.base, J.hok, rv, q⟩
/-! ### max(xs, key=lambda x: ..), the keys pairs of ints -/
def MxIt (H : Hp) (t : Addr) (p : Int × List Nat) : Prop := H t = some (.tup [.int p.1, .str (Sr.S p.2)]) ∧ p.2.length ≤ 100000
def keyT (p : Int × List Nat) : HO := .tup [.int p.1, .int (-((p.2.length : Nat) : Int))]
def rMaxK (K : PySem.W.Frag) (q : Str) (params : Arguments) (body : Expr) (scope : Scope) : List V → List V → Hp → VK → Prop := fun vs zs H Q => ∃ (a f c' : Addr) (ts : List Addr) (p0 : Int × List Nat) (ps : List (Int × List Nat)),
  vs = [V.ref a] ∧ zs = [V.ref f] ∧ SqL K H a (ts.map V.ref) ∧ H f = some (LamO f ⟨q, params, body, scope, c'⟩) ∧ H c' = some (CodeO c' q) ∧ ts.length = ps.length + 1 ∧ (∀ (i : Nat) t p, ts[i]? = some t → (p0 :: ps)[i]? = some p → MxIt H t p) ∧
  ∀ (i : Nat) t H', ts[i]? = some t → (p0 :: ps)[i]? = some (ps.foldl Sr.pick p0) → Same H H' → Q (.ref t) H'
theorem pair_reads {X : Cx} {pins : List (Addr × Obj)} {σ : St} {H : Hp} {s : Shared} {a : Addr} {x y : Int} (I : Inv X pins σ H s) (h : H a = some (.tup [.int x, .int y])) : ∃ as, Reads s.heap (.ref a) (.tuple [.int x, .int y]) as := by
  obtain ⟨its, r, ⟨o, ho, hc, n, hd⟩, _⟩ := I.tuple (SqT.of h)
  obtain ⟨u, w, rfl, ⟨t1, rfl⟩, ⟨t2, rfl⟩⟩ := vals2 r
  exact ⟨_, .tuple ho hc hd (.cons (.int _ _) (.cons (.int _ _) .nil))⟩
theorem vals_refs_eq : ∀ {ts : List Addr} {us : List Value}, Vals (ts.map V.ref) us → us = ts.map Value.ref
  | [], _, .nil => rfl
  | t :: ts, _, .cons r rr => by
    have e : _ = Value.ref t := r
    rw [e, vals_refs_eq rr]
    rfl
theorem bet_lt (p q : Int × List Nat) : PySem.W.dataLt (.tuple [.int q.1, .int (-((q.2.length : Nat) : Int))]) (.tuple [.int p.1, .int (-((p.2.length : Nat) : Int))]) = Sr.bet q p := by
  rw [PySem.W.dataLt_ii]
  unfold Sr.bet
  rw [Bool.eq_iff_iff]
  simp only [decide_eq_true_eq, Bool.or_eq_true, Bool.and_eq_true]
  omega
section
variable {X : Cx} {k : Nat} {q y : Str} {params : Arguments} {body : Expr} {scope : Scope} {N : List Str} {tb : TE}
theorem max_loop (hc : X.calm = true) (hr : Room (k + 2) X.A) (S : FnScope N [y] scope) (hb : ∀ (c : Addr) (pm ctv u : Value), bindArgs (PySem.W.kla_fn "<lambda>" q params body scope [] pm (.ref c) ctv) ⟨[u], []⟩ = pure ([y].zip [u]))
    (hbody : ∀ (c f : Addr) (A : Around) (outer : List Env) (s : Shared) (H : Hp), Room k (A.deeper (envOfC q scope s.heap.objs.size f (.ref c))) → PE (cxOf CX0 X.prog X.w X.K X.mg X.base N q scope f (.ref c) A outer s H E0) body tb)
    (hkey : ∀ (t : Addr) (p : Int × List Nat) (H : Hp) (Q : VK), MxIt H t p → (∀ kp H', Same H H' → H kp = none → H' kp = some (keyT p) → Q (.ref kp) H') → tb (start N [.ref t]) H Q)
    {pins : List (Addr × Obj)} {σ : St} {H0 : Hp} {a f c' I0 S0 : Addr} {ts : List Addr} {p0 : Int × List Nat} {ps : List (Int × List Nat)} {R : Result → Shared → Prop} (hs0 : SqL X.K H0 a (ts.map V.ref)) (hf0 : H0 f = some (LamO f ⟨q, params, body, scope, c'⟩)) (hc0 : H0 c' = some (CodeO c' q))
    (hlen : ts.length = ps.length + 1) (hit0 : ∀ (i : Nat) t p, ts[i]? = some t → (p0 :: ps)[i]? = some p → MxIt H0 t p) (hfp : FpOk X pins H0 I0) (haI : a ≠ I0)
    (hR : ∀ (i : Nat) t H' s', ts[i]? = some t → (p0 :: ps)[i]? = some (ps.foldl Sr.pick p0) → Same H0 H' → Inv X pins σ H' s' → R (.ok (.ret (.ref t))) s') :
    ∀ (r j : Nat) (s : Shared) (H : Hp) (cur : List V), ts.length - j = r → j ≤ ts.length → Inv X pins σ H s → Same H0 H → H I0 = none → s.heap.IsListIter I0 a j → H S0 = some (.lst cur) → H0 S0 = none →
      (j = 0 ∧ cur = [] ∨ ∃ (n i : Nat) (t kp : Addr), j = n + 1 ∧ cur = [.ref t, .ref kp] ∧ ts[i]? = some t ∧ (p0 :: ps)[i]? = some ((ps.take n).foldl Sr.pick p0) ∧ H kp = some (keyT ((ps.take n).foldl Sr.pick p0))) →
      codeAny (model X.prog X.w) X.A (.builtin "max.loop" ⟨[.ref I0, .ref f, .ref S0], []⟩) R s := by
  have hname : (toString "max" ++ toString ".loop" : String) = "max.loop" := by decide
  have hu := hr.units
  have itl : ∀ {H : Hp} {s : Shared}, Inv X pins σ H s → Same H0 H → s.heap.IsList a (ts.map Value.ref).toArray := fun {H s} I sm => by
    obtain ⟨its, rv, hl, _⟩ := I.list (sm.seq hs0)
    rw [← vals_refs_eq rv]
    exact hl.isList
  have hsz : (ts.map Value.ref).toArray.size = ts.length := by rw [List.size_toArray, List.length_map]
  intro r
  induction r with
  | zero =>
    intro j s H cur hr0 hj I sm nI hit hS nS hcur
    have hjn : j = ts.length := by omega
    have hh : X.A.handled = none := I.ok.hd hc
    have W := Walks.list (prog := X.prog) (w := X.w) (A := X.A.in1) hh I0 a haI (ts.map Value.ref).toArray
    obtain ⟨n, i, t, kp, ej, rfl, ht, hp, hk⟩ : ∃ (n i : Nat) (t kp : Addr), j = n + 1 ∧ cur = [.ref t, .ref kp] ∧ ts[i]? = some t ∧ (p0 :: ps)[i]? = some ((ps.take n).foldl Sr.pick p0) ∧ H kp = some (keyT ((ps.take n).foldl Sr.pick p0)) := by
      rcases hcur with ⟨e, _⟩ | e
      · omega
      · exact e
    obtain ⟨_, its, ne, rv, _, hSo⟩ := I.lstM hS
    obtain ⟨u1, u2, rfl, e1, e2⟩ := vals2 rv
    obtain rfl : u1 = Value.ref t := e1
    obtain rfl : u2 = Value.ref kp := e2
    have nSI : S0 ≠ I0 := fun z => by rw [z, nI] at hS; cases hS
    refine codeAny_builtin F.entry_max_loop ?_
    rw [Around.under_plainId F.plain_max_loop _]
    show wpAny _ X.A.in1 (seqItems? (.ref S0) >>= _) _ _ s
    refine wpAny_bind (wpAny_seqItems hSo rfl ?_)
    show wpAny _ X.A.in1 (tryCatch (pyNext (.ref I0)) _ >>= _) _ _ s
    refine wpAny_bind (wpAny_tryCatch (W.done _ _ _ ⟨by rw [hsz, ← hjn]; exact hit, itl I sm⟩ fun h' tk' hk' => ?_))
    have I1 : Inv X pins σ H { s with heap := h', toks := tk' } := I.turned (t' := tk') (fun b o hb e => hk' b o (by simpa using hb) e) nI hfp.2.1 hfp.2.2.2.1 hfp.2.2.2.2.1 hfp.2.2.2.2.2
    have hS' := hk' S0 _ (by simpa using nSI) hSo
    show wpAny _ X.A.in1 (updateSeq S0 (fun _ => #[]) >>= _) _ _ _
    refine wpAny_bind ?_
    refine wpAny_updateSeq hS' rfl (wpAny_bind (wpAny_letGo (wpAny_pure ?_)))
    have I2 := I1.lset (l := S0) (its' := []) (ys := []) (f := fun _ => #[]) (t' := tk') hS hS' rfl .nil (Nat.zero_le _)
    have en : n = ps.length := by omega
    refine hR i t _ _ ht ?_ (fun b o e => ?_) I2
    · rw [hp, en, List.take_length]
    · rw [upd_ne (ne_of_none e nS)]
      exact sm b o e
  | succ r ih =>
    intro j s H cur hr0 hj I sm nI hit hS nS hcur
    have hlt : j < ts.length := by omega
    have hh : X.A.handled = none := I.ok.hd hc
    have W := Walks.list (prog := X.prog) (w := X.w) (A := X.A.in1) hh I0 a haI (ts.map Value.ref).toArray
    obtain ⟨_, its, ne, rv, _, hSo⟩ := I.lstM hS
    have nSI : S0 ≠ I0 := fun z => by rw [z, nI] at hS; cases hS
    refine codeAny_builtin F.entry_max_loop ?_
    rw [Around.under_plainId F.plain_max_loop _]
    show wpAny _ X.A.in1 (seqItems? (.ref S0) >>= _) _ _ s
    refine wpAny_bind (wpAny_seqItems hSo rfl ?_)
    show wpAny _ X.A.in1 (tryCatch (pyNext (.ref I0)) _ >>= _) _ _ s
    refine wpAny_bind (wpAny_tryCatch (W.item j _ _ _ (by rw [hsz]; exact hlt) ⟨hit, itl I sm⟩ fun v h' tk' hP hst' hk' => ?_))
    have htj : ts[j]? = some ts[j] := List.getElem?_eq_getElem hlt
    have hv : v = Value.ref ts[j] := by
      have hP' : (ts.map Value.ref).toArray[j]? = some v := hP
      rw [List.getElem?_toArray, List.getElem?_map, htj] at hP'
      exact (Option.some.inj hP').symm
    subst hv
    have hpj : j < (p0 :: ps).length := by rw [List.length_cons]; omega
    have hpj' : (p0 :: ps)[j]? = some (p0 :: ps)[j] := List.getElem?_eq_getElem hpj
    have hmx := hit0 j _ _ htj hpj'
    generalize hpe : (p0 :: ps)[j] = pj at hpj' hmx
    generalize hte : ts[j] = tj at htj hmx
    have I1 : Inv X pins σ H { s with heap := h', toks := tk' } := I.turned (t' := tk') (fun b o hb e => hk' b o (by simpa using hb) e) nI hfp.2.1 hfp.2.2.2.1 hfp.2.2.2.2.1 hfp.2.2.2.2.2
    have hS1 := hk' S0 _ (by simpa using nSI) hSo
    obtain ⟨⟨oI, hoI, hoc, hod⟩, _⟩ := hst'
    show wpAny _ X.A.in1 (tryCatch (holding [.ref tj] (call (.ref f) [.ref tj])) _ >>= _) _ _ _
    obtain ⟨⟨pm, ctv, hfo⟩, _, _⟩ := I1.hok f _ (sm _ _ hf0)
    have hcr : ({ s with heap := h', toks := tk' } : Shared).heap.CodeRec (.ref c') q := by
      obtain ⟨⟨oc, vs, t, h1, h2, h3⟩, _, _⟩ := I1.hok c' _ (sm _ _ hc0)
      exact ⟨c', oc, vs, t, rfl, h1, h2, h3⟩
    have run := lam_call (P := X.prog) (w := X.w) (K := X.K) (mg := X.mg) (base := X.base) (F := ⟨q, params, body, scope, c'⟩) (us := [.ref tj]) (vs := [.ref tj]) (Q := fun v H' => ∃ kp, v = .ref kp ∧ Same H H' ∧ H kp = none ∧ H' kp = some (keyT pj)) S hfo hcr (hb _ _ _ _) (.cons rfl .nil) rfl hr.in1 I1.env0.in1
      (fun hr' => ⟨tb, hbody _ _ _ _ _ _ hr', hkey tj pj H _ ⟨sm _ _ hmx.1, hmx.2⟩ fun kp H' s1 n1 e1 => ⟨kp, rfl, s1, n1, e1⟩⟩)
    refine wpAny_bind (wpAny_tryCatch (wpAny_holding (wpAny_call (codeAny_mono run fun r2 s2 hq => ?_))))
    cases r2 with
    | error e => exact (show False from hq).elim
    | ok fl =>
      cases fl with
      | next => exact False.elim hq
      | brk => exact False.elim hq
      | cont => exact False.elim hq
      | ret u =>
        have nfI : I0 ∉ frs X.stack := fun z => by
          rcases List.mem_cons.mp (I1.stkSub _ z) with z | z
          · exact hfp.2.1 z
          · exact hfp.2.2.1 z
        have hI2 : s2.heap.get? I0 = some oI := by
          obtain ⟨_, _, _, _, un, _, _, _⟩ := hq
          exact un.keep I0 oI hoI nI nfI (by simp)
        have nI2 : ∀ H2 : Hp, Un (frs X.stack) [] H H2 h' s2.heap → H2 I0 = none := fun H2 un => un.free I0 oI hoI nI (by simp)
        obtain ⟨v2, H2, os, bare, un, hok, rv2, kp, rfl, sm2, nk, hkp⟩ := id hq
        obtain rfl : u = Value.ref kp := rv2
        have nI3 := nI2 H2 un
        have I2 : Inv X pins σ H2 s2 := by
          obtain ⟨v3, H3, J, _, ev, eH⟩ := I1.after (Q := fun v H' => v = .ref kp ∧ H' = H2) ⟨.ref kp, H2, os, bare, un, hok, rfl, rfl, rfl⟩
          rw [eH] at J
          exact J
        have smA : Same H0 H2 := sm.trans sm2
        have hS2 := sm2 _ _ hS
        obtain ⟨_, its2, ne2, rv3, _, hSo2⟩ := I2.lstM hS2
        have hit2 : s2.heap.IsListIter I0 a (j + 1) := ⟨oI, hI2, hoc, hod⟩
        -- the step's new best
        have upd_inv : Inv X pins σ (upd H2 S0 (.lst [.ref tj, .ref kp])) { s2 with heap := s2.heap.update S0 (Obj.mapSeq fun _ => #[.ref tj, .ref kp]), toks := s2.toks } :=
          I2.lset (l := S0) (its' := [.ref tj, .ref kp]) (ys := [.ref tj, .ref kp]) (f := fun _ => #[.ref tj, .ref kp]) (t' := s2.toks) hS2 hSo2 rfl (.cons rfl (.cons rfl .nil)) (by show 2 ≤ sizeLine; decide)
        have upd_sm : Same H0 (upd H2 S0 (.lst [.ref tj, .ref kp])) := fun b o e => by
          rw [upd_ne (ne_of_none e nS)]
          exact smA b o e
        have kS : kp ≠ S0 := fun z => by rw [z, hS] at nk; cases nk
        have upd_k : upd H2 S0 (.lst [.ref tj, .ref kp]) kp = some (keyT pj) := by rw [upd_ne kS]; exact hkp
        have upd_I : upd H2 S0 (.lst [.ref tj, .ref kp]) I0 = none := by rw [upd_ne nSI.symm]; exact nI3
        have upd_it : (s2.heap.update S0 (Obj.mapSeq fun _ => #[.ref tj, .ref kp])).IsListIter I0 a (j + 1) := ⟨oI, (Heap.get?_update_other _ _ nSI).trans hI2, hoc, hod⟩
        rcases hcur with ⟨j0, rfl⟩ | ⟨n, i, t, kb, ej, rfl, ht, hp, hkb⟩
        · -- the first one
          subst j0
          cases rv
          show wpAny _ X.A.in1 (updateSeq S0 (fun _ => #[.ref tj, .ref kp]) >>= _) _ _ _
          refine wpAny_bind ?_
          refine wpAny_updateSeq hSo2 rfl ?_
          rw [hname]
          have ep : p0 = pj := hpe
          refine wpAny_pure ⟨plainId_quiet F.plain_max_loop _, ih 1 _ _ _ (by omega) (by omega) upd_inv upd_sm upd_I upd_it upd_same nS (.inr ⟨0, 0, tj, kp, rfl, rfl, htj, by rw [ep]; rfl, by rw [List.take_zero, List.foldl_nil, ep]; exact upd_k⟩)⟩
        · subst ej
          obtain ⟨u1, u2, rfl, e1, e2⟩ := vals2 rv
          obtain rfl : u1 = Value.ref t := e1
          obtain rfl : u2 = Value.ref kb := e2
          have hnlt : n < ps.length := by rw [List.length_cons] at hpj; omega
          have hpn : ps[n] = pj := hpe
          generalize hbe : (ps.take n).foldl Sr.pick p0 = pb at hp hkb
          have hfold : (ps.take (n + 1)).foldl Sr.pick p0 = Sr.pick pb pj := by
            rw [List.take_succ_eq_append_getElem hnlt, List.foldl_append, hbe, hpn]
            rfl
          obtain ⟨as1, r1⟩ := pair_reads I2 hkp
          obtain ⟨as2, r2⟩ := pair_reads I2 (sm2 _ _ hkb)
          have cmp := PySem.W.rcGt_alike _ _ X.A.in1 s2 _ _ _ _ r1 r2 rfl (fun z => nomatch z) (by
            show X.A.units + 1 + min (PyData.depth _) (PyData.depth _) < cLine
            simp only [PyData.depth, PyData.depthAll]
            omega)
          rw [bet_lt pj pb] at cmp
          show wpAny _ X.A.in1 (tryCatch (holding [.ref tj, .ref kp] (richCompare .Gt (.ref kp) (.ref kb) >>= _)) _ >>= _) _ _ _
          refine wpAny_bind (wpAny_tryCatch (wpAny_holding (wpAny_bind (cmp X.prog X.w _ _ ?_))))
          refine wpAny_bind (wpAny_holding (wpAny_truthy_bool ?_))
          refine wpAny_bind (wpAny_letGo (wpAny_pure ?_))
          cases hbt : Sr.bet pb pj with
          | true =>
            have epick : Sr.pick pb pj = pj := if_pos hbt
            simp only [if_true]
            refine wpAny_bind ?_
            refine wpAny_updateSeq hSo2 rfl (wpAny_bind (wpAny_letGo ?_))
            rw [hname]
            refine wpAny_pure ⟨plainId_quiet F.plain_max_loop _, ih (n + 1 + 1) _ _ _ (by omega) (by omega) upd_inv upd_sm upd_I upd_it upd_same nS (.inr ⟨n + 1, n + 1, tj, kp, rfl, rfl, htj, by rw [hfold, epick]; exact hpj', by rw [hfold, epick]; exact upd_k⟩)⟩
          | false =>
            have epick : Sr.pick pb pj = pb := if_neg (by rw [hbt]; exact Bool.false_ne_true)
            simp only [Bool.false_eq_true, if_false]
            refine wpAny_bind (wpAny_letGo ?_)
            rw [hname]
            exact wpAny_pure ⟨plainId_quiet F.plain_max_loop _, ih (n + 1 + 1) _ _ _ (by omega) (by omega) I2 smA nI3 hit2 hS2 nS (.inr ⟨n + 1, i, t, kb, rfl, rfl, ht, by rw [hfold, epick]; exact hp, by rw [hfold, epick]; exact sm2 _ _ hkb⟩)⟩
theorem cr_maxKey (hc : X.calm = true) (hr : Room (k + 2) X.A) (S : FnScope N [y] scope) (hb : ∀ (c : Addr) (pm ctv u : Value), bindArgs (PySem.W.kla_fn "<lambda>" q params body scope [] pm (.ref c) ctv) ⟨[u], []⟩ = pure ([y].zip [u]))
    (hbody : ∀ (c f : Addr) (A : Around) (outer : List Env) (s : Shared) (H : Hp), Room k (A.deeper (envOfC q scope s.heap.objs.size f (.ref c))) → PE (cxOf CX0 X.prog X.w X.K X.mg X.base N q scope f (.ref c) A outer s H E0) body tb)
    (hkey : ∀ (t : Addr) (p : Int × List Nat) (H : Hp) (Q : VK), MxIt H t p → (∀ kp H', Same H H' → H kp = none → H' kp = some (keyT p) → Q (.ref kp) H') → tb (start N [.ref t]) H Q) :
    CallRK X (.builtin "max") [Str.ofString "key"] (rMaxK X.K q params body scope) := by
  intro pins s σ H xs zs us ws Q I rx rz h
  obtain ⟨a, f, c', ts, p0, ps, rfl, rfl, hs, hf, hcc, hlen, hit, hq⟩ := h
  obtain rfl := Vals.ref1 rx
  obtain ⟨w1, rfl, e1⟩ := vals1 rz
  obtain rfl : w1 = Value.ref f := e1
  have hh : X.A.handled = none := I.ok.hd hc
  have hname : (toString "max" ++ toString ".loop" : String) = "max.loop" := by decide
  obtain ⟨its, rv, hl, _⟩ := I.list hs
  refine PyProof.Rows.kmk_tree F.kind_max F.plain_max F.entry_max (PyProof.Rows.kmk_max_key _ _) ?_
  show wpAny _ X.A.in1 (Builtin.Builtins.bindParams "max" ["key", "default"] 0 ⟨[], [(Str.ofString "key", .ref f)]⟩ >>= _) _ _ s
  refine wpAny_bind (wpAny_of_eq (show Builtin.Builtins.bindParams "max" ["key", "default"] 0 ⟨[], [(Str.ofString "key", .ref f)]⟩ = pure [some (.ref f), none] from rfl) ?_)
  refine wpAny_bind (wpAny_pure ?_)
  refine wpAny_bind (wpAny_pyIter_list hl.isList ?_)
  have hsz1 : (s.heap.push { cls := .type "list_iterator", data := .fields #[.ref a, .int 0 0] }).objs.size = s.heap.objs.size + 1 := size_push' ..
  have I1 : Inv X pins σ H { s with heap := s.heap.push { cls := .type "list_iterator", data := .fields #[.ref a, .int 0 0] } } := I.kept (t' := s.toks) fun b o e => Heap.get?_push_of_some _ e
  refine wpAny_bind (wpAny_newList ?_ (Nat.zero_le _))
  rw [hname]
  have nS : H (s.heap.push { cls := .type "list_iterator", data := .fields #[.ref a, .int 0 0] }).objs.size = none := I1.hok.fresh (Nat.le_refl _)
  have I2 := I1.laid (a := (s.heap.push { cls := .type "list_iterator", data := .fields #[.ref a, .int 0 0] }).objs.size) (o := .lst []) (t' := s.toks) (h' := (s.heap.push { cls := .type "list_iterator", data := .fields #[.ref a, .int 0 0] }).push (seqObj "list" #[] 0)) (fun b o e => Heap.get?_push_of_some _ e) (Nat.le_refl _)
    ⟨Nat.zero_le _, [], 0, .nil, Heap.get?_push_size _ rfl⟩
  have alt : a < s.heap.objs.size := by
    obtain ⟨o, ho, _⟩ := hl.isList
    exact Heap.lt_size ho
  have nI : H s.heap.objs.size = none := I.hok.fresh (Nat.le_refl _)
  have nSI : s.heap.objs.size ≠ (s.heap.push { cls := .type "list_iterator", data := .fields #[.ref a, .int 0 0] }).objs.size := by rw [hsz1]; exact Nat.ne_of_lt (Nat.lt_succ_self _)
  refine wpAny_pure ⟨plainId_quiet F.plain_max_loop _, ?_⟩
  refine max_loop (S0 := (s.heap.push { cls := .type "list_iterator", data := .fields #[.ref a, .int 0 0] }).objs.size) hc hr S hb hbody hkey hs hf hcc hlen hit (I.fpOk (Nat.le_refl _) nI) (Nat.ne_of_lt alt) (fun i t H' s' h1 h2 h3 J => ⟨.ref t, H', J, rfl, hq i t H' h1 h2 h3⟩) ts.length 0 _ _ [] (by omega) (Nat.zero_le _) I2 (fun b o e => ?_) ?_ ?_ upd_same nS (.inl ⟨rfl, rfl⟩)
  · rw [upd_ne (ne_of_none e nS)]
    exact e
  · rw [upd_ne nSI]
    exact nI
  · exact ⟨_, Heap.get?_push_of_some _ (Heap.get?_push_size _ rfl), rfl, rfl⟩
end
/-! ### max(xs, default=d), xs ints -/
def rMaxD (K : PySem.W.Frag) : List V → List V → Hp → VK → Prop := fun vs zs H Q => ∃ (a : Addr) (ns : List Int) (d : Int), vs = [V.ref a] ∧ zs = [V.int d] ∧ SqL K H a (ns.map V.int) ∧ ns ≠ [] ∧ ∀ m ∈ ns, (∀ x ∈ ns, x ≤ m) → Q (.int m) H
theorem foldl_max : ∀ (ns : List Int) (n : Int), (ns.foldl max n = n ∨ ns.foldl max n ∈ ns) ∧ n ≤ ns.foldl max n ∧ ∀ x ∈ ns, x ≤ ns.foldl max n
  | [], n => ⟨.inl rfl, Int.le_refl _, fun x h => by simp at h⟩
  | k :: ns, n => by
    obtain ⟨h1, h2, h3⟩ := foldl_max ns (max n k)
    rw [List.foldl_cons]
    refine ⟨?_, by omega, fun x hx => ?_⟩
    · rcases h1 with h1 | h1
      · rw [h1]
        by_cases e : n ≤ k
        · exact .inr (by rw [Int.max_eq_right e]; exact List.mem_cons_self)
        · exact .inl (by omega)
      · exact .inr (List.mem_cons_of_mem _ h1)
    · rcases List.mem_cons.mp hx with e | e
      · subst e; omega
      · exact h3 x e
theorem reads_ints {h : Heap} : ∀ {ns : List Int} {us : List Value}, Vals (ns.map V.int) us → ReadsAll h us (ns.map PyData.int) []
  | [], _, .nil => .nil
  | n :: ns, _, .cons ⟨t, e⟩ rr => by
    subst e
    exact .cons (as := []) (bs := []) (.int _ _) (reads_ints rr)
theorem alike_ints (ns : List Int) : PySem.W.AlikeAll (ns.map PyData.int) := by
  refine ⟨fun x hx y hy => ?_, fun x hx => ?_⟩
  · obtain ⟨i, _, rfl⟩ := List.mem_map.mp hx
    obtain ⟨j, _, rfl⟩ := List.mem_map.mp hy
    rfl
  · obtain ⟨i, _, rfl⟩ := List.mem_map.mp hx
    exact fun z => nomatch z
theorem cr_maxD {X : Cx} (hc : X.calm = true) (hu : X.A.units + 64 < cLine) : CallRK X (.builtin "max") [Str.ofString "default"] (rMaxD X.K) := by
  intro pins s σ H xs zs us ws Q I rx rz h
  obtain ⟨a, ns, d, rfl, rfl, hs, hne, q⟩ := h
  obtain rfl := Vals.ref1 rx
  obtain ⟨w1, rfl, t1, rfl⟩ := vals1 rz
  have hh : X.A.handled = none := I.ok.hd hc
  obtain ⟨its, rv, hl, _⟩ := I.list hs
  have hdep : PyData.depthAll (ns.map PyData.int) ≤ 1 := Sr.depth_ints ns
  refine PySem.W.max_list_default (as := []) hh hl.isList (xs := ns.map PyData.int) (show ReadsAll s.heap its _ _ from reads_ints rv) (alike_ints ns) (by omega) (fun e => ?_) fun y ys i v h' tk bs e hv hR hk => ?_
  · cases ns with
    | nil => exact absurd rfl hne
    | cons n ns => cases e
  · cases ns with
    | nil => cases e
    | cons n ns =>
      injection e with e1 e2
      subst e1 e2
      rw [PySem.W.maxD_ints] at hR
      cases hR with
      | int _ t =>
        obtain ⟨h1, h2, h3⟩ := foldl_max ns n
        refine ⟨.int _, H, I.kept (t' := tk) hk, ⟨t, rfl⟩, q _ ?_ fun x hx => ?_⟩
        · rcases h1 with h1 | h1
          · rw [h1]; exact List.mem_cons_self
          · exact List.mem_cons_of_mem _ h1
        · rcases List.mem_cons.mp hx with e | e
          · rw [e]; exact h2
          · exact h3 x e
end L2

namespace L2
open PySem PySem.Spec PyProof.Rows LamX
/-! ### a def whose code object is known -/
theorem fn_okL {P : Program} {w : World} {K : PySem.W.Frag} {mg : Str → Option Value} {base : Heap} {x qual : Str} {st : Stmt} {f cc : Addr} {oc kV doc pm ct : Value} {od an : Option Addr} {osl : Array (Option Value)} {N ps : List Str} {k : Nat} {sp : Sp}
    (lk : K.lookup f = some ⟨oc, od, .func (PySem.W.fnOf x qual (defArgs st) (defBody st) (defScope st) .none kV doc pm an (.ref cc) ct), osl⟩) (hcd : PySem.W.codeIn K (.ref cc) qual = true) (S : FnScope N ps (defScope st)) (len : ∀ vs H Q E, sp vs H Q E → vs.length = ps.length)
    (hbody : ∀ (A : Around) (outer : List Env) (s : Shared) (H : Hp) (vs : List V) (Q : VK) (E : XK), Room k (A.deeper (envOfC qual (defScope st) s.heap.objs.size f (.ref cc))) → sp vs H Q E →
      ∃ t, PSs (cxOf CX0 P w K mg base N qual (defScope st) f (.ref cc) A outer s H E).nox (defBody st) t ∧ t { nx := fun _ H' => Q .non H', rt := Q } (start N vs) H) :
    FnOk P w K mg base CX0 (k + 1) f (PySem.W.fnOf x qual (defArgs st) (defBody st) (defScope st) .none kV doc pm an (.ref cc) ct) ps sp :=
  fn_of lk hcd S len fun A outer s H vs Q E hr hsp => by
    obtain ⟨t, h, q⟩ := hbody A outer s H vs Q E hr hsp
    exact ⟨t, h.nox, q⟩
/-! ### readings of dicts -/
section
variable {σ : St} {H : Hp} {Q : VK} {ta tb td ty tv : TE}
theorem x_dget (q : td σ H fun x H1 => ty σ H1 fun y H2 => ∃ a v, x = .ref a ∧ DGet H2 a y (some v) ∧ Q v H2) : tDGet td ty σ H Q := q
theorem x_dnotin (q : ty σ H fun y H1 => td σ H1 fun x H2 => ∃ a o, x = .ref a ∧ DGet H2 a y o ∧ Q (.bl (!o.isSome)) H2) : tDNotIn ty td σ H Q := q
theorem x_din (q : ty σ H fun y H1 => td σ H1 fun x H2 => ∃ a o, x = .ref a ∧ DGet H2 a y o ∧ Q (.bl o.isSome) H2) : tDIn ty td σ H Q := q
theorem x_dput {D : Ends} (q : tv σ H fun v H1 => td σ H1 fun x H2 => ty σ H2 fun y H3 => ∃ a H4, x = .ref a ∧ DPut H3 a y v H4 ∧ D.nx σ H4) : sDPut td ty tv D σ H := q
theorem x_lock {t : TS} {D : Ends} {d : Addr} {u : HO} (hd : H d = some u) (mu : Mut (some u)) (q : ∀ od, t ⟨fun σ' H' => H' d = some (.frz od u) ∧ D.nx σ' (upd H' d u), fun v H' => H' d = some (.frz od u) ∧ D.rt v (upd H' d u), fun σ' H' => H' d = some (.frz od u) ∧ D.bk σ' (upd H' d u), fun σ' H' => H' d = some (.frz od u) ∧ D.ct σ' (upd H' d u)⟩ σ (upd H d (.frz od u))) : tLock t D σ H := ⟨d, u, hd, mu, q⟩
theorem x_getS {a : Addr} {kvs : List (Key × V)} {z : Str} {v : V} {R : Addr → V → Prop} (h : Rd H a (.dK kvs)) (e : valV kvs (.inr z) = some v) (q : R a v) : ∃ a' v', V.ref a = .ref a' ∧ DGet H a' (.str z) (some v') ∧ R a' v' := ⟨a, v, rfl, .inl ⟨kvs, .inr z, h, rfl, e.symm⟩, q⟩
theorem x_askS {a : Addr} {kvs : List (Key × V)} {z : Str} {R : Addr → Option V → Prop} (h : Rd H a (.dK kvs)) (q : R a (valV kvs (.inr z))) : ∃ a' o, V.ref a = .ref a' ∧ DGet H a' (.str z) o ∧ R a' o := ⟨a, _, rfl, .inl ⟨kvs, .inr z, h, rfl, rfl⟩, q⟩
theorem x_putS {a : Addr} {kvs : List (Key × V)} {z : Str} {v : V} {R : Hp → Prop} (h : H a = some (.dK kvs)) (hl : kvs.length < sizeLine) (q : R (upd H a (.dK (putK kvs (.inr z) v)))) : ∃ a' H4, V.ref a = .ref a' ∧ DPut H a' (.str z) v H4 ∧ R H4 := ⟨a, _, rfl, DPut.k (k := .inr z) h hl, q⟩
theorem x_keys {R : It → Hp → Prop} {a : Addr} {o : Obj} {kvs : List (Key × V)} (h : H a = some (.frz o (.dK kvs))) (q : R (Itk a o kvs) H) : ∃ d o', V.ref a = .ref d ∧ ((∃ kvs, H d = some (.frz o' (.dK kvs)) ∧ R (Itk d o' kvs) H) ∨ ∃ kvs, H d = some (.frz o' (.dT kvs)) ∧ R (Itkt d o' kvs) H) := ⟨a, o, rfl, .inl ⟨kvs, h, q⟩⟩
end
/-- a dict comprehension over anything that is walked -/
theorem dc_it {J : It} {n : Nat} {G : Hp → Prop} {Y : Nat → Hp → V → Hp → Prop} (w : Walk J n G Y) {g : TG} {tt : TT} {tk tv : TE} {vs : List Nat} {σ : St} {H1 : Hp} {D : Addr} {Qd : Hp → Prop} (Pv : Nat → Hp → Prop) (h0 : Pv 0 (upd H1 D (.dK []))) (hG : ∀ i H, i ≤ n → Pv i H → G H)
    (hs : ∀ i x H H', i < n → Pv i H → Y i H x H' → g x (wipe σ vs) H' fun σ2 H2 => wipe σ2 vs = wipe σ vs ∧ tt σ2 H2 fun b H3 =>
      if b = true then tk σ2 H3 fun y H4 => tv σ2 H4 fun z H5 => ∃ kvs k, y = kV k ∧ H5 D = some (.dK kvs) ∧ kvs.length < sizeLine ∧ Pv (i + 1) (upd H5 D (.dK (putK kvs k z))) else Pv (i + 1) H3) (hd : ∀ H, Pv n H → Qd H) :
    ∃ W : Nat → Nat → Hp → Prop, (∃ m, W 0 m (upd H1 D (.dK []))) ∧ ∀ i m H, W i m H →
      (J.stop i H ∧ Qd H) ∨ (J.go i H ∧ ∃ Nx : Hp → Prop, (∀ H', Nx H' → ∃ m', m' < m ∧ W (i + 1) m' H') ∧ ∀ x H', J.yld i H x H' → g x (wipe σ vs) H' fun σ2 H2 => wipe σ2 vs = wipe σ vs ∧ tt σ2 H2 fun b H3 =>
        if b = true then tk σ2 H3 fun y H4 => tv σ2 H4 fun z H5 => ∃ kvs k, y = kV k ∧ H5 D = some (.dK kvs) ∧ kvs.length < sizeLine ∧ Nx (upd H5 D (.dK (putK kvs k z))) else Nx H3) := by
  refine ⟨fun i m H => m = n - i ∧ i ≤ n ∧ Pv i H, ⟨n, by simp, Nat.zero_le _, h0⟩, ?_⟩
  rintro i m H ⟨rfl, hi, p⟩
  have q := hG i H hi p
  by_cases hlt : i < n
  · refine .inr ⟨w.goes i H hlt q, Pv (i + 1), fun H' p' => ⟨n - (i + 1), by omega, rfl, hlt, p'⟩, fun x H' y => hs i x H H' hlt p (w.yields i H x H' hlt q y)⟩
  · have e : i = n := by omega
    subst e
    exact .inl ⟨w.stops H q, hd H p⟩
theorem x_dc {wi : TI} {g : TG} {tt : TT} {tk tv : TE} {vs : List Nat} {σ : St} {H : Hp} {Q : VK} (q : wi σ H fun J H1 => ∀ D, H1 D = none → ∃ W : Nat → Nat → Hp → Prop, (∃ m, W 0 m (upd H1 D (.dK []))) ∧ ∀ i m H, W i m H →
  (J.stop i H ∧ Q (.ref D) H) ∨ (J.go i H ∧ ∃ Nx : Hp → Prop, (∀ H', Nx H' → ∃ m', m' < m ∧ W (i + 1) m' H') ∧ ∀ x H', J.yld i H x H' → g x (wipe σ vs) H' fun σ2 H2 => wipe σ2 vs = wipe σ vs ∧ tt σ2 H2 fun b H3 =>
    if b = true then tk σ2 H3 fun y H4 => tv σ2 H4 fun z H5 => ∃ kvs k, y = kV k ∧ H5 D = some (.dK kvs) ∧ kvs.length < sizeLine ∧ Nx (upd H5 D (.dK (putK kvs k z))) else Nx H3)) : tDc wi g tt tk tv vs σ H Q := q
theorem x_bm0 {K : PySem.W.Frag} {T : String} {r : V → List V → Hp → VK → Prop} {to : TE} {σ : St} {H : Hp} {Q : VK} (q : to σ H fun x H1 => tyV K T x H1 ∧ r x [] H1 Q) : tBM0 K T r to σ H Q := q
theorem x_ckw {r : List V → List V → Hp → VK → Prop} {t tk : TA} {σ : St} {H : Hp} {Q : VK} (q : t σ H fun vs H1 => tk σ H1 fun zs H2 => r vs zs H2 Q) : tCKw r t tk σ H Q := q
theorem x_iTup {K : PySem.W.Frag} {te : TE} {σ : St} {H : Hp} {R : It → Hp → Prop} (q : te σ H fun v H1 => ∃ a, v = .ref a ∧ (∃ xs, SqT K H1 a xs) ∧ R (Itt K a) H1) : iTup K te σ H R := q
theorem x_iKeys {td : TE} {σ : St} {H : Hp} {R : It → Hp → Prop} (q : td σ H fun x H1 => ∃ d o, x = .ref d ∧ ((∃ kvs, H1 d = some (.frz o (.dK kvs)) ∧ R (Itk d o kvs) H1) ∨ ∃ kvs, H1 d = some (.frz o (.dT kvs)) ∧ R (Itkt d o kvs) H1)) : iKeys td σ H R := q
/-! ### list(d.values()) -/
def rValsL : V → Hp → VK → Prop := fun x H Q => ∃ (d : Addr) (kvs : List (Key × V)), x = .ref d ∧ H d = some (.dK kvs) ∧ ∀ p, H p = none → Q (.ref p) (upd H p (.lst (kvs.map (·.2))))
def tListVals (te : TE) : TE := fun σ H Q => te σ H fun x H1 => rValsL x H1 Q
theorem KV.vals' : ∀ {kvs : List (Key × V)} {vs : List (Key × Value)}, KV kvs vs → Vals (kvs.map (·.2)) (vs.map (·.2))
  | _, _, .nil => .nil
  | _, _, .cons r t => .cons r.2 (KV.vals' t)
theorem pe_listVals {X : Cx} {e : Expr} {te : TE} {p apos cpos pos : Pos} (hc : X.calm = true) (he : PE X e te) (hg : Gl X "list") (hm : X.mg "list" = none) (hv : bootBuiltins "list" = some (.type "list")) (hbase : attributeBase e "values" X.env (eval e X.env) = eval e X.env := by rfl) (hline : (apos.endLine == cpos.line) = true := by rfl)
    (hs : starEach [.Call (.Attribute e "values" apos) [] [] cpos] X.env = (false, eval (.Call (.Attribute e "values" apos) [] [] cpos) X.env) :: starEach [] X.env := by rfl) :
    PE X (.Call (.Name "list" p) [.Call (.Attribute e "values" apos) [] [] cpos] [] pos) (tListVals te) := by
  refine ⟨fun pins s σ H Q I hq => ?_⟩
  refine wpAny_Call_Name_kw (ld_blt I hg hm hv ?_)
  refine PyProof.Rows.callWith_type1 ?_ hs rfl
  rw [hs]
  show wpAny _ _ (spliced ((false, eval (.Call (.Attribute e "values" apos) [] [] cpos) X.env) :: backTo pos (starEach [] X.env))) _ _ s
  refine Calls.spliced_cons ?_
  refine wpAny_Call_method (T := "dict") (id := "dict.values") hbase rfl hline F.plainAttrs_dict F.slot_dict_values F.type_dict_values (thn (he.run pins s σ H _ I hq) fun u s1 ⟨x, H1, I1, rx, d, kvs, ex, hd, q⟩ => ?_)
  subst ex
  obtain rfl : u = Value.ref d := rx
  obtain ⟨hz, hs0, vs, kv, hdo⟩ := I1.hok d _ hd
  obtain ⟨ep, hat⟩ := hdo.dictAt
  have lk : kvs.length = vs.length := Paired.length kv
  have I2 : Inv X pins σ H1 { s1 with heap := s1.heap.push { cls := .type "dict_values", data := .fields #[.ref d] } } := I1.kept (t' := s1.toks) fun b ob q => Heap.get?_push_of_some _ q
  refine ⟨hdo.typeIs, hdo.mapOf.noDict, ?_⟩
  show wpAny _ _ (callWith cpos (.builtin "dict.values") [.ref d] [] []) _ X.xe s1
  refine method_meetsIn F.slot_dict_values F.entry_dict_values rfl (PySem.evalArgs_none ⟨rfl, hdo.typeIs, F.args_dict_values_1 _, _, meets_dict_values (mixKind X.prog X.w) d hs0, ⟨vs, hdo⟩, ?_⟩)
  refine Calls.spliced_nil ?_
  refine PySem.W.kdl_call (PySem.W.kdl_values (knd := mixKind X.prog X.w) (kvs := vs) (ep := ep)) (I1.ok.hd hc) ⟨⟨_, Heap.get?_push_size _ rfl, rfl, rfl⟩, hat.push _⟩ (by omega) fun h' tk acc' c' hk hS hacc => ?_
  refine ⟨.ref _, upd H1 _ (.lst (kvs.map (·.2))), I2.laid (t' := tk) hk (Nat.le_refl _) (show ObjOk X.prog X.w _ _ _ (.lst (kvs.map (·.2))) from ⟨by rw [List.length_map]; exact hz, acc'.toList, c', ?_, ?_⟩), rfl, q _ (I2.hok.fresh (Nat.le_refl _))⟩
  · have e1 : acc'.toList = vs.map (·.2) := by
      apply List.ext_getElem?
      intro j
      by_cases hj : j < acc'.size
      · have h1 : acc'.toList[j]? = some acc'[j] := by rw [Array.getElem?_toList]; exact Array.getElem?_eq_getElem hj
        obtain ⟨k, hk2⟩ := hacc.2 j acc'[j] (Array.getElem?_eq_getElem hj)
        rw [h1, List.getElem?_map, hk2]
        rfl
      · rw [List.getElem?_eq_none (by rw [Array.length_toList]; omega), List.getElem?_eq_none (by rw [List.length_map, ← hacc.1]; omega)]
    rw [e1]
    exact KV.vals' kv
  · rw [Array.toArray_toList]
    exact hS
theorem x_listVals {te : TE} {σ : St} {H : Hp} {Q : VK} (q : te σ H fun x H1 => rValsL x H1 Q) : tListVals te σ H Q := q
theorem x_valsD {a : Addr} {kvs : List (Key × V)} {H : Hp} {Q : VK} (h : H a = some (.dK kvs)) (q : ∀ p, H p = none → Q (.ref p) (upd H p (.lst (kvs.map (·.2))))) : rValsL (.ref a) H Q := ⟨a, kvs, rfl, h, q⟩
/-! ### lstrip of one sign -/
theorem dropW_eq (p : Nat → Bool) : ∀ l : List Nat, l.drop (l.takeWhile p).length = l.dropWhile p
  | [] => rfl
  | c :: l => by
    by_cases h : p c = true
    · rw [List.takeWhile_cons, if_pos h, List.dropWhile_cons, if_pos h, List.length_cons, List.drop_succ_cons, dropW_eq p l]
    · rw [List.takeWhile_cons, if_neg h, List.dropWhile_cons, if_neg h]
      rfl
theorem dropW_no {p : Nat → Bool} {c : Nat} {l : List Nat} (h : ¬ p c = true) : (c :: l).dropWhile p = c :: l := by rw [List.dropWhile_cons, if_neg h]
theorem TabS_nil {H : Hp} {P : Addr} {q : Str} (h : H P = some (.tbl #[])) : TabS H P q := TabS.nil h
/-! ### the law's end where a def's table is empty -/
def TabF (K : PySem.W.Frag) (mg : Str → Option Value) (h : Heap) (x : Str) : Prop := ∀ (a c P : Addr) (o : Obj) (fd : FuncData) (e : Value) (dd : Option Addr) (vs : Array Value) (sl : Array (Option Value)), mg x = some (.ref a) → K.lookup a = some o → o.data = .func fd → fd.code = .ref c → K.lookup c = some ⟨e, dd, .fields vs, sl⟩ → vs[11]? = some (.ref P) →
  h.get? P = some { cls := .none, data := .fields #[] }
theorem walk_ofTab {l : PySem.W.OpenLaw} {n k : Nat} {q : Program} {loose : List Str} {XP : (Str → Option Value) → Heap → Prop} {YP : World → Heap → Prop} {d : DefRec} {K : Params → PySem.W.Frag} {CX : World → CXT} {x y : Str}
    (hn : l.most = some n) (hn2 : n ≤ sizeLine) (hdf : d.params.defaults = []) (hr : Room k callerA) (hrec : ((recsOf q).any fun e => e.name == y) = true) (hY : ∀ (w : World) (h : Heap), YP w h → (K w.params).In h)
    (F : ∀ (w : World) (mg : Str → Option Value) (fa : Addr) (h : Heap), YP w h → (K w.params).In h → h.Ns mainGlobals mg → mg d.name = some (.ref fa) → TabF (K w.params) mg h y → LawAtS l w (K w.params) (CX w) k n x mg fa h)
    (hCX : ∀ (w : World) (H : Hp) (s : Shared) (e : Value) (s' : Shared), CX w [] H s (fun _ _ _ => False) e s' → False) :
    PySem.W.WalkO q loose XP YP l.row.toRowW d [] (fun f vs => PySem.call f vs) := by
  refine Att.attach_callB hn hdf fun w s₀ s₁ mg mb fa o pm cd doc a vs ns G Y ho hd hcd hmg hobj hints hlen hbits hg => ?_
  have KX := hY w _ Y
  have own : TabF (K w.params) mg s₁.heap y := fun a1 c P o1 fd1 e dd vs1 sl k0 k1 k2 k3 k4 k5 => by
    obtain ⟨dL, hm, hn1⟩ := List.any_eq_true.mp hrec
    have hn2 : dL.name = y := beq_iff_eq.mp hn1
    obtain ⟨a', o', fd', c', P', h1, h2, h3, h4, h5, h6⟩ := G.T.tab dL hm
    rw [hn2, k0] at h1
    cases h1
    have g1 := KX _ _ k1
    rw [g1] at h2
    cases h2
    rw [k2] at h3
    cases h3
    rw [k3] at h4
    cases h4
    obtain ⟨⟨oc, vc, e1, _, e3, e4⟩, hP⟩ := h6
    have g2 := KX _ _ k4
    rw [g2] at e1
    cases e1
    cases e3
    rw [k5] at e4
    cases e4
    exact hP
  obtain ⟨fd, cs, sp, hT, nT, C, hb, hsp, hF⟩ := F w mg fa _ Y KX G.T.g hmg own
  exact law_callTs KX G.T.g G.T.b G.T.builtins G.T.nolimit hg hT nT C G.T.bmain hobj hints (Nat.le_trans hlen hn2) hr hF hb (fun H hH hS => hsp H a ns hlen hbits hH hS) fun H e s' => hCX w H s₁ e s'
end L2
namespace Sr
open PySem PySem.Spec PyProof.Rows L2
theorem lstrip_S (l : List Nat) : Txt.lstripChars (S l) (S [47]) = S (l.dropWhile fun c => c == 47) := by
  have hp : (S [47]).cps.contains = fun c => c == 47 := by
    funext c
    show (#[47] : Array Nat).contains c = _
    rw [Bool.eq_iff_iff]
    simp
  unfold Txt.lstripChars Txt.stripBy
  rw [hp]
  have hlo : stripLo (fun c => c == 47) true (S l) = (l.takeWhile fun c => c == 47).length := rfl
  have hhi : ∀ n, stripHi (fun c => c == 47) false (S l) n = l.length := fun n => len_S l
  refine TL.ext_tl ?_
  by_cases h : stripSame (fun c => c == 47) true false (S l) = true
  · rw [if_pos h, tl_S, tl_S]
    unfold stripSame at h
    rw [Bool.and_eq_true, hlo] at h
    have h0 : (l.takeWhile fun c => c == 47).length = 0 := by simpa using h.1
    have := dropW_eq (fun c => c == 47) l
    rw [h0, List.drop_zero] at this
    exact this
  · rw [if_neg h, tl_S]
    unfold stripped
    rw [hlo, hhi]
    show (Builtin.Str.strSub (S l) _ _).cps.toList = _
    rw [StrLaws.strSub_toList]
    show (l.drop _).take _ = _
    rw [List.take_of_length_le (by rw [List.length_drop]; exact Nat.le_refl _), dropW_eq]
end Sr

namespace Sr
open PySem PySem.Spec PyProof.Rows L2
/-! ### how the tails' tables stand in the heap -/
abbrev qL : Str := "_best_behind.<locals>." ++ "<lambda>"
def stKV : List (List Nat) → List Addr → List (Key × V)
  | t :: ks, d :: ds => (Sum.inr (S t), V.ref d) :: stKV ks ds
  | _, _ => []
theorem stKV_len : ∀ {ks : List (List Nat)} {ds : List Addr}, ds.length = ks.length → (stKV ks ds).length = ks.length
  | [], [], _ => rfl
  | [], _ :: _, h => by simp at h
  | _ :: _, [], h => by simp at h
  | t :: ks, d :: ds, h => by
    rw [stKV, List.length_cons, stKV_len (by simpa using h), List.length_cons]
theorem stKV_snoc {t : List Nat} {d : Addr} : ∀ {ks : List (List Nat)} {ds : List Addr}, ds.length = ks.length → stKV (ks ++ [t]) (ds ++ [d]) = stKV ks ds ++ [(Sum.inr (S t), V.ref d)]
  | [], [], _ => rfl
  | [], _ :: _, h => by simp at h
  | _ :: _, [], h => by simp at h
  | u :: ks, e :: ds, h => by
    rw [List.cons_append, List.cons_append, stKV, stKV_snoc (by simpa using h), stKV, List.cons_append]
theorem stKV_get : ∀ {ks : List (List Nat)} {ds : List Addr} {i : Nat} {t : List Nat} {d : Addr}, ks[i]? = some t → ds[i]? = some d → (stKV ks ds)[i]? = some (Sum.inr (S t), V.ref d)
  | [], _, i, t, d, h, _ => by simp at h
  | _ :: _, [], i, t, d, _, h => by simp at h
  | u :: ks, e :: ds, 0, t, d, h1, h2 => by
    cases h1; cases h2
    rfl
  | u :: ks, e :: ds, i + 1, t, d, h1, h2 => by
    rw [stKV, List.getElem?_cons_succ]
    exact stKV_get (by simpa using h1) (by simpa using h2)
theorem inr_S {a b : List Nat} (h : (Sum.inr (S a) : Key) = Sum.inr (S b)) : a = b := S_inj (Sum.inr.inj h)
theorem stKV_in : ∀ {ks : List (List Nat)} {ds : List Addr} {t : List Nat}, ds.length = ks.length → t ∈ ks → ∃ (i : Nat) (d : Addr), ks[i]? = some t ∧ ds[i]? = some d ∧ valV (stKV ks ds) (Sum.inr (S t)) = some (.ref d)
  | [], _, t, _, h => by simp at h
  | _ :: _, [], _, h, _ => by simp at h
  | u :: ks, e :: ds, t, hl, ht => by
    by_cases hu : u = t
    · subst hu
      exact ⟨0, e, rfl, rfl, valV_pos rfl⟩
    · obtain ⟨i, d, h1, h2, h3⟩ := stKV_in (ks := ks) (ds := ds) (t := t) (by simpa using hl) (by
        rcases List.mem_cons.mp ht with q | q
        · exact absurd q.symm hu
        · exact q)
      refine ⟨i + 1, d, h1, h2, ?_⟩
      rw [stKV, valV_neg (fun q => hu (inr_S q))]
      exact h3
theorem stKV_out : ∀ {ks : List (List Nat)} {ds : List Addr} {t : List Nat}, t ∉ ks → valV (stKV ks ds) (Sum.inr (S t)) = none
  | [], _, t, _ => rfl
  | _ :: _, [], _, _ => rfl
  | u :: ks, e :: ds, t, ht => by
    rw [stKV, valV_neg (fun q => ht (by rw [← inr_S q]; exact List.mem_cons_self))]
    exact stKV_out fun q => ht (List.mem_cons_of_mem _ q)
def stepKV (l : List (Nat × List Nat)) : List (Key × V) := l.map fun p => (Sum.inr (S [p.1]), V.str (S p.2))
theorem stepKV_vals (sds : List (List Nat)) (k : Nat) (t : List Nat) : (stepKV (stps sds k t)).map (·.2) = (goals sds k t).map strV := by
  unfold stepKV goals
  rw [List.map_map, List.map_map]
  rfl
theorem stepKV_in {c : Nat} {u : List Nat} : ∀ {l : List (Nat × List Nat)}, (c, u) ∈ l → (∀ p ∈ l, p.1 = c → p.2 = u) → valV (stepKV l) (Sum.inr (S [c])) = some (.str (S u))
  | [], h, _ => by simp at h
  | p :: l, h, hu => by
    by_cases hp : p.1 = c
    · have := hu p List.mem_cons_self hp
      show valV ((Sum.inr (S [p.1]), V.str (S p.2)) :: stepKV l) _ = _
      rw [valV_pos (by rw [hp]), this]
    · show valV ((Sum.inr (S [p.1]), V.str (S p.2)) :: stepKV l) _ = _
      rw [valV_neg (fun q => hp (List.cons.inj (inr_S q)).1)]
      refine stepKV_in ?_ fun r hr => hu r (List.mem_cons_of_mem _ hr)
      rcases List.mem_cons.mp h with q | q
      · rw [← q] at hp
        exact absurd rfl hp
      · exact q
theorem stepKV_go {sds : List (List Nat)} {k : Nat} {t : List Nat} {c : Nat} (hc : c = 61 ∨ c = 47) (ho : okS sds t c = true) : valV (stepKV (stps sds k t)) (Sum.inr (S [c])) = some (.str (S (tlK k (t ++ [c])))) := by
  refine stepKV_in (mem_stps.mpr ⟨hc, ho, rfl⟩) fun p hp e => ?_
  obtain ⟨_, _, h3⟩ := mem_stps.mp hp
  rw [h3, e]
structure StAt (H : Hp) (sp : Addr) (sds : List (List Nat)) (k : Nat) (ks : List (List Nat)) (ds : List Addr) : Prop where
  len : ds.length = ks.length
  at_ : Rd H sp (.dK (stKV ks ds))
  each : ∀ (i : Nat) t d, ks[i]? = some t → ds[i]? = some d → H d = some (.dK (stepKV (stps sds k t)))
theorem StAt.same {H H' : Hp} {sp : Addr} {sds : List (List Nat)} {k : Nat} {ks : List (List Nat)} {ds : List Addr} (h : StAt H sp sds k ks ds) (e : Same H H') : StAt H' sp sds k ks ds :=
  ⟨h.len, e.rdD h.at_, fun i t d h1 h2 => e _ _ (h.each i t d h1 h2)⟩
theorem StAt.smT {H H' : Hp} {P : Addr} {q : Str} {sp : Addr} {sds : List (List Nat)} {k : Nat} {ks : List (List Nat)} {ds : List Addr} (h : StAt H sp sds k ks ds) (e : SmT P q H H') : StAt H' sp sds k ks ds :=
  ⟨h.len, e.rdD h.at_, fun i t d h1 h2 => e.dK (h.each i t d h1 h2)⟩
theorem StAt.get {H : Hp} {sp : Addr} {sds : List (List Nat)} {k : Nat} {ks : List (List Nat)} {ds : List Addr} (h : StAt H sp sds k ks ds) {t : List Nat} (ht : t ∈ ks) : ∃ d, valV (stKV ks ds) (Sum.inr (S t)) = some (.ref d) ∧ H d = some (.dK (stepKV (stps sds k t))) := by
  obtain ⟨i, d, h1, h2, h3⟩ := stKV_in h.len ht
  exact ⟨d, h3, h.each i t d h1 h2⟩
/-- the best likes behind each tail -/
structure BsAt (H : Hp) (bp : Addr) (ks : List (List Nat)) (f : List Nat → Int × List Nat) (as : List Addr) : Prop where
  len : as.length = ks.length
  at_ : H bp = some (.dK (stKV ks as))
  each : ∀ (i : Nat) t a, ks[i]? = some t → as[i]? = some a → MxIt H a (f t)
theorem BsAt.same {H H' : Hp} {bp : Addr} {ks : List (List Nat)} {f : List Nat → Int × List Nat} {as : List Addr} (h : BsAt H bp ks f as) (e : Same H H') : BsAt H' bp ks f as :=
  ⟨h.len, e _ _ h.at_, fun i t a h1 h2 => ⟨e _ _ (h.each i t a h1 h2).1, (h.each i t a h1 h2).2⟩⟩
theorem BsAt.smT {H H' : Hp} {P : Addr} {q : Str} {bp : Addr} {ks : List (List Nat)} {f : List Nat → Int × List Nat} {as : List Addr} (h : BsAt H bp ks f as) (e : SmT P q H H') : BsAt H' bp ks f as :=
  ⟨h.len, e.dK h.at_, fun i t a h1 h2 => ⟨e.tup (h.each i t a h1 h2).1, (h.each i t a h1 h2).2⟩⟩
theorem BsAt.get {H : Hp} {bp : Addr} {ks : List (List Nat)} {f : List Nat → Int × List Nat} {as : List Addr} (h : BsAt H bp ks f as) {t : List Nat} (ht : t ∈ ks) : ∃ a, valV (stKV ks as) (Sum.inr (S t)) = some (.ref a) ∧ MxIt H a (f t) := by
  obtain ⟨i, a, h1, h2, h3⟩ := stKV_in h.len ht
  exact ⟨a, h3, h.each i t a h1 h2⟩
theorem step_ne {ks : List (List Nat)} {ds : List Addr} {l : List (Nat × List Nat)} {i : Nat} {t : List Nat} {d : Addr} (h1 : ks[i]? = some t) (h2 : ds[i]? = some d) (h : stepKV l = stKV ks ds) : False := by
  have e := stKV_get h1 h2
  rw [← h] at e
  unfold stepKV at e
  rw [List.getElem?_map] at e
  cases hl : l[i]? with
  | none => rw [hl] at e; cases e
  | some p => rw [hl] at e; cases e
def wKV (g l : Int) : List (Key × V) := [(Sum.inr (S [61]), .int g), (Sum.inr (S [47]), .int (-l))]
theorem wKV_get {g l : Int} {c : Nat} (hc : c = 61 ∨ c = 47) : valV (wKV g l) (Sum.inr (S [c])) = some (.int (wt g l c)) := by
  rcases hc with e | e
  · subst e; rfl
  · subst e
    unfold wKV
    rw [valV_neg (fun q => by have := (List.cons.inj (inr_S q)).1; omega), valV_pos rfl]
    rfl
theorem mxL_of {l : List Nat} {m : Int} (hm : m ∈ l.map fun n => ((n : Nat) : Int)) (h : ∀ x ∈ l.map (fun n => ((n : Nat) : Int)), x ≤ m) : m = ((mxL l : Nat) : Int) := by
  obtain ⟨n, hn, rfl⟩ := List.mem_map.mp hm
  have h1 := mxL_ge hn
  have h2 : mxL l ≤ n := mxL_le fun x hx => by
    have := h _ (List.mem_map.mpr ⟨x, hx, rfl⟩)
    omega
  omega
end Sr
namespace Sr
open PySem PySem.Spec PyProof.Rows L2
theorem Kp.tab {a b P : Addr} {q : Str} {H H' : Hp} (k : Kp a b H H') (s : Src H a b) (t : LamX.TabS H P q) : LamX.TabS H' P q := by
  obtain ⟨ps, h1, h2, h3⟩ := t
  obtain ⟨_, s0, i, cs, e1, e2, _⟩ := s
  have ne : ∀ c o, H c = some o → (∀ xs, o ≠ .lst xs) → c ≠ a ∧ c ≠ b := fun c o hc hn =>
    ⟨fun z => by
      subst z
      exact hn _ (Option.some.inj (hc.symm.trans e1)), fun z => by
      subst z
      exact hn _ (Option.some.inj (hc.symm.trans e2))⟩
  have n1 := ne P _ h1 (fun _ z => nomatch z)
  refine ⟨ps, k _ _ n1.1 n1.2 h1, h2, fun pos cv hc => ?_⟩
  obtain ⟨c, z1, z2⟩ := h3 pos cv hc
  have n2 := ne c _ z2 (fun _ z => by unfold LamX.CodeO at z; cases z)
  exact ⟨c, z1, k _ _ n2.1 n2.2 z2⟩
theorem Src_smT {a b P : Addr} {q : Str} {H H' : Hp} (x : Src H a b) (e : SmT P q H H') : Src H' a b := by
  obtain ⟨n, s, i, cs, h1, h2, h3⟩ := x
  exact ⟨n, s, i, cs, e.lst h1, e.lst h2, h3⟩
end Sr
namespace Sr
open PySem PySem.Spec PyProof.Rows L2
/-- the tables are kept -/
def Tk (H H' : Hp) : Prop := ∀ P q, LamX.TabS H P q → LamX.TabS H' P q
theorem Tk.refl (H : Hp) : Tk H H := fun _ _ h => h
theorem Tk.new {H H1 : Hp} {p : Addr} {o : HO} (t : Tk H H1) (h : H1 p = none) : Tk H (upd H1 p o) := fun P q x => (t P q x).ext (same_upd h)
theorem Tk.kp {a b : Addr} {H H1 H2 : Hp} (t : Tk H H1) (s : Src H1 a b) (k : Kp a b H1 H2) : Tk H H2 := fun P q x => k.tab s (t P q x)
theorem Tk.lst {H H1 : Hp} {p : Addr} {o : HO} {xs : List V} (t : Tk H H1) (h : H1 p = some (.lst xs)) : Tk H (upd H1 p o) := fun P q x => tabS_upd (t P q x) (fun _ z => by rw [h] at z; cases z) fun _ z => by rw [h] at z; cases z
end Sr

namespace Sr
open PySem PySem.Spec PyProof.Rows L2
/-! ### all texts of likes in which no seed fits -/
/-- no seed fits at the end -/
def endB (sds : List (List Nat)) (y : List Nat) : Bool := (sds.filter fun sd => fitsB sd y ((y.length : Int) - (sd.length : Int))).isEmpty
def two (z : List Nat) : List (List Nat) := [z ++ [61], z ++ [47]]
def nextU (sds : List (List Nat)) (rows : List (List Nat)) : List (List Nat) := (rows.flatMap two).filter (endB sds)
def un (sds : List (List Nat)) : Nat → List (List Nat)
  | 0 => [[]]
  | n + 1 => nextU sds (un sds n)
def every (sds : List (List Nat)) : Nat → List (List Nat)
  | 0 => [[]]
  | n + 1 => every sds n ++ un sds (n + 1)
theorem endB_iff {sds : List (List Nat)} (h1 : Ones sds) {y : List Nat} : endB sds y = true ↔ ∀ sd ∈ sds, sd.length ≤ y.length → ∃ k, k < sd.length ∧ sd[k]? = some 35 ∧ y[y.length - sd.length + k]? = some 47 := by
  unfold endB
  rw [List.isEmpty_iff, List.filter_eq_nil_iff]
  constructor
  · intro h sd hsd hl
    have h2 := h sd hsd
    rw [fitsB_iff (h1 sd hsd)] at h2
    refine Classical.byContradiction fun hn => h2 ⟨by omega, by omega, fun k hk hc => hn ⟨k, hk, hc.1, ?_⟩⟩
    have : ((y.length : Int) - (sd.length : Int)).toNat = y.length - sd.length := by omega
    rw [this] at hc
    exact hc.2
  · intro h sd hsd h2
    obtain ⟨h3, h4, h5⟩ := (fitsB_iff (h1 sd hsd)).mp h2
    obtain ⟨k, hk, e1, e2⟩ := h sd hsd (by omega)
    have : ((y.length : Int) - (sd.length : Int)).toNat = y.length - sd.length := by omega
    rw [this] at h5
    exact h5 k hk ⟨e1, e2⟩
theorem free_snoc {sds : List (List Nat)} (h1 : Ones sds) {z : List Nat} {c : Nat} : Free sds (z ++ [c]) ↔ Free sds z ∧ endB sds (z ++ [c]) = true := by
  constructor
  · intro h
    refine ⟨Free.mid h1 (a := []) (c := [c]) (by simpa using h), ?_⟩
    rw [endB_iff h1]
    rw [free_iff h1] at h
    intro sd hsd hl
    exact h sd hsd _ (by omega)
  · rintro ⟨h, he⟩
    rw [endB_iff h1] at he
    rw [free_iff h1] at h ⊢
    intro sd hsd p hp
    rw [List.length_append] at hp
    have hc : [c].length = 1 := rfl
    by_cases hlt : p + sd.length ≤ z.length
    · obtain ⟨k, hk, e1, e2⟩ := h sd hsd p hlt
      exact ⟨k, hk, e1, by rw [List.getElem?_append_left (by omega)]; exact e2⟩
    · obtain ⟨k, hk, e1, e2⟩ := he sd hsd (by rw [List.length_append]; omega)
      refine ⟨k, hk, e1, ?_⟩
      rw [← e2]
      congr 1
      rw [List.length_append]
      omega
theorem free_nil {sds : List (List Nat)} (h1 : Ones sds) : Free sds [] := by
  rw [free_iff h1]
  intro sd hsd p hp
  have := h1 sd hsd
  have e : ([] : List Nat).length = 0 := rfl
  omega
theorem un_iff {sds : List (List Nat)} (h1 : Ones sds) : ∀ {n : Nat} {z : List Nat}, z ∈ un sds n ↔ z.length = n ∧ Lk z ∧ Free sds z
  | 0, z => by
    show z ∈ [[]] ↔ _
    rw [List.mem_singleton]
    constructor
    · intro e
      subst e
      exact ⟨rfl, (fun c hc => nomatch hc), free_nil h1⟩
    · rintro ⟨e, _⟩
      exact List.length_eq_zero_iff.mp e
  | n + 1, z => by
    show z ∈ nextU sds (un sds n) ↔ _
    unfold nextU
    rw [List.mem_filter, List.mem_flatMap]
    constructor
    · rintro ⟨⟨y, hy, hz⟩, he⟩
      obtain ⟨e, lk, fr⟩ := (un_iff h1).mp hy
      have : z = y ++ [61] ∨ z = y ++ [47] := by simpa [two] using hz
      rcases this with e2 | e2
      · subst e2
        exact ⟨by rw [List.length_append, e]; rfl, lk.app fun c hc => .inl (List.mem_singleton.mp hc), (free_snoc h1).mpr ⟨fr, he⟩⟩
      · subst e2
        exact ⟨by rw [List.length_append, e]; rfl, lk.app fun c hc => .inr (List.mem_singleton.mp hc), (free_snoc h1).mpr ⟨fr, he⟩⟩
    · rintro ⟨e, lk, fr⟩
      have hne : z ≠ [] := fun h => by rw [h] at e; simp at e
      obtain ⟨y, c, rfl⟩ : ∃ y c, z = y ++ [c] := ⟨z.dropLast, z.getLast hne, (List.dropLast_concat_getLast hne).symm⟩
      obtain ⟨f1, f2⟩ := (free_snoc h1).mp fr
      refine ⟨⟨y, (un_iff h1).mpr ⟨by rw [List.length_append] at e; have e1 : [c].length = 1 := rfl; omega, fun d hd => lk d (List.mem_append.mpr (.inl hd)), f1⟩, ?_⟩, f2⟩
      have := lk c (List.mem_append.mpr (.inr (List.mem_singleton.mpr rfl)))
      rcases this with e2 | e2 <;> subst e2 <;> simp [two]
theorem every_iff {sds : List (List Nat)} (h1 : Ones sds) : ∀ {n : Nat} {z : List Nat}, z ∈ every sds n ↔ z.length ≤ n ∧ Lk z ∧ Free sds z
  | 0, z => by
    show z ∈ un sds 0 ↔ _
    rw [un_iff h1]
    constructor
    · rintro ⟨e, h⟩
      exact ⟨by omega, h⟩
    · rintro ⟨e, h⟩
      exact ⟨by omega, h⟩
  | n + 1, z => by
    show z ∈ every sds n ++ un sds (n + 1) ↔ _
    rw [List.mem_append, every_iff h1, un_iff h1]
    constructor
    · rintro (⟨e, h⟩ | ⟨e, h⟩)
      · exact ⟨by omega, h⟩
      · exact ⟨by omega, h⟩
    · rintro ⟨e, h⟩
      by_cases he : z.length ≤ n
      · exact .inl ⟨he, h⟩
      · exact .inr ⟨by omega, h⟩
theorem lexB_app : ∀ {a b : List Nat} (c d : List Nat), a.length = b.length → lexB a b = true → a ≠ b → lexB (a ++ c) (b ++ d) = true
  | [], [], _, _, _, _, h => absurd rfl h
  | [], _ :: _, _, _, h, _, _ => by simp at h
  | _ :: _, [], _, _, h, _, _ => by simp at h
  | x :: a, y :: b, c, d, hl, h, hn => by
    simp only [List.cons_append, lexB, Bool.or_eq_true, Bool.and_eq_true, decide_eq_true_eq] at h ⊢
    rcases h with h | ⟨e, h⟩
    · exact .inl h
    · subst e
      exact .inr ⟨rfl, lexB_app c d (by simpa using hl) h fun e => hn (by rw [e])⟩
theorem lexB_two : ∀ z : List Nat, lexB (z ++ [61]) (z ++ [47]) = true
  | [] => by decide
  | c :: z => by simp [lexB, lexB_two z]
/-- strictly ahead, at one length -/
def Ahead (a b : List Nat) : Prop := lexB a b = true ∧ a ≠ b
theorem un_sorted {sds : List (List Nat)} (h1 : Ones sds) : ∀ n : Nat, (un sds n).Pairwise Ahead
  | 0 => List.pairwise_singleton _ _
  | n + 1 => by
    show (nextU sds (un sds n)).Pairwise Ahead
    refine List.Pairwise.filter _ ?_
    rw [List.pairwise_flatMap]
    refine ⟨fun z _ => ?_, ?_⟩
    · refine List.pairwise_cons.mpr ⟨fun y hy => ?_, List.pairwise_singleton _ _⟩
      rw [List.mem_singleton.mp hy]
      refine ⟨lexB_two z, fun e => ?_⟩
      have := List.append_cancel_left e
      cases this
    · refine List.Pairwise.imp_of_mem ?_ (un_sorted h1 n)
      intro a b ha hb hab x hx y hy
      have hl : a.length = b.length := by rw [((un_iff h1).mp ha).1, ((un_iff h1).mp hb).1]
      have ex : ∃ c, x = a ++ [c] := by
        have : x = a ++ [61] ∨ x = a ++ [47] := by simpa [two] using hx
        rcases this with e | e <;> exact ⟨_, e⟩
      have ey : ∃ c, y = b ++ [c] := by
        have : y = b ++ [61] ∨ y = b ++ [47] := by simpa [two] using hy
        rcases this with e | e <;> exact ⟨_, e⟩
      obtain ⟨c, rfl⟩ := ex
      obtain ⟨d, rfl⟩ := ey
      refine ⟨lexB_app _ _ hl hab.1 hab.2, fun e => hab.2 ?_⟩
      exact (List.append_inj e hl).1
theorem every_sorted {sds : List (List Nat)} (h1 : Ones sds) : ∀ n : Nat, (every sds n).Pairwise Sle
  | 0 => List.pairwise_singleton _ _
  | n + 1 => by
    show (every sds n ++ un sds (n + 1)).Pairwise Sle
    rw [List.pairwise_append]
    refine ⟨every_sorted h1 n, ?_, fun a ha b hb => .inl ?_⟩
    · refine List.Pairwise.imp_of_mem ?_ (un_sorted h1 (n + 1))
      intro a b ha hb hab
      exact .inr ⟨by rw [((un_iff h1).mp ha).1, ((un_iff h1).mp hb).1], hab.1⟩
    · have := ((every_iff h1).mp ha).1
      have := ((un_iff h1).mp hb).1
      omega
theorem two_len (rows : List (List Nat)) : (rows.flatMap two).length = 2 * rows.length := by
  induction rows with
  | nil => rfl
  | cons z rows ih =>
    rw [List.flatMap_cons, List.length_append, ih]
    show 2 + _ = 2 * (_ + 1)
    omega
theorem un_len (sds : List (List Nat)) : ∀ n : Nat, (un sds n).length ≤ 2 ^ n
  | 0 => Nat.le_refl _
  | n + 1 => by
    have h := un_len sds n
    have h2 := List.length_filter_le (endB sds) ((un sds n).flatMap two)
    rw [two_len] at h2
    show (((un sds n).flatMap two).filter (endB sds)).length ≤ _
    rw [Nat.pow_succ]
    omega
theorem every_len (sds : List (List Nat)) : ∀ n : Nat, (every sds n).length ≤ 2 ^ (n + 1)
  | 0 => (show 1 ≤ 2 by decide)
  | n + 1 => by
    have h := every_len sds n
    have h2 := un_len sds (n + 1)
    show (every sds n ++ un sds (n + 1)).length ≤ _
    rw [List.length_append, Nat.pow_succ]
    omega
/-- the first one of the best ones is the bar's -/
theorem best_first {sds : List (List Nat)} (h1 : Ones sds) {g l w : Int} {z : List Nat} (h : IsBar sds g l w z) {n : Nat} (hz : z.length ≤ n) : ((every sds n).filter fun y => decide (w ≤ wor g l y))[0]? = some z := by
  have hmem : z ∈ (every sds n).filter fun y => decide (w ≤ wor g l y) := List.mem_filter.mpr ⟨(every_iff h1).mpr ⟨hz, h.lk, h.free⟩, decide_eq_true (by rw [h.is]; omega)⟩
  have hs := List.Pairwise.filter (fun y => decide (w ≤ wor g l y)) (every_sorted h1 n)
  cases hb : (every sds n).filter fun y => decide (w ≤ wor g l y) with
  | nil =>
    rw [hb] at hmem
    cases hmem
  | cons f t =>
    have hf : f ∈ (every sds n).filter fun y => decide (w ≤ wor g l y) := by rw [hb]; exact List.mem_cons_self
    obtain ⟨f1, f2⟩ := List.mem_filter.mp hf
    obtain ⟨_, f3, f4⟩ := (every_iff h1).mp f1
    have f5 : w ≤ wor g l f := of_decide_eq_true f2
    have f6 := h.max f f3 f4
    have f7 := h.first f f3 f4 (by omega)
    rw [hb] at hmem hs
    rcases List.mem_cons.mp hmem with e | e
    · rw [e]; rfl
    · have := (List.pairwise_cons.mp hs).1 z e
      rw [f7.anti this]
      rfl
theorem best_none {sds : List (List Nat)} (h1 : Ones sds) {g l w : Int} {z : List Nat} (h : IsBar sds g l w z) (n : Nat) : (((every sds n).filter fun y => decide (w ≤ wor g l y)).filter fun y => decide (w < wor g l y)) = [] := by
  rw [List.filter_eq_nil_iff]
  intro y hy hw
  obtain ⟨y1, _⟩ := List.mem_filter.mp hy
  obtain ⟨_, y3, y4⟩ := (every_iff h1).mp y1
  have := h.max y y3 y4
  have := of_decide_eq_true hw
  omega
end Sr
namespace Sr
open PySem PySem.Spec PyProof.Rows L2
theorem eqv_strs_nil : ∀ cs : List (List Nat), PyData.eqv (.list (cs.map strD)) (.list []) = cs.isEmpty
  | [] => by decide +kernel
  | c :: cs => by
    show PyData.eqv (.list (strD c :: cs.map strD)) (.list []) = false
    simp [PyData.eqv, PyData.eqvAll]
theorem eqS_nil {K : PySem.W.Frag} {H : Hp} {D p : Addr} {cs : List (List Nat)} (hc : Cd cs) (hD : H D = some (.lst (cs.map strV))) (hp : H p = some (.lst [])) {Q : VK} (q : Q (.bl cs.isEmpty) H) : rEqD K (.ref D) (.ref p) H Q :=
  ⟨.list (cs.map strD), .list [], .lst (SqL.of hD) (dp_strs _), .lst (SqL.of hp) .nil, shaped_strs hc, by decide +kernel, by rw [eqv_strs_nil]; exact q⟩
theorem neS_nil {K : PySem.W.Frag} {H : Hp} {D p : Addr} {cs : List (List Nat)} (hc : Cd cs) (hD : H D = some (.lst (cs.map strV))) (hp : H p = some (.lst [])) {Q : VK} (q : Q (.bl (!cs.isEmpty)) H) : rNeD K (.ref D) (.ref p) H Q :=
  ⟨.list (cs.map strD), .list [], .lst (SqL.of hD) (dp_strs _), .lst (SqL.of hp) .nil, shaped_strs hc, by decide +kernel, by rw [eqv_strs_nil]; exact q⟩
theorem take_filter_yes {α : Type} {l : List α} {f : α → Bool} {i : Nat} (hi : i < l.length) (h : f l[i] = true) : (l.take (i + 1)).filter f = (l.take i).filter f ++ [l[i]] := by
  rw [List.take_succ_eq_append_getElem hi, List.filter_append, List.filter_cons, if_pos h]
  rfl
theorem take_filter_no {α : Type} {l : List α} {f : α → Bool} {i : Nat} (hi : i < l.length) (h : ¬ f l[i] = true) : (l.take (i + 1)).filter f = (l.take i).filter f := by
  rw [List.take_succ_eq_append_getElem hi, List.filter_append, List.filter_cons, if_neg h]
  simp
/-- a comprehension over a list of texts that keeps its own texts: a turn -/
theorem keep_yes {H0 H : Hp} {D : Addr} {l : List (List Nat)} {f : List Nat → Bool} {i : Nat} (hi : i < l.length) (hl : l.length ≤ 100000) (hn : H0 D = none) (sm : Same H0 H) (hD : H D = some (.lst (((l.take i).filter f).map strV))) (hf : f l[i] = true) :
    ∃ acc, H D = some (.lst acc) ∧ acc.length < sizeLine ∧ (Same H0 (upd H D (.lst (acc ++ [strV l[i]]))) ∧ upd H D (.lst (acc ++ [strV l[i]])) D = some (.lst (((l.take (i + 1)).filter f).map strV))) := by
  refine ⟨_, hD, ?_, fun b x e => ?_, ?_⟩
  · rw [List.length_map]
    have h1 := List.length_filter_le f (l.take i)
    rw [List.length_take] at h1
    exact Nat.lt_of_le_of_lt (by omega : _ ≤ 100000) (by decide)
  · rw [upd_ne (ne_of_none e hn)]
    exact sm b x e
  · rw [upd_same, take_filter_yes hi hf, List.map_append]
    rfl
theorem keep_no {H0 H : Hp} {D : Addr} {l : List (List Nat)} {f : List Nat → Bool} {i : Nat} (hi : i < l.length) (sm : Same H0 H) (hD : H D = some (.lst (((l.take i).filter f).map strV))) (hf : ¬ f l[i] = true) :
    Same H0 H ∧ H D = some (.lst (((l.take (i + 1)).filter f).map strV)) := by
  refine ⟨sm, ?_⟩
  rw [take_filter_no hi hf]
  exact hD
/-- the rows told so far: all of i texts, and of the next one's two the first j -/
def rowsU (sds rows : List (List Nat)) (i j : Nat) : List (List Nat) := ((rows.take i).flatMap two ++ ((rows[i]?.map two).getD []).take j).filter (endB sds)
theorem rowsU_zero (sds rows : List (List Nat)) : rowsU sds rows 0 0 = [] := by simp [rowsU]
theorem rowsU_all (sds rows : List (List Nat)) : rowsU sds rows rows.length 0 = nextU sds rows := by simp [rowsU, nextU]
theorem rowsU_row {sds rows : List (List Nat)} {i : Nat} (hi : i < rows.length) : rowsU sds rows i 2 = rowsU sds rows (i + 1) 0 := by
  unfold rowsU
  rw [List.take_succ_eq_append_getElem hi, List.flatMap_append, List.getElem?_eq_getElem hi]
  simp [two]
theorem rowsU_yes {sds rows : List (List Nat)} {i j : Nat} (hi : i < rows.length) (hj : j < 2) (h : endB sds (rows[i] ++ [if j = 0 then 61 else 47]) = true) : rowsU sds rows i (j + 1) = rowsU sds rows i j ++ [rows[i] ++ [if j = 0 then 61 else 47]] := by
  unfold rowsU
  rw [List.getElem?_eq_getElem hi]
  have : j = 0 ∨ j = 1 := by omega
  rcases this with e | e
  · subst e
    simp [two, List.filter_append, List.filter_cons] at h ⊢
    simp [h]
  · subst e
    simp [two, List.filter_append, List.filter_cons] at h ⊢
    simp only [h, if_true]
    split <;> rfl
theorem rowsU_no {sds rows : List (List Nat)} {i j : Nat} (hi : i < rows.length) (hj : j < 2) (h : ¬ endB sds (rows[i] ++ [if j = 0 then 61 else 47]) = true) : rowsU sds rows i (j + 1) = rowsU sds rows i j := by
  unfold rowsU
  rw [List.getElem?_eq_getElem hi]
  have : j = 0 ∨ j = 1 := by omega
  rcases this with e | e <;> subst e <;> simp [two, List.filter_append, List.filter_cons] at h ⊢ <;> simp [h]
theorem rowsU_len (sds rows : List (List Nat)) (i j : Nat) : (rowsU sds rows i j).length ≤ 2 * rows.length + 2 := by
  unfold rowsU
  refine Nat.le_trans (List.length_filter_le _ _) ?_
  rw [List.length_append, two_len, List.length_take, List.length_take]
  have : ((rows[i]?.map two).getD []).length ≤ 2 := by
    cases rows[i]? <;> simp [two]
  omega
end Sr

namespace Sr
open PySem PySem.Spec PyProof.Rows L2
/-! ### windows -/
structure Win where
  k : Nat
  z : List Nat
  n : Nat
  p : Nat
/-- the signs under the picks of a seed at a place -/
def pickN (sd r : List Nat) (p i : Nat) : List Nat := (List.range i).filterMap fun j => if sd[j]? = some 35 then r[p + j]? else none
def pickW (sd r : List Nat) (p : Nat) : List Nat := pickN sd r p sd.length
/-- how many places -/
def plcs (sd r : List Nat) : Nat := ((r.length : Int) - (sd.length : Int) + 1).toNat
def winsP (k : Nat) (sd : List Nat) (n : Nat) (r : List Nat) (m : Nat) : List Win := (List.range m).map fun p => ⟨k, pickW sd r p, n, p⟩
def winsR (k : Nat) (sd : List Nat) (rows : List (List Nat)) (m : Nat) : List Win := (List.range m).flatMap fun n => winsP k sd n (rows[n]?.getD []) (plcs sd (rows[n]?.getD []))
def winsS (sds rows : List (List Nat)) (m : Nat) : List Win := (List.range m).flatMap fun k => winsR k (sds[k]?.getD []) rows rows.length
def wins (sds rows : List (List Nat)) : List Win := winsS sds rows sds.length
def winV (w : Win) : List V := [.int (w.k : Nat), .str (S w.z), .int (w.n : Nat), .int (w.p : Nat)]
def winD (w : Win) : List PyData := [.int (w.k : Nat), .str (S w.z), .int (w.n : Nat), .int (w.p : Nat)]
def winsUp (sds rows : List (List Nat)) : List Win := (wins sds rows).mergeSort (PySem.W.dataLe false fun w => PyData.tuple (winD w))
theorem winsP_succ (k : Nat) (sd : List Nat) (n : Nat) (r : List Nat) (m : Nat) : winsP k sd n r (m + 1) = winsP k sd n r m ++ [⟨k, pickW sd r m, n, m⟩] := by
  unfold winsP
  rw [List.range_succ, List.map_append]
  rfl
theorem winsR_succ (k : Nat) (sd : List Nat) (rows : List (List Nat)) (m : Nat) : winsR k sd rows (m + 1) = winsR k sd rows m ++ winsP k sd m (rows[m]?.getD []) (plcs sd (rows[m]?.getD [])) := by
  unfold winsR
  rw [List.range_succ, List.flatMap_append]
  simp
theorem winsS_succ (sds rows : List (List Nat)) (m : Nat) : winsS sds rows (m + 1) = winsS sds rows m ++ winsR m (sds[m]?.getD []) rows rows.length := by
  unfold winsS
  rw [List.range_succ, List.flatMap_append]
  simp
theorem pickN_yes {sd r : List Nat} {p i c : Nat} (h : sd[i]? = some 35) (hr : r[p + i]? = some c) : pickN sd r p (i + 1) = pickN sd r p i ++ [c] := by
  unfold pickN
  rw [List.range_succ, List.filterMap_append]
  simp [h, hr]
theorem pickN_no {sd r : List Nat} {p i : Nat} (h : ¬ sd[i]? = some 35) : pickN sd r p (i + 1) = pickN sd r p i := by
  unfold pickN
  rw [List.range_succ, List.filterMap_append]
  simp [h]
theorem pickN_len (sd r : List Nat) (p i : Nat) : (pickN sd r p i).length ≤ i := by
  unfold pickN
  have := List.length_filterMap_le (fun j => if sd[j]? = some 35 then r[p + j]? else none) (List.range i)
  rw [List.length_range] at this
  exact this
theorem winsP_len (k : Nat) (sd : List Nat) (n : Nat) (r : List Nat) (m : Nat) : (winsP k sd n r m).length = m := by
  unfold winsP
  rw [List.length_map, List.length_range]
theorem plcs_le (sd r : List Nat) : plcs sd r ≤ r.length + 1 := by
  unfold plcs
  omega
theorem winsR_len {k : Nat} {sd : List Nat} {rows : List (List Nat)} (h : ∀ z ∈ rows, z.length ≤ 60) : ∀ m, (winsR k sd rows m).length ≤ 61 * m
  | 0 => Nat.le_refl _
  | m + 1 => by
    rw [winsR_succ, List.length_append, winsP_len]
    have h1 := winsR_len (k := k) (sd := sd) h m
    have h2 : (rows[m]?.getD []).length ≤ 60 := by
      cases e : rows[m]? with
      | none => simp
      | some z => exact h z (List.mem_of_getElem? e)
    have := plcs_le sd (rows[m]?.getD [])
    omega
theorem winsS_len {sds rows : List (List Nat)} (h : ∀ z ∈ rows, z.length ≤ 60) (hr : rows.length ≤ 10) : ∀ m, (winsS sds rows m).length ≤ 610 * m
  | 0 => Nat.le_refl _
  | m + 1 => by
    rw [winsS_succ, List.length_append]
    have h1 := winsS_len (sds := sds) h hr m
    have h2 := winsR_len (k := m) (sd := sds[m]?.getD []) h rows.length
    omega
theorem dp_win {K : PySem.W.Frag} {H : Hp} (w : Win) : DpAll K H (winV w) (winD w) := .cons (.int _) (.cons (.str _) (.cons (.int _) (.cons (.int _) .nil)))
end Sr
namespace Sr
open PySem PySem.Spec PyProof.Rows L2
theorem allAlike_wins (L : List Win) : PySem.W.AllAlike (L.map fun p => PyData.tuple (winD p)) := by
  intro d hd d' hd'
  obtain ⟨p, _, rfl⟩ := List.mem_map.mp hd
  obtain ⟨p', _, rfl⟩ := List.mem_map.mp hd'
  show PySem.W.alikeAll _ _ = true
  simp [winD, PySem.W.alikeAll, PySem.W.alike]
theorem depth_win (w : Win) : (PyData.tuple (winD w)).depth ≤ 60 := by
  simp only [winD, PyData.depth, PyData.depthAll]
  omega
theorem pickN_code (sd r : List Nat) (p i : Nat) : ∀ c ∈ pickN sd r p i, c ∈ r := by
  intro c hc
  obtain ⟨j, _, h⟩ := List.mem_filterMap.mp hc
  by_cases hp : sd[j]? = some 35
  · rw [if_pos hp] at h
    exact List.mem_of_getElem? h
  · rw [if_neg hp] at h
    cases h
end Sr
namespace Sr
open PySem PySem.Spec PyProof.Rows L2
theorem flatMap_app_perm {α β : Type} (f g : α → List β) : ∀ l : List α, (l.flatMap fun a => f a ++ g a).Perm (l.flatMap f ++ l.flatMap g)
  | [] => .refl _
  | a :: l => by
    rw [List.flatMap_cons, List.flatMap_cons, List.flatMap_cons]
    have ih := flatMap_app_perm f g l
    have h1 : (f a ++ g a ++ (l.flatMap fun a => f a ++ g a)).Perm (f a ++ g a ++ (l.flatMap f ++ l.flatMap g)) := List.Perm.append_left _ ih
    refine h1.trans ?_
    rw [List.append_assoc, List.append_assoc]
    refine List.Perm.append_left _ ?_
    rw [← List.append_assoc, ← List.append_assoc]
    exact List.Perm.append_right _ List.perm_append_comm
theorem flatMap_nil' {α β : Type} : ∀ l : List α, (l.flatMap fun _ => ([] : List β)) = []
  | [] => rfl
  | a :: l => by rw [List.flatMap_cons, flatMap_nil' l]; rfl
theorem flatMap_swap {α β γ : Type} (f : α → β → List γ) (m : List β) : ∀ l : List α, (l.flatMap fun a => m.flatMap fun b => f a b).Perm (m.flatMap fun b => l.flatMap fun a => f a b)
  | [] => by
    rw [List.flatMap_nil]
    have : (m.flatMap fun b => ([] : List α).flatMap fun a => f a b) = [] := flatMap_nil' m
    rw [this]
  | a :: l => by
    rw [List.flatMap_cons]
    have ih := flatMap_swap f m l
    refine (List.Perm.append_left _ ih).trans ?_
    have := (flatMap_app_perm (fun b => f a b) (fun b => l.flatMap fun a => f a b) m).symm
    exact this
theorem dataLe_trans {α : Type} (k : α → PyData) (a b c : α) (h1 : PySem.W.dataLe false k a b = true) (h2 : PySem.W.dataLe false k b c = true) : PySem.W.dataLe false k a c = true := by
  rw [PySem.W.dataLe_eq] at h1 h2 ⊢
  have h1 : (!PySem.W.dataLt (k b) (k a)) = true := h1
  have h2 : (!PySem.W.dataLt (k c) (k b)) = true := h2
  show (!PySem.W.dataLt (k c) (k a)) = true
  rw [Bool.not_eq_true'] at h1 h2 ⊢
  cases h : PySem.W.dataLt (k c) (k a) with
  | false => rfl
  | true =>
    rcases lex_negTrans _ (PySem.W.keyToks (k b)) _ h with q | q
    · have q' : PySem.W.dataLt (k c) (k b) = true := q
      rw [h2] at q'; cases q'
    · have q' : PySem.W.dataLt (k b) (k a) = true := q
      rw [h1] at q'; cases q'
theorem dataLe_total {α : Type} (k : α → PyData) (a b : α) : (PySem.W.dataLe false k a b || PySem.W.dataLe false k b a) = true := by
  rw [PySem.W.dataLe_eq]
  show ((!PySem.W.dataLt (k b) (k a)) || (!PySem.W.dataLt (k a) (k b))) = true
  cases h : PySem.W.dataLt (k b) (k a) with
  | false => rfl
  | true =>
    cases h2 : PySem.W.dataLt (k a) (k b) with
    | false => rfl
    | true =>
      have q : PySem.W.dataLt (k a) (k a) = true := lex_trans _ _ _ h2 h
      have q2 : PySem.W.dataLt (k a) (k a) = false := lex_irrefl _
      rw [q2] at q; cases q
theorem dataLe_anti {α : Type} (k : α → PyData) {a b : α} (h1 : PySem.W.dataLe false k a b = true) (h2 : PySem.W.dataLe false k b a = true) : PySem.W.keyToks (k a) = PySem.W.keyToks (k b) := by
  rw [PySem.W.dataLe_eq] at h1 h2
  have h1 : (!PySem.W.dataLt (k b) (k a)) = true := h1
  have h2 : (!PySem.W.dataLt (k a) (k b)) = true := h2
  rw [Bool.not_eq_true'] at h1 h2
  exact lex_total _ _ h2 h1
theorem mergeSort_perm_eq {α : Type} (k : α → PyData) {L M : List α} (inj : ∀ a b, PySem.W.keyToks (k a) = PySem.W.keyToks (k b) → a = b) (h : L.Perm M) : L.mergeSort (PySem.W.dataLe false k) = M.mergeSort (PySem.W.dataLe false k) :=
  List.Perm.eq_of_pairwise (le := fun a b => PySem.W.dataLe false k a b = true) (fun a b _ _ h1 h2 => inj a b (dataLe_anti k h1 h2)) (List.pairwise_mergeSort (dataLe_trans k) (dataLe_total k) L) (List.pairwise_mergeSort (dataLe_trans k) (dataLe_total k) M)
    ((List.mergeSort_perm L _).trans (h.trans (List.mergeSort_perm M _).symm))
theorem win_inj (a b : Win) (h : PySem.W.keyToks (PyData.tuple (winD a)) = PySem.W.keyToks (PyData.tuple (winD b))) : a = b := by
  obtain ⟨k, z, n, p⟩ := a
  obtain ⟨k', z', n', p'⟩ := b
  simp [winD, PySem.W.keyToks, PySem.W.keyToksAll] at h
  obtain ⟨h1, h2, h3, h4⟩ := h
  have h2 : z = z' := by simpa [S] using h2
  have h1 : k = k' := by omega
  have h3 : n = n' := by omega
  have h4 : p = p' := by omega
  subst h1 h2 h3 h4
  rfl
/-! ### the program's order of them -/
abbrev W3 := Nat × List Nat × Nat
def w3V (q : W3) : List V := [.int (q.1 : Nat), .str (S q.2.1), .int (q.2.2 : Nat)]
def woK (row : List Nat) (k : Nat) (sd : List Nat) (m : Nat) : List W3 := (List.range m).map fun p => (k, pickW sd row p, p)
def wo (row : List Nat) (sds : List (List Nat)) (m : Nat) : List W3 := (List.range m).flatMap fun k => woK row k (sds[k]?.getD []) (plcs (sds[k]?.getD []) row)
def winsM (sds rows : List (List Nat)) (m : Nat) : List Win := (List.range m).flatMap fun n => (wo (rows[n]?.getD []) sds sds.length).map fun q => ⟨q.1, q.2.1, n, q.2.2⟩
theorem woK_succ (row : List Nat) (k : Nat) (sd : List Nat) (m : Nat) : woK row k sd (m + 1) = woK row k sd m ++ [(k, pickW sd row m, m)] := by
  unfold woK
  rw [List.range_succ, List.map_append]
  rfl
theorem wo_succ (row : List Nat) (sds : List (List Nat)) (m : Nat) : wo row sds (m + 1) = wo row sds m ++ woK row m (sds[m]?.getD []) (plcs (sds[m]?.getD []) row) := by
  unfold wo
  rw [List.range_succ, List.flatMap_append]
  simp
theorem winsM_succ (sds rows : List (List Nat)) (m : Nat) : winsM sds rows (m + 1) = winsM sds rows m ++ (wo (rows[m]?.getD []) sds sds.length).map fun q => ⟨q.1, q.2.1, m, q.2.2⟩ := by
  unfold winsM
  rw [List.range_succ, List.flatMap_append]
  simp
theorem winsM_perm (sds rows : List (List Nat)) : (winsM sds rows rows.length).Perm (wins sds rows) := by
  have e : winsM sds rows rows.length = (List.range rows.length).flatMap fun n => (List.range sds.length).flatMap fun k => winsP k (sds[k]?.getD []) n (rows[n]?.getD []) (plcs (sds[k]?.getD []) (rows[n]?.getD [])) := by
    unfold winsM wo
    congr 1
    funext n
    rw [List.map_flatMap]
    congr 1
    funext k
    unfold woK winsP
    rw [List.map_map]
    rfl
  rw [e]
  exact flatMap_swap _ _ _
theorem winsM_sort (sds rows : List (List Nat)) : (winsM sds rows rows.length).mergeSort (PySem.W.dataLe false fun w => PyData.tuple (winD w)) = winsUp sds rows := mergeSort_perm_eq _ win_inj (winsM_perm sds rows)
theorem woK_len (row : List Nat) (k : Nat) (sd : List Nat) (m : Nat) : (woK row k sd m).length = m := by
  unfold woK
  rw [List.length_map, List.length_range]
theorem wo_len {row : List Nat} {sds : List (List Nat)} (h : row.length ≤ 60) : ∀ m, (wo row sds m).length ≤ 61 * m
  | 0 => Nat.le_refl _
  | m + 1 => by
    rw [wo_succ, List.length_append, woK_len]
    have h1 := wo_len (sds := sds) h m
    have := plcs_le (sds[m]?.getD []) row
    omega
theorem winsM_len {sds rows : List (List Nat)} (h : ∀ z ∈ rows, z.length ≤ 60) (hs : sds.length ≤ 3) : ∀ m, (winsM sds rows m).length ≤ 183 * m
  | 0 => Nat.le_refl _
  | m + 1 => by
    rw [winsM_succ, List.length_append, List.length_map]
    have h1 := winsM_len h hs m
    have h2 : (rows[m]?.getD []).length ≤ 60 := by
      cases e : rows[m]? with
      | none => simp
      | some z => exact h z (List.mem_of_getElem? e)
    have h3 := wo_len (sds := sds) h2 sds.length
    omega
end Sr

namespace Sr
open PySem PySem.Spec PyProof.Rows L2
/-! ### a shelf in the heap -/
structure ShS where
  lets : List Nat
  g : Int
  l : Int
  sds : List (List Nat)
  rows : List (List Nat)
/-- what a shelf's own words are -/
structure ShOk (s : ShS) : Prop where
  g1 : 1 ≤ s.g
  g2 : s.g ≤ 9
  l1 : 1 ≤ s.l
  l2 : s.l ≤ 9
  sd : ∀ sd ∈ s.sds, Sd 8 sd
  one : 1 ≤ s.sds.length
  three : s.sds.length ≤ 3
structure ShAt (c : Addr) (H : Hp) (p : Addr) (foot : List Addr) (s : ShS) : Prop where
  ok : ShOk s
  ob : ∃ dx sc sq lp kp, H p = some (.ins c dx [("letters", .str (S s.lets)), ("scale", .ref sc), ("seeds", .ref sq), ("limit", .ref lp), ("laid", .ref kp)]) ∧ foot = [p, sq, kp] ∧ sq ≠ kp ∧ H sc = some (.tup [.int s.g, .int s.l]) ∧ H sq = some (.lst (s.sds.map strV)) ∧ H lp = some (.tup (barV (barM s.sds s.g s.l))) ∧ H kp = some (.lst (s.rows.map strV))
theorem ShAt.here {c p : Addr} {H : Hp} {foot : List Addr} {s : ShS} (h : ShAt c H p foot s) : ∀ b ∈ foot, ∃ o, H b = some o := by
  obtain ⟨dx, sc, sq, lp, kp, h1, rfl, n, h2, h3, h4, h5⟩ := h.ob
  intro b hb
  simp only [List.mem_cons, List.not_mem_nil, or_false] at hb
  rcases hb with e | e | e
  · subst e; exact ⟨_, h1⟩
  · subst e; exact ⟨_, h3⟩
  · subst e; exact ⟨_, h5⟩
theorem ShAt.notup {c p : Addr} {H : Hp} {foot : List Addr} {s : ShS} (h : ShAt c H p foot s) : ∀ b ∈ foot, ∀ xs, H b ≠ some (.tup xs) := by
  obtain ⟨dx, sc, sq, lp, kp, h1, rfl, n, h2, h3, h4, h5⟩ := h.ob
  intro b hb xs z
  simp only [List.mem_cons, List.not_mem_nil, or_false] at hb
  rcases hb with e | e | e
  · subst e; rw [h1] at z; cases z
  · subst e; rw [h3] at z; cases z
  · subst e; rw [h5] at z; cases z
theorem ShAt.same {c p : Addr} {H H' : Hp} {foot : List Addr} {s : ShS} (h : ShAt c H p foot s) (e : ∀ b ∈ foot, ∀ o, H b = some o → H' b = some o) (et : ∀ b xs, H b = some (.tup xs) → H' b = some (.tup xs)) : ShAt c H' p foot s := by
  obtain ⟨dx, sc, sq, lp, kp, h1, rfl, n, h2, h3, h4, h5⟩ := h.ob
  exact ⟨h.ok, dx, sc, sq, lp, kp, e _ (by simp) _ h1, rfl, n, et _ _ h2, e _ (by simp) _ h3, et _ _ h4, e _ (by simp) _ h5⟩
theorem ShAt.ins {c p : Addr} {H : Hp} {foot : List Addr} {s : ShS} (h : ShAt c H p foot s) : ∃ dx fs, H p = some (.ins c dx fs) ∧ fs.lookup ("lay" : Str) = none ∧ fs.lookup ("rows" : Str) = none ∧ fs.lookup ("windows" : Str) = none ∧ fs.lookup ("find" : Str) = none ∧ fs.lookup ("change" : Str) = none ∧ fs.lookup ("put" : Str) = none ∧ fs.lookup ("cut" : Str) = none ∧ fs.lookup ("_row_of" : Str) = none ∧ fs.lookup ("_seeded_lanes" : Str) = none := by
  obtain ⟨dx, sc, sq, lp, kp, h1, _⟩ := h.ob
  have no : ∀ m : Str, (m == ("letters" : Str)) = false → (m == ("scale" : Str)) = false → (m == ("seeds" : Str)) = false → (m == ("limit" : Str)) = false → (m == ("laid" : Str)) = false → ([(("letters" : Str), V.str (S s.lets)), ("scale", .ref sc), ("seeds", .ref sq), ("limit", .ref lp), ("laid", .ref kp)] : List (Str × V)).lookup m = none := fun m a1 a2 a3 a4 a5 => by
    simp only [List.lookup, a1, a2, a3, a4, a5]
  exact ⟨dx, _, h1, no _ (by decide +kernel) (by decide +kernel) (by decide +kernel) (by decide +kernel) (by decide +kernel), no _ (by decide +kernel) (by decide +kernel) (by decide +kernel) (by decide +kernel) (by decide +kernel), no _ (by decide +kernel) (by decide +kernel) (by decide +kernel) (by decide +kernel) (by decide +kernel), no _ (by decide +kernel) (by decide +kernel) (by decide +kernel) (by decide +kernel) (by decide +kernel), no _ (by decide +kernel) (by decide +kernel) (by decide +kernel) (by decide +kernel) (by decide +kernel), no _ (by decide +kernel) (by decide +kernel) (by decide +kernel) (by decide +kernel) (by decide +kernel), no _ (by decide +kernel) (by decide +kernel) (by decide +kernel) (by decide +kernel) (by decide +kernel), no _ (by decide +kernel) (by decide +kernel) (by decide +kernel) (by decide +kernel) (by decide +kernel), no _ (by decide +kernel) (by decide +kernel) (by decide +kernel) (by decide +kernel) (by decide +kernel)⟩
theorem ShAt.mem {c p : Addr} {H : Hp} {foot : List Addr} {s : ShS} (h : ShAt c H p foot s) : p ∈ foot := by
  obtain ⟨dx, sc, sq, lp, kp, h1, rfl, _⟩ := h.ob
  simp
/-! ### what follows of those alone -/
/-- what is not one's own stays, and so does every tuple -/
def Fr (foot : List Addr) (H H' : Hp) : Prop := (∀ b o, H b = some o → b ∉ foot → H' b = some o) ∧ ∀ b xs, H b = some (.tup xs) → H' b = some (.tup xs)
theorem Tup.fr {α : Type} {f : α → List V} {foot : List Addr} {H H' : Hp} {as : List Addr} {L : List α} (h : Tup f H as L) (fr : Fr foot H H') : Tup f H' as L := ⟨h.1, fun j a p h1 h2 => fr.2 _ _ (h.2 j a p h1 h2)⟩
theorem Tup.updL {α : Type} {f : α → List V} {H : Hp} {as : List Addr} {L : List α} {r : Addr} {xs : List V} {o : HO} (h : Tup f H as L) (hr : H r = some (.lst xs)) : Tup f (upd H r o) as L := ⟨h.1, fun j a p h1 h2 => by
  have := h.2 j a p h1 h2
  rw [upd_ne (ne_of this hr (by intro q; cases q))]
  exact this⟩
def Grow (foot foot' : List Addr) (H : Hp) : Prop := ∀ b ∈ foot', b ∈ foot ∨ H b = none
structure Two (c : Addr) (H : Hp) (p1 : Addr) (f1 : List Addr) (s1 : ShS) (p2 : Addr) (f2 : List Addr) (s2 : ShS) (Tr : List (Addr × HO)) : Prop where
  one : ShAt c H p1 f1 s1
  two : ShAt c H p2 f2 s2
  apart : ∀ b ∈ f1, b ∉ f2
  tr : ∀ t ∈ Tr, H t.1 = some t.2 ∧ t.1 ∉ f1 ∧ t.1 ∉ f2
theorem Two.swap {c p1 p2 : Addr} {H : Hp} {f1 f2 : List Addr} {s1 s2 : ShS} {Tr : List (Addr × HO)} (h : Two c H p1 f1 s1 p2 f2 s2 Tr) : Two c H p2 f2 s2 p1 f1 s1 Tr :=
  ⟨h.two, h.one, fun b h2 h1 => h.apart b h1 h2, fun t ht => ⟨(h.tr t ht).1, (h.tr t ht).2.2, (h.tr t ht).2.1⟩⟩
theorem Two.op {c p1 p2 : Addr} {H H' : Hp} {f1 f1' f2 : List Addr} {s1 s1' s2 : ShS} {Tr : List (Addr × HO)} (h : Two c H p1 f1 s1 p2 f2 s2 Tr) (sh : ShAt c H' p1 f1' s1') (fr : Fr f1 H H') (gr : Grow f1 f1' H) : Two c H' p1 f1' s1' p2 f2 s2 Tr := by
  refine ⟨sh, h.two.same (fun b hb o e => fr.1 b o e fun h1 => h.apart b h1 hb) fr.2, fun b hb h2 => ?_, fun t ht => ?_⟩
  · rcases gr b hb with e | e
    · exact h.apart b e h2
    · obtain ⟨o, eo⟩ := h.two.here b h2
      rw [e] at eo
      cases eo
  · obtain ⟨h1, h2, h3⟩ := h.tr t ht
    refine ⟨fr.1 _ _ h1 h2, fun hm => ?_, h3⟩
    rcases gr _ hm with e | e
    · exact h2 e
    · rw [e] at h1
      cases h1
theorem Two.same {c p1 p2 : Addr} {H H' : Hp} {f1 f2 : List Addr} {s1 s2 : ShS} {Tr : List (Addr × HO)} (h : Two c H p1 f1 s1 p2 f2 s2 Tr) (e : Same H H') : Two c H' p1 f1 s1 p2 f2 s2 Tr :=
  ⟨h.one.same (fun b _ o => e b o) (fun b _ x => e b _ x), h.two.same (fun b _ o => e b o) (fun b _ x => e b _ x), h.apart, fun t ht => ⟨e _ _ (h.tr t ht).1, (h.tr t ht).2⟩⟩
/-- an address that is no one's -/
theorem Two.upd {c p1 p2 r : Addr} {o : HO} {H : Hp} {f1 f2 : List Addr} {s1 s2 : ShS} {Tr : List (Addr × HO)} (h : Two c H p1 f1 s1 p2 f2 s2 Tr) (h1 : r ∉ f1) (h2 : r ∉ f2) (h3 : ∀ t ∈ Tr, r ≠ t.1) (h4 : ∀ xs, H r ≠ some (.tup xs)) : Two c (upd H r o) p1 f1 s1 p2 f2 s2 Tr := by
  have ht : ∀ b xs, H b = some (.tup xs) → L2.upd H r o b = some (.tup xs) := fun b xs e => by
    rw [upd_ne (fun q : b = r => h4 xs (by rw [← q]; exact e))]
    exact e
  refine ⟨h.one.same (fun b hb o' e => ?_) ht, h.two.same (fun b hb o' e => ?_) ht, h.apart, fun t ht => ⟨?_, (h.tr t ht).2⟩⟩
  · rw [upd_ne (fun q : b = r => h1 (by rw [← q]; exact hb))]; exact e
  · rw [upd_ne (fun q : b = r => h2 (by rw [← q]; exact hb))]; exact e
  · rw [upd_ne (Ne.symm (h3 t ht))]; exact (h.tr t ht).1
theorem Two.add {c p1 p2 r : Addr} {o : HO} {H : Hp} {f1 f2 : List Addr} {s1 s2 : ShS} {Tr : List (Addr × HO)} (h : Two c H p1 f1 s1 p2 f2 s2 Tr) (hr : H r = some o) (h1 : r ∉ f1) (h2 : r ∉ f2) : Two c H p1 f1 s1 p2 f2 s2 ((r, o) :: Tr) :=
  ⟨h.one, h.two, h.apart, fun t ht => by
    rcases List.mem_cons.mp ht with e | e
    · rw [e]; exact ⟨hr, h1, h2⟩
    · exact h.tr t e⟩
theorem Two.no {c p1 p2 r : Addr} {H : Hp} {f1 f2 : List Addr} {s1 s2 : ShS} {Tr : List (Addr × HO)} (h : Two c H p1 f1 s1 p2 f2 s2 Tr) (hr : H r = none) : r ∉ f1 ∧ r ∉ f2 ∧ ∀ t ∈ Tr, r ≠ t.1 :=
  ⟨fun hm => (by
    obtain ⟨o, e⟩ := h.one.here r hm
    rw [hr] at e
    cases e), fun hm => (by
    obtain ⟨o, e⟩ := h.two.here r hm
    rw [hr] at e
    cases e), fun t ht e => (by
    have := (h.tr t ht).1
    rw [← e, hr] at this
    cases this)⟩
def Lets (z : List Nat) : Prop := ∃ t n, z = letL t n ∧ t < 26 ∧ 2 ≤ n ∧ n ≤ 6
/-- the windows as data -/
def winsD (L : List Win) : PyData := .list (L.map fun w => PyData.tuple (winD w))
theorem dp_wins {K : PySem.W.Frag} {H : Hp} {r : Addr} {as : List Addr} {L : List Win} (h : SqL K H r (as.map V.ref)) (hT : Tup winV H as L) : Dp K H (.ref r) (winsD L) := .lst h (Tup.dp dp_win hT)
theorem Gd_wins (L : List Win) (h : L.length ≤ 100000) : Gd (winsD L) := by
  refine .lst _ (by rw [List.length_map]; exact h) fun d hd => ?_
  obtain ⟨w, _, rfl⟩ := List.mem_map.mp hd
  refine .tup _ (by show 4 ≤ 100000; omega) fun e he => ?_
  simp only [winD, List.mem_cons, List.not_mem_nil, or_false] at he
  rcases he with rfl | rfl | rfl | rfl
  · exact .int _
  · exact .str _
  · exact .int _
  · exact .int _
theorem depth_wins (L : List Win) : (winsD L).depth ≤ 3 := by
  have h : PyData.depthAll (L.map fun w => PyData.tuple (winD w)) ≤ 2 := by
    induction L with
    | nil => simp [PyData.depthAll]
    | cons w L ih =>
      rw [List.map_cons, PyData.depthAll]
      refine Nat.max_le.mpr ⟨?_, ih⟩
      simp only [winD, PyData.depth, PyData.depthAll]
      omega
  simp only [winsD, PyData.depth]
  omega
theorem Gd_strs (L : List (List Nat)) (h : L.length ≤ 100000) : Gd (.list (L.map strD)) := by
  refine .lst _ (by rw [List.length_map]; exact h) fun d hd => ?_
  obtain ⟨w, _, rfl⟩ := List.mem_map.mp hd
  exact .str _
theorem depth_strL (L : List (List Nat)) : (PyData.list (L.map strD)).depth ≤ 2 := by
  have h := depth_strs L
  simp only [PyData.depth]
  omega
theorem lay_wins : ∀ {L : List Win}, (∀ w ∈ L, ∀ c ∈ w.z, c < 1114112) → PyData.canLayAll0 (L.map fun w => PyData.tuple (winD w)) = true
  | [], _ => by simp [PyData.canLayAll0]
  | w :: L, h => by
    have h1 := lay_wins (L := L) fun x hx => h x (List.mem_cons_of_mem _ hx)
    have h2 := strOk_S (h w List.mem_cons_self)
    rw [List.map_cons]
    simp only [winD, PyData.canLayAll0, PyData.canLay0, Bool.and_eq_true, Bool.true_and, Bool.and_true]
    exact ⟨h2, h1⟩
theorem eq_wins_same {K : PySem.W.Frag} {H : Hp} {r r' : Addr} {as as' : List Addr} {L : List Win} (hc : ∀ w ∈ L, ∀ c ∈ w.z, c < 1114112) (h : SqL K H r (as.map V.ref)) (hT : Tup winV H as L) (h' : SqL K H r' (as'.map V.ref)) (hT' : Tup winV H as' L) {Q : VK} (q : Q (.bl true) H) : rEqD K (.ref r) (.ref r') H Q := by
  have sh : SeqAt.shaped (winsD L) = true := by
    unfold SeqAt.shaped
    rw [Bool.and_eq_true]
    refine ⟨lay_wins hc, decide_eq_true ?_⟩
    have := depth_wins L
    omega
  exact ⟨winsD L, winsD L, dp_wins h hT, dp_wins h' hT', sh, sh, by rw [SeqAt.eqv_refl (winsD L) (lay_wins hc)]; exact q⟩
theorem winsUp_mem {sds rows : List (List Nat)} {w : Win} (h : w ∈ winsUp sds rows) : ∀ c ∈ w.z, ∃ r ∈ rows, c ∈ r := by
  have h1 : w ∈ wins sds rows := (List.mergeSort_perm _ _).mem_iff.mp h
  unfold wins winsS winsR winsP at h1
  obtain ⟨k, hk, h2⟩ := List.mem_flatMap.mp h1
  obtain ⟨n, hn, h3⟩ := List.mem_flatMap.mp h2
  obtain ⟨p, hp, rfl⟩ := List.mem_map.mp h3
  have hn' := List.mem_range.mp hn
  rw [List.getElem?_eq_getElem hn'] at hp ⊢
  intro c hc
  exact ⟨rows[n], List.getElem_mem hn', pickN_code _ _ _ _ c hc⟩
theorem winsUp_len {sds rows : List (List Nat)} (h : ∀ z ∈ rows, z.length ≤ 60) (hr : rows.length ≤ 10) (hs : sds.length ≤ 4) : (winsUp sds rows).length ≤ 2440 := by
  unfold winsUp
  rw [List.length_mergeSort]
  have := winsS_len (sds := sds) h hr sds.length
  unfold wins
  omega
theorem cutV_take (xs : List V) (k : Nat) : cutV xs none (some (k : Int)) = xs.take k := by
  unfold cutV
  have e0 : HT.sIx xs.length 0 none = 0 := rfl
  have e1 : HT.sIx xs.length xs.length (some (k : Int)) = min k xs.length := HT.sIx_nat _ _ _
  rw [e0, e1, List.drop_zero, Nat.sub_zero]
  by_cases h : k ≤ xs.length
  · rw [Nat.min_eq_left h]
  · rw [Nat.min_eq_right (by omega), List.take_of_length_le (Nat.le_refl _), List.take_of_length_le (by omega)]
theorem upd2_none {H : Hp} {x dx b : Addr} {o1 o2 : HO} (h : (upd (upd H dx o1) x o2) b = none) : H b = none := by
  cases e : H b with
  | none => rfl
  | some o =>
    by_cases h1 : b = x
    · rw [h1, upd_same] at h
      cases h
    · rw [upd_ne h1] at h
      by_cases h2 : b = dx
      · rw [h2, upd_same] at h
        cases h
      · rw [upd_ne h2, e] at h
        cases h
theorem Two.less {c p1 p2 : Addr} {H : Hp} {f1 f2 : List Addr} {s1 s2 : ShS} {Tr Tr' : List (Addr × HO)} (h : Two c H p1 f1 s1 p2 f2 s2 Tr) (e : ∀ t ∈ Tr', t ∈ Tr) : Two c H p1 f1 s1 p2 f2 s2 Tr' := ⟨h.one, h.two, h.apart, fun t ht => h.tr t (e t ht)⟩
theorem rep_map_strV (k : Nat) (z : List Nat) : (List.replicate k [strV z]).flatten = (List.replicate k z).map strV := by
  induction k with
  | zero => rfl
  | succ k ih =>
    rw [List.replicate_succ, List.flatten_cons, ih, List.replicate_succ, List.map_cons]
    rfl
end Sr
namespace Sr
open PySem PySem.Spec PyProof.Rows L2
/-- .. but the instance at x -/
structure SmX (x P : Addr) (q : Str) (H H' : Hp) : Prop where
  k : ∀ b o, b ≠ x → H b = some o → (∀ ps, o ≠ .tbl ps) → H' b = some o
  k' : ∀ b o, b ≠ x → b ≠ P → H b = some o → H' b = some o
  t : LamX.TabS H P q → LamX.TabS H' P q
theorem SmX.to {x P : Addr} {q : Str} {H0 H H' : Hp} (h : SmX x P q H H') (n : H0 x = none) (s : Same H0 H) : SmT P q H0 H' :=
  ⟨fun b o e ne => h.k b o (ne_of_none e n) (s b o e) ne, fun b o np e => h.k' b o (ne_of_none e n) np (s b o e), fun t => h.t (t.ext s)⟩
theorem ShAt.smT {c p P : Addr} {q : Str} {H H' : Hp} {foot : List Addr} {s : ShS} (h : ShAt c H p foot s) (e : SmT P q H H') : ShAt c H' p foot s := by
  obtain ⟨dx, sc, sq, lp, kp, h1, rfl, n, h2, h3, h4, h5⟩ := h.ob
  exact ⟨h.ok, dx, sc, sq, lp, kp, e.k _ _ h1 (fun _ z => nomatch z), rfl, n, e.tup h2, e.lst h3, e.tup h4, e.lst h5⟩
end Sr
namespace L2
section
open PySem PySem.Spec PyProof.Rows
variable {K : PySem.W.Frag} {σ : St} {H : Hp} {Q : VK} {ta tv : TE} {f : Str} {R : It → Hp → Prop}
theorem x_fld (q : ta σ H fun x H1 => ∃ a C dx fs v, x = .ref a ∧ H1 a = some (.ins C dx fs) ∧ Cls K C ∧ NoAttr K C f ∧ fs.lookup f = some v ∧ Q v H1) : tFld K ta f σ H Q := q
theorem x_sfld {D : Ends} (q : tv σ H fun y H1 => ta σ H1 fun x H2 => ∃ a C dx fs, x = .ref a ∧ H2 a = some (.ins C dx fs) ∧ Cls K C ∧ NoAttr K C f ∧ fs.length < 1000 ∧ D.nx σ (upd H2 a (.ins C dx (putF f y fs)))) : sFld K ta tv f D σ H := q
theorem x_iEnumL {t : TA} (q : t σ H fun vs H1 => ∃ a xs, vs = [.ref a] ∧ SqL K H1 a xs ∧ R (Ite K a) H1) : iEnum K t σ H R := q
end
end L2
namespace Sr
open PySem PySem.Spec PyProof.Rows L2
abbrev fl5 (a b c d e : V) : List (Str × V) := [("letters", a), ("scale", b), ("seeds", c), ("limit", d), ("laid", e)]
theorem fl5_letters (a b c d e : V) : (fl5 a b c d e).lookup (Str.ofString "letters") = some a := rfl
theorem fl5_scale (a b c d e : V) : (fl5 a b c d e).lookup (Str.ofString "scale") = some b := rfl
theorem fl5_seeds (a b c d e : V) : (fl5 a b c d e).lookup (Str.ofString "seeds") = some c := rfl
theorem fl5_limit (a b c d e : V) : (fl5 a b c d e).lookup (Str.ofString "limit") = some d := rfl
theorem fl5_laid (a b c d e : V) : (fl5 a b c d e).lookup (Str.ofString "laid") = some e := rfl
theorem fl5_put1 (a : V) : putF (Str.ofString "letters") a [] = ([("letters", a)] : List (Str × V)) := rfl
theorem fl5_put2 (a b : V) : putF (Str.ofString "scale") b ([("letters", a)] : List (Str × V)) = ([("letters", a), ("scale", b)] : List (Str × V)) := rfl
theorem fl5_put3 (a b c : V) : putF (Str.ofString "seeds") c ([("letters", a), ("scale", b)] : List (Str × V)) = ([("letters", a), ("scale", b), ("seeds", c)] : List (Str × V)) := rfl
theorem fl5_get3 (a b c : V) : List.lookup (Str.ofString "seeds") ([("letters", a), ("scale", b), ("seeds", c)] : List (Str × V)) = some c := rfl
theorem fl5_put4 (a b c d : V) : putF (Str.ofString "limit") d ([("letters", a), ("scale", b), ("seeds", c)] : List (Str × V)) = ([("letters", a), ("scale", b), ("seeds", c), ("limit", d)] : List (Str × V)) := rfl
theorem fl5_put5 (a b c d e : V) : putF (Str.ofString "laid") e ([("letters", a), ("scale", b), ("seeds", c), ("limit", d)] : List (Str × V)) = fl5 a b c d e := rfl
theorem letL_ok {z : List Nat} (h : Lets z) : 2 ≤ z.length ∧ z.length ≤ 6 ∧ (∀ c ∈ z, 97 ≤ c ∧ c ≤ 122) ∧ z.Nodup := by
  obtain ⟨t, n, rfl, ht, h2, h6⟩ := h
  have key : ∀ t < 26, ∀ n < 7, (letL t n).length = n ∧ (∀ c ∈ letL t n, 97 ≤ c ∧ c ≤ 122) ∧ (letL t n).Nodup := by decide +kernel
  obtain ⟨a, b, c⟩ := key t ht n (by omega)
  exact ⟨by omega, by omega, b, c⟩
end Sr
namespace Sr
open PySem PySem.Spec PyProof.Rows L2
section
variable {x P : Addr} {q : Str} {H H1 H2 : Hp}
theorem SmX.of (s : Same H H1) : SmX x P q H H1 := ⟨fun b o _ e _ => s b o e, fun b o _ _ e => s b o e, fun t => t.ext s⟩
theorem SmX.smT (a : SmX x P q H H1) (s : SmT P q H1 H2) : SmX x P q H H2 := ⟨fun b o n e h => s.k b o (a.k b o n e h) h, fun b o n m e => s.k' b o m (a.k' b o n m e), fun t => s.t (a.t t)⟩
theorem SmX.put {c d : Addr} {fs : List (Str × V)} {o : HO} (a : SmX x P q H H1) (e : H1 x = some (.ins c d fs)) : SmX x P q H (L2.upd H1 x o) :=
  ⟨fun b o' n h t => by rw [upd_ne n]; exact a.k b o' n h t, fun b o' n m h => by rw [upd_ne n]; exact a.k' b o' n m h, fun t => tabS_upd (a.t t) (fun _ z => by rw [e] at z; cases z) fun _ z => by rw [e] at z; cases z⟩
end
end Sr
namespace Sr
open PySem PySem.Spec PyProof.Rows L2
theorem ShAt.tab {c p P : Addr} {q : Str} {H H' : Hp} {foot : List Addr} {s : ShS} (h : ShAt c H p foot s) (fr : Fr foot H H') (t : LamX.TabS H P q) : LamX.TabS H' P q := by
  obtain ⟨dx, sc, sq, lp, kp, e1, rfl, n, e2, e3, e4, e5⟩ := h.ob
  obtain ⟨ps, h1, h2, h3⟩ := t
  have no : ∀ b o, H b = some o → (∀ c d fs, o ≠ .ins c d fs) → (∀ xs, o ≠ .lst xs) → b ∉ [p, sq, kp] := fun b o e n1 n2 hb => by
    simp only [List.mem_cons, List.not_mem_nil, or_false] at hb
    rcases hb with z | z | z
    · subst z; exact n1 _ _ _ (Option.some.inj (e.symm.trans e1))
    · subst z; exact n2 _ (Option.some.inj (e.symm.trans e3))
    · subst z; exact n2 _ (Option.some.inj (e.symm.trans e5))
  refine ⟨ps, fr.1 _ _ h1 (no _ _ h1 (fun _ _ _ z => nomatch z) fun _ z => nomatch z), h2, fun pos cv hc => ?_⟩
  obtain ⟨c', z1, z2⟩ := h3 pos cv hc
  exact ⟨c', z1, fr.1 _ _ z2 (no _ _ z2 (fun _ _ _ z => by unfold LamX.CodeO at z; cases z) fun _ z => by unfold LamX.CodeO at z; cases z)⟩
/-- a deed on a shelf that is new -/
theorem ShAt.smFr {c p P : Addr} {q : Str} {H0 H H' : Hp} {foot : List Addr} {s : ShS} (h : ShAt c H p foot s) (e : SmT P q H0 H) (fr : Fr foot H H') (fn : ∀ b ∈ foot, H0 b = none) : SmT P q H0 H' := by
  have nf : ∀ b o, H0 b = some o → b ∉ foot := fun b o e hb => by
    rw [fn b hb] at e; cases e
  exact ⟨fun b o eo hn => fr.1 _ _ (e.k b o eo hn) (nf b o eo), fun b o np eo => fr.1 _ _ (e.k' b o np eo) (nf b o eo), fun t => h.tab fr (e.t t)⟩
end Sr

namespace Sr
open PySem PySem.Spec PyProof.Rows L2
/-! ### one shelf, the source of draws, and what is tracked beside -/
structure One1 (c : Addr) (H : Hp) (a b p : Addr) (f : List Addr) (s : ShS) (Tr : List (Addr × HO)) : Prop where
  sh : ShAt c H p f s
  src : Src H a b
  na : a ∉ f
  nb : b ∉ f
  tr : ∀ t ∈ Tr, H t.1 = some t.2 ∧ t.1 ∉ f ∧ t.1 ≠ a ∧ t.1 ≠ b
theorem Src.la {a b : Addr} {H : Hp} (h : Src H a b) : ∃ xs, H a = some (.lst xs) := by
  obtain ⟨_, s, i, cs, h1, _⟩ := h
  exact ⟨_, h1⟩
theorem Src.lb {a b : Addr} {H : Hp} (h : Src H a b) : ∃ xs, H b = some (.lst xs) := by
  obtain ⟨_, s, i, cs, _, h2, _⟩ := h
  exact ⟨_, h2⟩
theorem Kp.tups {a b q : Addr} {H H' : Hp} {xs : List V} (k : Kp a b H H') (h : Src H a b) (e : H q = some (.tup xs)) : H' q = some (.tup xs) := by
  obtain ⟨la, ea⟩ := h.la
  obtain ⟨lb, eb⟩ := h.lb
  refine k q _ (fun z => ?_) (fun z => ?_) e
  · rw [z, ea] at e
    cases e
  · rw [z, eb] at e
    cases e
theorem Tup.kp {α : Type} {f : α → List V} {a b : Addr} {H H' : Hp} {as : List Addr} {L : List α} (h : Tup f H as L) (k : Kp a b H H') (hs : Src H a b) : Tup f H' as L := ⟨h.1, fun j q p h1 h2 => k.tups hs (h.2 j q p h1 h2)⟩
variable {c a b p : Addr} {H H' : Hp} {f f' : List Addr} {s s' : ShS} {Tr Tr' : List (Addr × HO)}
theorem One1.same (h : One1 c H a b p f s Tr) (e : Same H H') : One1 c H' a b p f s Tr :=
  ⟨h.sh.same (fun b _ o => e b o) (fun b _ x => e b _ x), Src_same h.src e, h.na, h.nb, fun t ht => ⟨e _ _ (h.tr t ht).1, (h.tr t ht).2⟩⟩
theorem One1.kp (h : One1 c H a b p f s Tr) (k : Kp a b H H') (hs : Src H' a b) : One1 c H' a b p f s Tr :=
  ⟨h.sh.same (fun q hq o e => k q o (fun z => h.na (z ▸ hq)) (fun z => h.nb (z ▸ hq)) e) (fun q xs e => k.tups h.src e), hs, h.na, h.nb, fun t ht => ⟨k _ _ (h.tr t ht).2.2.1 (h.tr t ht).2.2.2 (h.tr t ht).1, (h.tr t ht).2⟩⟩
theorem One1.op (h : One1 c H a b p f s Tr) (sh : ShAt c H' p f' s') (fr : Fr f H H') (gr : Grow f f' H) : One1 c H' a b p f' s' Tr := by
  have out : ∀ q o, H q = some o → q ∉ f → q ∉ f' := fun q o e n hm => by
    rcases gr q hm with z | z
    · exact n z
    · rw [z] at e
      cases e
  obtain ⟨nab, s0, i, cs, h1, h2, h3⟩ := h.src
  exact ⟨sh, ⟨nab, s0, i, cs, fr.1 _ _ h1 h.na, fr.1 _ _ h2 h.nb, h3⟩, out _ _ h1 h.na, out _ _ h2 h.nb, fun t ht => ⟨fr.1 _ _ (h.tr t ht).1 (h.tr t ht).2.1, out _ _ (h.tr t ht).1 (h.tr t ht).2.1, (h.tr t ht).2.2⟩⟩
theorem One1.add {r : Addr} {o : HO} (h : One1 c H a b p f s Tr) (hr : H r = some o) (h1 : r ∉ f) (h2 : r ≠ a) (h3 : r ≠ b) : One1 c H a b p f s ((r, o) :: Tr) :=
  ⟨h.sh, h.src, h.na, h.nb, fun t ht => by
    rcases List.mem_cons.mp ht with e | e
    · rw [e]; exact ⟨hr, h1, h2, h3⟩
    · exact h.tr t e⟩
theorem One1.no {r : Addr} (h : One1 c H a b p f s Tr) (hr : H r = none) : r ∉ f ∧ r ≠ a ∧ r ≠ b ∧ ∀ t ∈ Tr, r ≠ t.1 := by
  refine ⟨fun hm => ?_, h.src.ne_a hr, h.src.ne_b hr, fun t ht z => ?_⟩
  · obtain ⟨o, e⟩ := h.sh.here r hm
    rw [hr] at e
    cases e
  · have := (h.tr t ht).1
    rw [← z, hr] at this
    cases this
/-- something new, tracked from now on -/
theorem One1.new {r : Addr} {o : HO} (h : One1 c H a b p f s Tr) (hr : H r = none) : One1 c (L2.upd H r o) a b p f s ((r, o) :: Tr) :=
  (h.same (same_upd hr)).add upd_same (h.no hr).1 (h.no hr).2.1 (h.no hr).2.2.1
theorem One1.less (h : One1 c H a b p f s Tr) (e : ∀ t ∈ Tr', t ∈ Tr) : One1 c H a b p f s Tr' := ⟨h.sh, h.src, h.na, h.nb, fun t ht => h.tr t (e t ht)⟩
theorem One1.get (h : One1 c H a b p f s Tr) {r : Addr} {o : HO} (e : (r, o) ∈ Tr) : H r = some o := (h.tr _ e).1
/-- a tracked thing is changed -/
theorem One1.chg {r : Addr} {o o' : HO} (h : One1 c H a b p f s ((r, o) :: Tr)) (ht : ∀ t ∈ Tr, t.1 ≠ r) (nt : ∀ xs, o ≠ .tup xs) : One1 c (L2.upd H r o') a b p f s ((r, o') :: Tr) := by
  obtain ⟨e0, n0, n1, n2⟩ := h.tr _ List.mem_cons_self
  obtain ⟨nab, s0, i, cs, h1, h2, h3⟩ := h.src
  refine ⟨h.sh.same (fun q hq o e => ?_) (fun q xs e => ?_), ⟨nab, s0, i, cs, ?_, ?_, h3⟩, h.na, h.nb, fun t ht' => ?_⟩
  · rw [upd_ne (fun z : q = r => n0 (z ▸ hq))]
    exact e
  · rw [upd_ne (fun z : q = r => by rw [z, e0] at e; exact nt xs (Option.some.inj e))]
    exact e
  · rw [upd_ne (Ne.symm n1)]; exact h1
  · rw [upd_ne (Ne.symm n2)]; exact h2
  · rcases List.mem_cons.mp ht' with z | z
    · rw [z]; exact ⟨upd_same, n0, n1, n2⟩
    · obtain ⟨a1, a2⟩ := h.tr t (List.mem_cons_of_mem _ z)
      exact ⟨by rw [upd_ne (ht t z)]; exact a1, a2⟩
end Sr

namespace Sr
open PySem PySem.Spec PyProof.Rows L2
/-! ### deeds on a row -/
/-- the windows that have the places from first to last under them -/
def ovP (m : Nat) (first last : Int) (k : Nat) : Nat := ((List.range k).filter fun p : Nat => decide ((p : Int) ≤ first) && decide (last < (p : Int) + (m : Int))).length
def ovS (sds : List (List Nat)) (len first last : Int) (k : Nat) : Nat := ((List.range k).map fun i => ovP (sds[i]?.getD []).length first last (len - ((sds[i]?.getD []).length : Int) + 1).toNat).sum
def over (sds : List (List Nat)) (len first last : Int) : Nat := ovS sds len first last sds.length
theorem ovP_succ (m : Nat) (first last : Int) (k : Nat) : ovP m first last (k + 1) = ovP m first last k + (if decide ((k : Int) ≤ first) && decide (last < (k : Int) + (m : Int)) then 1 else 0) := by
  unfold ovP
  rw [List.range_succ, List.filter_append, List.length_append]
  congr 1
  by_cases h : (decide ((k : Int) ≤ first) && decide (last < (k : Int) + (m : Int))) = true
  · rw [if_pos h, List.filter_cons, if_pos h]; rfl
  · rw [if_neg h, List.filter_cons, if_neg h]; rfl
theorem ovS_succ (sds : List (List Nat)) (len first last : Int) (k : Nat) : ovS sds len first last (k + 1) = ovS sds len first last k + ovP (sds[k]?.getD []).length first last (len - ((sds[k]?.getD []).length : Int) + 1).toNat := by
  unfold ovS
  rw [List.range_succ, List.map_append, List.sum_append]
  simp
/-- a row with a sign changed, put in, cut out -/
def chg (r : List Nat) (p c : Nat) : List Nat := r.take p ++ [c] ++ r.drop (p + 1)
def putR (r : List Nat) (p c : Nat) : List Nat := r.take p ++ [c] ++ r.drop p
def cutR (r : List Nat) (p : Nat) : List Nat := r.take p ++ r.drop (p + 1)
end Sr
namespace Sr
open PySem PySem.Spec PyProof.Rows L2
theorem fl5_row_of (a b c d e : V) : (fl5 a b c d e).lookup (Str.ofString "_row_of") = none := rfl
end Sr
namespace Sr
open PySem PySem.Spec PyProof.Rows L2
theorem ixN_nat {n k : Nat} (h : k < n) : ixN n (k : Int) = some k := by
  unfold ixN
  rw [if_pos (by omega), if_pos (by omega)]
  rfl
theorem chg_len {r : List Nat} {p c : Nat} (h : p < r.length) : (chg r p c).length = r.length := by
  unfold chg
  simp only [List.length_append, List.length_take, List.length_drop, List.length_cons, List.length_nil]
  omega
theorem putR_len {r : List Nat} {p c : Nat} (h : p ≤ r.length) : (putR r p c).length = r.length + 1 := by
  unfold putR
  simp only [List.length_append, List.length_take, List.length_drop, List.length_cons, List.length_nil]
  omega
theorem cutR_len {r : List Nat} {p : Nat} (h : p < r.length) : (cutR r p).length = r.length - 1 := by
  unfold cutR
  simp only [List.length_append, List.length_take, List.length_drop]
  omega
/-- a shelf with another row at n -/
theorem ShAt.setRow {c p : Addr} {H : Hp} {foot : List Addr} {s : ShS} (h : ShAt c H p foot s) {n : Nat} {z : List Nat} {kp : Addr} (hk : H kp = some (.lst (s.rows.map strV))) (hf : kp ∈ foot) (hkp : ∃ dx sc sq lp, H p = some (.ins c dx (fl5 (.str (S s.lets)) (.ref sc) (.ref sq) (.ref lp) (.ref kp)))) :
    ShAt c (L2.upd H kp (.lst ((s.rows.map strV).set n (.str (S z))))) p foot { s with rows := s.rows.set n z } ∧ Fr foot H (L2.upd H kp (.lst ((s.rows.map strV).set n (.str (S z))))) := by
  obtain ⟨dx, sc, sq, lp, kp', e1, rfl, nn, e2, e3, e4, e5⟩ := h.ob
  obtain ⟨dx', sc', sq', lp', e1'⟩ := hkp
  rw [e1'] at e1
  have e6 : kp' = kp := by
    have := (HO.ins.inj (Option.some.inj e1)).2.2
    simp only [List.cons.injEq, Prod.mk.injEq, V.ref.injEq, and_true, true_and] at this
    exact this.2.2.2.symm
  subst e6
  have nkp : kp' ≠ p := fun e => by rw [e, e1'] at e5; cases e5
  have tup : ∀ b xs, H b = some (.tup xs) → L2.upd H kp' (.lst ((s.rows.map strV).set n (.str (S z)))) b = some (.tup xs) := fun b xs e => (upd_ne (fun z => by rw [z, e5] at e; cases e)).trans e
  rw [e1] at e1'
  refine ⟨⟨⟨h.ok.g1, h.ok.g2, h.ok.l1, h.ok.l2, h.ok.sd, h.ok.one, h.ok.three⟩, dx, sc, sq, lp, kp', ?_, rfl, nn, tup _ _ e2, (upd_ne nn).trans e3, tup _ _ e4, ?_⟩, fun b o e hb => (upd_ne fun z => hb (by rw [z]; exact hf)).trans e, tup⟩
  · exact (upd_ne nkp.symm).trans e1'
  · rw [upd_same]
    show _ = some (HO.lst ((s.rows.set n z).map strV))
    rw [List.map_set]
    rfl
end Sr
namespace Sr
open PySem PySem.Spec PyProof.Rows L2
theorem fl5_change (a b c d e : V) : (fl5 a b c d e).lookup (Str.ofString "change") = none := rfl
theorem fl5_put (a b c d e : V) : (fl5 a b c d e).lookup (Str.ofString "put") = none := rfl
theorem fl5_cut (a b c d e : V) : (fl5 a b c d e).lookup (Str.ofString "cut") = none := rfl
end Sr

namespace Sr
open PySem PySem.Spec PyProof.Rows L2
/-! ### what a text must be to be read -/
def LetG (z : List Nat) : Prop := 2 ≤ z.length ∧ z.length ≤ 6 ∧ (∀ c ∈ z, 97 ≤ c ∧ c ≤ 122) ∧ z.Nodup
def ScG (g l : Int) : Prop := 1 ≤ g ∧ g ≤ 9 ∧ 1 ≤ l ∧ l ≤ 9
def SdsG (sds : List (List Nat)) : Prop := (∀ sd ∈ sds, Sd 8 sd) ∧ 1 ≤ sds.length ∧ sds.length ≤ 3
theorem Lets.g {z : List Nat} (h : Lets z) : LetG z := by
  obtain ⟨z1, z2, z3, z4⟩ := letL_ok h
  exact ⟨z1, z2, z3, z4⟩
end Sr
namespace Sr
open PySem PySem.Spec PyProof.Rows L2
instance (z : List Nat) : Decidable (LetG z) := by unfold LetG; infer_instance
instance (g l : Int) : Decidable (ScG g l) := by unfold ScG; infer_instance
def RowG (z lets : List Nat) : Prop := z.length ≤ 60 ∧ ∀ c ∈ z, c ∈ lets
instance (z lets : List Nat) : Decidable (RowG z lets) := by unfold RowG; infer_instance
def sdB (sd : List Nat) : Bool := decide (1 ≤ sd.length ∧ sd.length ≤ 8) && sd.all (fun c => c == 35 || c == 45) && decide (sd[0]? = some 35) && decide (sd[sd.length - 1]? = some 35)
theorem sdB_iff {sd : List Nat} : sdB sd = true ↔ Sd 8 sd := by
  unfold sdB
  simp only [Bool.and_eq_true, decide_eq_true_eq, List.all_eq_true, Bool.or_eq_true, beq_iff_eq]
  constructor
  · rintro ⟨⟨⟨⟨a, b⟩, c⟩, d⟩, e⟩
    exact ⟨a, b, c, d, e⟩
  · rintro ⟨a, b, c, d, e⟩
    exact ⟨⟨⟨⟨a, b⟩, c⟩, d⟩, e⟩
def sdsB (sds : List (List Nat)) : Bool := sds.all sdB && decide (1 ≤ sds.length ∧ sds.length ≤ 3)
theorem sdsB_iff {sds : List (List Nat)} : sdsB sds = true ↔ SdsG sds := by
  unfold sdsB SdsG
  rw [Bool.and_eq_true, decide_eq_true_eq, List.all_eq_true]
  exact ⟨fun ⟨a, b⟩ => ⟨fun sd h => sdB_iff.mp (a sd h), b⟩, fun ⟨a, b⟩ => ⟨fun sd h => sdB_iff.mpr (a sd h), b⟩⟩
end Sr

namespace LaX
open PySem PySem.Spec PyProof.Rows LamX L2
/-! ### lambdas without parameters that capture, kept as known objects, and called by a def that got one -/
structure LA where
  qual : Str
  params : Arguments
  body : Expr
  scope : Scope
  cl : List (Str × Addr)
  c : Addr
abbrev LA.obj (F : LA) (pm ctv : Value) : Obj := PySem.W.kla_obj "<lambda>" F.qual F.params F.body F.scope F.cl pm F.c ctv
def LaO (f : Addr) (F : LA) : HO := .ext fun h => ∃ (pm ctv : Value), h.get? f = some (F.obj pm ctv)
section
variable {X : Cx} {pins : List (Addr × Obj)} {σ : L2.St} {H : Hp} {s : Shared}
theorem inv_la {F : LA} {t' : Nat} {pm ctv : Value} (I : Inv X pins σ H s) :
    Inv X pins σ (upd H s.heap.objs.size (LaO s.heap.objs.size F)) { s with heap := s.heap.push (F.obj pm ctv), toks := t' } := by
  refine I.laid (a := s.heap.objs.size) (fun b u e => Heap.get?_push_of_some _ e) (Nat.le_refl _) ?_
  have e : (s.heap.push (F.obj pm ctv)).get? s.heap.objs.size = some (F.obj pm ctv) := Heap.get?_push_size _ rfl
  exact ⟨⟨pm, ctv, e⟩, ⟨_, e⟩, fun h1 h2 ⟨p, t, z⟩ st => ⟨p, t, st _ z⟩⟩
end
/-- F is the lambda written so in X -/
structure LaF (X : Cx) (F : LA) (params : Arguments) (body : Expr) (scope : Scope) : Prop where
  e : F = ⟨X.env.qual ++ "<lambda>", params, body, scope, cloFrom X.env.cells scope.names [], F.c⟩
def tLa (X : Cx) (P : Addr) (q : Str) (params : Arguments) (body : Expr) (scope : Scope) : TE := fun _ H Q => TabS H P q ∧
  ∀ (f : Addr) (F : LA) (H1 : Hp), LaF X F params body scope → SmT P q H H1 → H f = none → H1 f = some (LaO f F) → H1 F.c = some (CodeO F.c q) → Q (.ref f) H1
theorem pe_la {X : Cx} {c P : Addr} {params : Arguments} {body : Expr} {scope : Scope} {pos : Pos} (TB : TabB X.base X.mg c P) (hcode : X.env.code = .ref c) (L : LamS X.env.scope scope) (hdef : defaultsOf params X.env = ([], [])) :
    PE X (.Lambda params body scope pos) (tLa X P (X.env.qual ++ "<lambda>") params body scope) := by
  refine ⟨fun pins s σ H Q I h => ?_⟩
  obtain ⟨⟨ps, hP, ht, ha⟩, h⟩ := h
  refine PySem.W.kla_eval hdef ?_
  have bP : s.heap.BuiltinsAt X.mg P := TB.bm.keeps I.bk
  have hP' : s.heap.get? P = some { cls := .none, data := .fields ps } := I.hok P _ hP
  cases hc : codeAmong pos ps.toList with
  | none =>
    refine PySem.W.kla_makeFunction (mg := X.mg) (c := c) (P := P) (ps := ps) (closure_ok (L.has I.ok)) I.ok.glob (I.mod.glob.keeps I.bk) hcode (TB.code.keeps I.bk) hP' ht hc TB.gP bP fun c' ctv h' tk hx hge hlt hrec htb => ?_
    obtain ⟨c2, oc, vs, t, e2, hoc, hd, hv⟩ := hrec
    cases e2
    have nC : H c' = none := I.hok.fresh hge
    have I1 := inv_table (t' := tk) (more := #[rawInt pos.line, rawInt pos.col, .ref c']) (h' := h') I hP (fun b o hb e => hx b o hb e) htb hge ⟨oc, vs, t, hoc, hd, hv⟩
    have hE : ExtN H (upd (upd H P (.tbl (ps ++ #[rawInt pos.line, rawInt pos.col, .ref c']))) c' (CodeO c' (X.env.qual ++ "<lambda>"))) := fun b o e n => by
      rw [upd_ne (ne_of_none e nC), upd_ne (fun z => n ps (Option.some.inj (e.symm.trans (by rw [z]; exact hP))))]
      exact e
    have hE' : ∀ b o, b ≠ P → H b = some o → upd (upd H P (.tbl (ps ++ #[rawInt pos.line, rawInt pos.col, .ref c']))) c' (CodeO c' (X.env.qual ++ "<lambda>")) b = some o := fun b o n e => by
      rw [upd_ne (ne_of_none e nC), upd_ne n]
      exact e
    have eL : (ps ++ #[rawInt pos.line, rawInt pos.col, .ref c']).toList = ps.toList ++ [rawInt pos.line, rawInt pos.col, .ref c'] := by simp
    have T1 : TabS (upd (upd H P (.tbl (ps ++ #[rawInt pos.line, rawInt pos.col, .ref c']))) c' (CodeO c' (X.env.qual ++ "<lambda>"))) P (X.env.qual ++ "<lambda>") := by
      refine ⟨_, by rw [upd_ne (ne_of_none hP nC), upd_same], by rw [eL]; exact PySem.TriplesOk_snoc _ _ _ _ ht, fun p' cv hcv => ?_⟩
      rw [eL] at hcv
      rcases among_app _ ht hcv with z | z
      · obtain ⟨c0, e1, e2⟩ := ha p' cv z
        exact ⟨c0, e1, hE _ _ e2 codeO_ne⟩
      · exact ⟨c', z, upd_same⟩
    have hcc : upd (upd H P (.tbl (ps ++ #[rawInt pos.line, rawInt pos.col, .ref c']))) c' (CodeO c' (X.env.qual ++ "<lambda>")) c' = some (CodeO c' (X.env.qual ++ "<lambda>")) := upd_same
    generalize upd (upd H P (.tbl (ps ++ #[rawInt pos.line, rawInt pos.col, .ref c']))) c' (CodeO c' (X.env.qual ++ "<lambda>")) = H1 at I1 hE hE' T1 hcc
    have nf : H1 h'.objs.size = none := I1.hok.fresh (Nat.le_refl _)
    have sm : ∀ b o, H1 b = some o → upd H1 h'.objs.size (LaO h'.objs.size ⟨X.env.qual ++ "<lambda>", params, body, scope, cloFrom X.env.cells scope.names [], c'⟩) b = some o := fun b o e => by
      rw [upd_ne (ne_of_none e nf)]
      exact e
    have nfH : H h'.objs.size = none := I.hok.fresh (Nat.le_trans hge (Nat.le_of_lt hlt))
    exact ⟨.ref h'.objs.size, _, inv_la (F := ⟨X.env.qual ++ "<lambda>", params, body, scope, cloFrom X.env.cells scope.names [], c'⟩) (t' := tk) I1, rfl, h _ _ _ ⟨rfl⟩ (SmT.trans ⟨fun b o e n => hE b o e n, hE', fun _ => T1⟩ (SmT.of sm)) nfH upd_same (sm _ _ hcc)⟩
  | some cv =>
    obtain ⟨c', e, hco⟩ := ha pos cv hc
    subst e
    refine PySem.W.kla_makeFunctionHit (mg := X.mg) (c := c) (P := P) (ps := ps) (closure_ok (L.has I.ok)) I.ok.glob (I.mod.glob.keeps I.bk) hcode (TB.code.keeps I.bk) hP' ht hc bP fun ctv h' tk hx hsz => ?_
    have I1 : Inv X pins σ H { s with heap := h', toks := tk } := I.kept hx
    have nf : H h'.objs.size = none := I.hok.fresh hsz
    have sm : ∀ b o, H b = some o → upd H h'.objs.size (LaO h'.objs.size ⟨X.env.qual ++ "<lambda>", params, body, scope, cloFrom X.env.cells scope.names [], c'⟩) b = some o := fun b o e => by
      rw [upd_ne (ne_of_none e nf)]
      exact e
    exact ⟨.ref h'.objs.size, _, inv_la (F := ⟨X.env.qual ++ "<lambda>", params, body, scope, cloFrom X.env.cells scope.names [], c'⟩) (t' := tk) I1, rfl, h _ _ _ ⟨rfl⟩ (SmT.of sm) nf upd_same (sm _ _ hco)⟩
/-- what the lambda's body reads as, wherever it is called -/
structure LB (X : Cx) (k : Nat) (F : LA) (t : XK → TE) : Prop where
  ls : LamS X.env.scope F.scope
  bind : ∀ (pm ctv : Value), bindArgs (PySem.W.kla_fn "<lambda>" F.qual F.params F.body F.scope F.cl pm (.ref F.c) ctv) ⟨[], []⟩ = pure []
  run : ∀ (A : Around) (outer : List Env) (s : Shared) (H : Hp) (E : XK) (f : Addr), Room k (A.deeper (lamEnv X F.scope s.heap.objs.size f F.c)) → PE (lamCx X A outer s H E F.scope f F.c) F.body (t E)
theorem pe_actF {X : Cx} {pins : List (Addr × Obj)} {σ : L2.St} {H : Hp} {s : Shared} {CXg : CXT} {Eg : XK} {Ng : List Str} {qg : Str} {sg : Scope} {g : Addr} {cdg : Value} {k i : Nat} {a : Str} {pn : List (Addr × Obj)} {xe : Value → Shared → Prop} {E : L2.St → XK} {p1 p2 : Pos} {F : LA} {t : XK → TE} {f : Addr} {params : Arguments} {body : Expr} {scope : Scope}
    (I : Inv X pins σ H s) (hF : LaF X F params body scope) (L : LB X k F t) (hx : ∀ σ', PassesAt (L2.CX X.prog X.w) ((cxOf CXg X.prog X.w X.K X.mg X.base Ng qg sg g cdg X.A X.stack s H Eg).tr pn xe) σ' (E σ')) (hr : Room (k + 1) (X.A.deeper (envOfC qg sg s.heap.objs.size g cdg)))
    (hN : Ng[i]? = some a) (hv : Vis sg a) (hd : (a == ("__debug__" : Str)) = false := by decide) (hcd : (a == ("__classdict__" : Str)) = false := by decide) :
    PE ((cxOf CXg X.prog X.w X.K X.mg X.base Ng qg sg g cdg X.A X.stack s H Eg).tr pn xe) (.Call (.Name a p1) [] [] p2)
      (fun σZ HZ Q => σZ[i]? = some (some (.ref f)) ∧ HZ f = some (LaO f F) ∧ HZ F.c = some (CodeO F.c F.qual) ∧ t (E σZ) σ HZ Q) := by
  refine ⟨fun pinsZ sZ σZ HZ Q IZ h => ?_⟩
  obtain ⟨hs, hfo, hc, ht⟩ := h
  refine wpAny_Call_Name_kw (thn ((pe_var (pos := p1) (i := i) hN hv hd hcd).run pinsZ sZ σZ HZ (fun v H1 => v = .ref f ∧ H1 = HZ) IZ ⟨.ref f, hs, rfl, rfl⟩) fun u s1 ⟨v, H1, I1, r1, q1⟩ => ?_)
  obtain ⟨ev, eH⟩ := q1
  subst ev
  rw [eH] at I1
  obtain rfl : u = Value.ref f := r1
  obtain ⟨⟨pm, ctv, of1⟩, _, _⟩ := I1.hok f _ hfo
  obtain ⟨⟨oc, vs, tq, hoc, hdc, hvc⟩, _, _⟩ := I1.hok F.c _ hc
  refine PySem.W.callWith_F0 ⟨_, _, _, _, of1⟩ ?_
  have un : Un (frs X.stack) [] H HZ s.heap s1.heap := I1.base
  have rc : codeAny (model X.prog X.w) (X.A.deeper (envOfC qg sg s.heap.objs.size g cdg)) (.call (.ref f) ⟨[], []⟩) (CR (L2.CX X.prog X.w) (envOfC qg sg s.heap.objs.size g cdg :: X.stack) X.prog X.w HZ s1 Q (E σZ)) s1 := by
    refine PySem.W.kla_callFunE hr.depth of1 rfl L.ls.co L.ls.gen rfl ⟨F.c, oc, vs, tq, rfl, hoc, hdc, hvc⟩ ?_
    rw [L.bind]
    refine wpAny_pure (wpAny_newFunctionEnv (fun y hy => (L.ls.own y hy).2) (fun y hy => absurd hy (by simp)) (fun h₁ hns hsb => ⟨I1.nolimit.fresh _ hsb, ?_⟩) L.ls.kind)
    have kp : ∀ b o, s1.heap.get? b = some o → h₁.get? b = some o := fun b o e => hsb.extBut b o (Nat.ne_of_lt (Heap.lt_size e)) (Heap.get?_push_of_some _ e)
    have J : Inv (lamCx X (X.A.deeper (envOfC qg sg s.heap.objs.size g cdg)) (envOfC qg sg s.heap.objs.size g cdg :: X.stack) s1 HZ (E σZ) F.scope f F.c) [] σ HZ { s1 with heap := h₁, toks := s1.toks + ([] : List (Str × Value)).length } :=
      lam_start2 I L.ls I1.env0 hr.hd un hns kp
    have ee : PySem.W.envX F.qual F.scope s1.heap.objs.size f (.ref F.c) F.cl = lamEnv X F.scope s1.heap.objs.size f F.c := by
      have e1 : F.qual = X.env.qual ++ "<lambda>" := by rw [hF.e]
      have e2 : F.cl = cloFrom X.env.cells F.scope.names [] := by rw [hF.e]
      rw [e1, e2]
    show codeAny _ _ (.expr F.body (PySem.W.envX F.qual F.scope s1.heap.objs.size f (.ref F.c) F.cl)) _ _
    rw [ee]
    refine PySem.W.kla_codeExpr (wpAny_mono ((L.run _ _ s1 HZ (E σZ) f (hr.deeper _)).run [] _ _ HZ Q J ht) (fun v s' hq => ?_) fun e s' hq => hq)
    obtain ⟨w', H', J', rv, q⟩ := hq
    exact ⟨w', H', J'.os, J'.bare, J'.base, J'.hok, rv, q⟩
  refine wpAny_call (codeAny_mono rc fun r s' hq => ?_)
  cases r with
  | error e => exact hx σZ pinsZ HZ s1 e s' I1 hq
  | ok fl =>
    cases fl with
    | ret u => exact I1.after hq
    | next => exact False.elim hq
    | brk => exact False.elim hq
    | cont => exact False.elim hq
end LaX

namespace LaX
open PySem PySem.Spec PyProof.Rows LamX L2
/-- a def whose only parameter a is called in it: TT tells what it makes of that one's reading -/
def Gives (P : Program) (w : World) (K : PySem.W.Frag) (mg : Str → Option Value) (base : Heap) (A : Around) (outer : List Env) (Ng : List Str) (qg : Str) (sg : Scope) (g : Addr) (cdg : Value) (bg : List Stmt) (a : Str) (TT : (XK → Hp → VK → Prop) → Hp → VK → Prop) : Prop :=
  ∀ (f : Addr) (s : Shared) (H : Hp) (Q : VK) (tl : XK → Hp → VK → Prop),
    (∀ (W : WX) (pn : List (Addr × Obj)) (xe : Value → Shared → Prop) (p1 p2 : Pos), Takes ((cxOf CX0 P w K mg base Ng qg sg g cdg A outer s H E0).tr pn xe) W →
      PE ((cxOf CX0 P w K mg base Ng qg sg g cdg A outer s H E0).tr pn xe) (.Call (.Name a p1) [] [] p2) (fun σZ HZ Q => σZ[0]? = some (some (.ref f)) ∧ tl (WE W σZ) HZ Q)) →
    TT tl H Q → ∃ t, PSs (cxOf CX0 P w K mg base Ng qg sg g cdg A outer s H E0).nox bg t ∧ t { nx := fun _ H' => Q .non H', rt := Q } (L2.start Ng [.ref f]) H
def tKd (X : Cx) (k iw : Nat) (TT : (XK → Hp → VK → Prop) → Hp → VK → Prop) (σX : L2.St) : TE := fun σb Hb Q =>
  ∃ (f : Addr) (F : LA) (params : Arguments) (body : Expr) (scope : Scope) (t : XK → TE), σb[iw]? = some (some (.ref f)) ∧ Hb f = some (LaO f F) ∧ Hb F.c = some (CodeO F.c F.qual) ∧ LaF X F params body scope ∧ LB X k F t ∧
    TT (fun E H' Q' => H' f = some (LaO f F) ∧ H' F.c = some (CodeO F.c F.qual) ∧ t E σX H' Q') Hb Q
section
variable {X : Cx}
theorem pe_kind {pins : List (Addr × Obj)} {σ : L2.St} {H : Hp} {s : Shared} {scope : Scope} {ce : Env} {fp : List Addr} {x y a : Str} {g : Addr} {k iw : Nat} {pg : Arguments} {bg : List Stmt} {sg : Scope} {dV kV doc pm cdv ct oc : Value} {an od : Option Addr} {osl : Array (Option Value)} {Ng : List Str} {TT : (XK → Hp → VK → Prop) → Hp → VK → Prop} {p p2 pos : Pos}
    (I : Inv X pins σ H s) (hfp : ∀ b ∈ fp, FpOk X pins H b) (hr : Room (k + 2) X.A) (hg : Gl (X.blk s H scope ce fp) x) (hm : X.mg x = some (.ref g)) (hk : PySem.W.keepIn X.K (.ref g) = true)
    (lk : X.K.lookup g = some ⟨oc, od, .func (PySem.W.fnOf x x pg bg sg dV kV doc pm an cdv ct), osl⟩) (hcg : PySem.W.codeIn X.K cdv x = true) (hb : L2.Binds X.K (PySem.W.fnOf x x pg bg sg dV kV doc pm an cdv ct) [a] []) (Sg : FnScope Ng [a] sg) (hNg : Ng[0]? = some a) (hva : Vis sg a)
    (hG : Gives X.prog X.w X.K X.mg X.base X.A X.stack Ng x sg g cdv bg a TT) (hN : X.N[iw]? = some y) (hv : Vis ce.scope y)
    (hdb : (x == ("__debug__" : Str)) = false := by decide) (hd : (a == ("__debug__" : Str)) = false := by decide) (hcd : (a == ("__classdict__" : Str)) = false := by decide) (hdy : (y == ("__debug__" : Str)) = false := by decide) (hcy : (y == ("__classdict__" : Str)) = false := by decide) :
    PE (X.blk s H scope ce fp) (.Call (.Name x p) [.Name y p2] [] pos) (tKd X k iw TT σ) := by
  refine ⟨fun pins' s' σ' H' Q I' h => ?_⟩
  obtain ⟨f, F, params, body, scp, t, hs, hfo, hcc, hF, L, h⟩ := h
  refine wpAny_Call_Name_kw (ld_glob I' hg hm ?_ hdb)
  refine PySem.W.callWith_K (h₀ := X.base) I'.ok.mod.kin hk ?_ (by rfl) (by rfl)
  show wpAny _ _ (spliced ((false, eval (.Name y p2) ce) :: backTo pos (starEach [] ce))) _ _ s'
  refine Calls.spliced_cons (thn ((pe_var (X := X.blk s H scope ce fp) (pos := p2) (i := iw) hN hv hdy hcy).run pins' s' σ' H' (fun v H1 => v = .ref f ∧ H1 = H') I' ⟨.ref f, hs, rfl, rfl⟩) fun u s1 ⟨v, H1, I1, r1, q1⟩ => ?_)
  obtain ⟨ev, eH⟩ := q1
  subst ev
  rw [eH] at I1
  obtain rfl : u = Value.ref f := r1
  refine Calls.spliced_nil ⟨I1.kIn, ?_⟩
  have IX : Inv X pins σ H' s1 := I.call' (ch := fp) I1.os I1.base I1.hok I1.bare fun b hb => ⟨(hfp b hb).2.2.2.1, (hfp b hb).2.1, (hfp b hb).2.2.2.2.1, (hfp b hb).2.2.2.2.2⟩
  have rc : codeAny (model X.prog X.w) X.A (.call (.ref g) ⟨[.ref f], []⟩) (CR CX0 X.stack X.prog X.w H' s1 Q E0) s1 := by
    refine run_ofS (N := Ng) (ps := [a]) (us := [.ref f]) (vs := [.ref f]) lk hcg Sg hr IX.env0 (hb s1 [.ref f] I1.kIn rfl) (.cons rfl .nil) rfl fun hr' => ?_
    obtain ⟨t', ht', hq'⟩ := hG f s1 H' Q (fun E H' Q' => H' f = some (LaO f F) ∧ H' F.c = some (CodeO F.c F.qual) ∧ t E σ H' Q') (fun W pn xe p1 p2 tk => pe_actF (i := 0) IX hF L (passAt tk) hr' hNg hva hd hcd) h
    exact ⟨t', ht'.nox, hq'⟩
  refine wpAny_call (codeAny_mono rc fun r s2 hq => ?_)
  cases r with
  | error e => exact (show False from hq).elim
  | ok fl =>
    cases fl with
    | ret u => exact I1.after hq
    | next => exact False.elim hq
    | brk => exact False.elim hq
    | cont => exact False.elim hq
def tNo : TE := fun _ _ _ => False
/-- [x for x in xs if c] where c is never true; the test may look into the def's own names -/
theorem pe_no {elt tg iter : Expr} {ifs : List Expr} {scope : Scope} {own : List (Str × Nat)} {pos : Pos} {wi : TI} {g : TG} {tt : L2.St → TT} (hc : X.calm = true) (hN : X.N.Nodup) (hi : PI X tg iter wi) (ok : BlkOk X.N X.env.scope scope own)
    (hg : ∀ (s : Shared) (H : Hp) (C : Addr) (cl : List (Str × Addr)) (fp : List Addr), PG (X.blk s H scope (compEnvC scope cl C X.env) fp) tg g)
    (ht : ∀ (pins : List (Addr × Obj)) (σ : L2.St) (s : Shared) (H : Hp) (C : Addr) (cl : List (Str × Addr)) (fp : List Addr), Inv X pins σ H s → (∀ b ∈ fp, FpOk X pins H b) → PTs (X.blk s H scope (compEnvC scope cl C X.env) fp) ifs (tt σ))
    (hs : ∀ x, foldedSetIterable iter X.env x = pure x := by intro _; rfl) :
    PE X (.ListComp elt [⟨tg, iter, ifs, 0⟩] scope pos) (fun σ => tLc wi g (tt σ) tNo (own.map (·.2)) σ) := by
  refine ⟨fun pins s σ H Q I h => ?_⟩
  rw [eval_ListComp]
  have frees : ∀ y ∈ scope.names, y.2 = .free → ∃ c, X.env.cells.lookup y.1 = some c := fun y hy e => by
    rcases ok.free y hy e with k | k
    · exact I.ok.has _ (.inl k)
    · exact I.ok.has _ (.inr k)
  refine wpAny_comprehension_free (use := none) rfl hs (closure_ok frees) ok.kind (fun y hy e => by rw [ok.uniq y hy, e]) ?_
  refine thn (hi.run pins s σ H _ I h) fun v1 a1 w1 => ?_
  refine thn w1 fun v2 a2 w2 => ?_
  obtain ⟨it, fp, tn, J, H2, ev, I2, T, tnA, f2, q⟩ := w2
  subst ev
  refine wpAny_newObj_type (newEnv_comp ?_) (show 0 ≤ sizeLine by decide)
  generalize hD : a2.heap.objs.size = D
  have freeD : H2 D = none := I2.hok.fresh (Nat.le_of_eq hD)
  obtain ⟨W, ⟨m0, W0⟩, turns⟩ := q D freeD
  generalize ha3 : ({ a2 with heap := a2.heap.push { cls := .type "list", data := .seq ([] : List Value).toArray } } : Shared) = a3
  have JA : Inv X pins σ (upd H2 D (.lst [])) a3 := by
    rw [← ha3]
    refine I2.laid (t' := a2.toks) (fun b o e => Heap.get?_push_of_some _ e) (Nat.le_of_eq hD) ⟨Nat.zero_le _, [], 0, .nil, ?_⟩
    rw [← hD]
    exact Heap.get?_push_size _ rfl
  have h3 : a3.heap = a2.heap.push { cls := .type "list", data := .seq ([] : List Value).toArray } := by rw [← ha3]
  have small : ∀ b ∈ fp, b < a2.heap.objs.size := fun b hb => by
    obtain ⟨o, e, _⟩ := T.obj _ _ tnA b hb
    exact Heap.lt_size e
  have fz : ∀ b ∈ fp, FpOk X pins (upd H2 D (.lst [])) b ∧ b < a3.heap.objs.size := fun b hb => by
    have hlt := small b hb
    have nbD : b ≠ D := by rw [← hD]; exact Nat.ne_of_lt hlt
    exact ⟨⟨(upd_ne nbD).trans (f2 b hb).1, (f2 b hb).2⟩, by rw [h3, Heap.size_push]; exact Nat.lt_succ_of_lt hlt⟩
  have tnB : tn 0 a3.heap := T.keep _ _ _ tnA fun b _ o e => by rw [h3]; exact Heap.get?_push_of_some _ e
  have JB := block_start JA ok hN fz
  have pg := hg a3 (upd H2 D (.lst [])) a3.heap.objs.size (cellsFrom (a3.heap.objs.size + 1) scope.names (cloFrom X.env.cells scope.names [])) fp
  have pt := ht pins σ a3 (upd H2 D (.lst [])) a3.heap.objs.size (cellsFrom (a3.heap.objs.size + 1) scope.names (cloFrom X.env.cells scope.names [])) fp JA fun b hb => (fz b hb).1
  have offF : ∀ b ∈ fp, (upd H2 D (.lst [])) b = none := fun b hb => (fz b hb).1.1
  show codeAny _ _ (.compStart (.ListComp elt [⟨tg, iter, ifs, 0⟩] scope pos) 0 (.ref it) (.ref D) (compEnvC scope (cellsFrom (a3.heap.objs.size + 1) scope.names (cloFrom X.env.cells scope.names [])) a3.heap.objs.size X.env))
    (compPost (model X.prog X.w) X.A X.xe none _ (.ref D) a3.heap.objs.size) { a3 with heap := pushCells (a3.heap.push { cls := .type "dict", data := .dict #[] }) scope.names }
  generalize hce : compEnvC scope (cellsFrom (a3.heap.objs.size + 1) scope.names (cloFrom X.env.cells scope.names [])) a3.heap.objs.size X.env = ce at JB pg pt ⊢
  have cL : ce.locals = a3.heap.objs.size := by subst hce; rfl
  generalize hH3 : upd H2 D (.lst []) = H3 at JA JB pg pt W0 offF fz
  generalize ha4 : ({ a3 with heap := pushCells (a3.heap.push { cls := .type "dict", data := .dict #[] }) scope.names } : Shared) = a4 at JB ⊢
  have tnC : tn 0 a4.heap := T.keep _ _ _ tnB fun b _ o e => by rw [← ha4]; exact pushCells_keeps _ _ _ _ (Heap.get?_push_of_some _ e)
  have atF : ∀ {σ' : L2.St} {H' : Hp} {s' : Shared}, Inv (X.blk a3 H3 scope ce fp) [] σ' H' s' → (∀ b ∈ fp, H' b = none) → ∀ b ∈ fp, FpOk (X.blk a3 H3 scope ce fp) [] H' b := fun {σ' H' s'} I' hn b hb =>
    ⟨hn b hb, (I'.ok.exf b hb).1, I'.ok.exfs b hb, .inl hb, fun x c e => (I'.ok.exf b hb).2 x c e, fun p hp => absurd (show p ∈ ([] : List (Addr × Obj)) ++ [] from hp) (by simp)⟩
  refine codeAny_compStart_list ?_ (T.self X.A 0 _ _ _ tnC ?_)
  all_goals
    refine compLoop_any (fun n s' => ∃ i H', Inv (X.blk a3 H3 scope ce fp) [] (wipe σ (own.map (·.2))) H' s' ∧ tn i s'.heap ∧ (∀ b ∈ fp, H' b = none) ∧ W i n H') ?_ m0 ⟨0, H3, JB, tnC, offF, W0⟩
    rintro n a5 ⟨i, H5, JE, tnE, n5, w5⟩
    rcases turns i n H5 w5 with ⟨stop, qq⟩ | ⟨go, Nx, toN, step⟩
    · refine thnF (T.done (X.blk a3 H3 scope ce fp) rfl rfl rfl hc i [] a5 _ H5 (fun _ _ => False) JE (atF JE n5) tnE stop) fun r a6 ⟨hr, I6⟩ => ?_
      subst hr
      have JG : Inv X pins σ H5 a6 := JA.call' (ch := fp) I6.os I6.base I6.hok I6.bare fun b hb => ⟨(fz b hb).1.2.2.2.1, (fz b hb).1.2.1, (fz b hb).1.2.2.2.2.1, (fz b hb).1.2.2.2.2.2⟩
      have nC : H5 a3.heap.objs.size = none := by rw [← cL]; exact I6.free
      obtain ⟨m, hn, _⟩ := I6.loc
      have hn : a6.heap.Ns ce.locals m := hn
      rw [cL] at hn
      refine ⟨m, hn, fun g1 sb => ?_⟩
      obtain ⟨e0, e1, e2, e3, e4, e5⟩ := (show FpOk X pins H5 a3.heap.objs.size from JA.fpOk (Nat.le_refl _) nC)
      exact ⟨.ref D, H5, JG.turned (t' := a6.toks) (fun b o hb e => (sb.2 b hb).trans e) e0 e1 e3 e4 e5, rfl, qq⟩
    · refine thnF (T.item (X.blk a3 H3 scope ce fp) rfl rfl rfl hc i [] a5 _ H5 (fun _ _ => False) JE (atF JE n5) tnE go) fun r a6 ⟨u, hr, w6⟩ => ?_
      subst hr
      refine thnF w6 fun _ a7 ⟨x, H7, JG, r7, y7, tnG, n7⟩ => ?_
      have JG' := JG.pinned (atF JG n7) (T.obj _ _ tnG)
      refine thnF (pg.run _ a7 _ H7 x u _ JG' r7 (step x H7 y7)) fun _ a8 ⟨σ8, H8, I8, hw8, q8⟩ => ?_
      refine thnF (pt.run _ a8 σ8 H8 _ I8 q8) fun b a9 ⟨H9, I9, q9⟩ => ?_
      cases b with
      | true => exact (show False from q9).elim
      | false =>
        obtain ⟨m', hm, w'⟩ := toN H9 q9
        have held : ∀ b ∈ fp, ∀ o, a7.heap.get? b = some o → a9.heap.get? b = some o ∧ H9 b = none := fun b hb o e => by
          have z := I9.pin (b, o) (List.mem_append_right _ (List.mem_append_right _ (mem_pinsAt hb e)))
          exact ⟨z.1, z.2.1⟩
        have hl : (wipe σ (own.map (·.2))).length = σ8.length := by rw [← hw8, wipe_length]
        refine ⟨m', hm, i + 1, H9, (I9.unpinned (pins := [])).weak hl (fun j v e => ?_), T.keep _ _ _ tnG fun b hb o e => (held b hb o e).1, fun b hb => ?_, w'⟩
        · rw [← hw8] at e
          exact (wipe_some e).1
        · obtain ⟨o, e, _⟩ := T.obj _ _ tnG b hb
          exact (held b hb o e).2
end
end LaX

namespace LaX
open PySem PySem.Spec PyProof.Rows LamX L2
structure KindOk (P : Program) (w : World) (K : PySem.W.Frag) (mg : Str → Option Value) (base : Heap) (x : Str) (Ng : List Str) (a : Str) (st : Stmt) (TT : (XK → Hp → VK → Prop) → Hp → VK → Prop) (f : Addr) (fd : FuncData) : Prop where
  ex : ∃ (oc : Value) (od : Option Addr) (dV kV doc pm : Value) (an : Option Addr) (cdv ct : Value) (osl : Array (Option Value)),
    fd = PySem.W.fnOf x x (defArgs st) (defBody st) (defScope st) dV kV doc pm an cdv ct ∧ K.lookup f = some ⟨oc, od, .func fd, osl⟩ ∧ PySem.W.codeIn K cdv x = true ∧
    ∀ (A : Around) (outer : List Env), Gives P w K mg base A outer Ng x (defScope st) f cdv (defBody st) a TT
structure DnK (P : Program) (w : World) (K : PySem.W.Frag) (mg : Str → Option Value) (base : Heap) (x : Str) (Ng : List Str) (a : Str) (st : Stmt) (TT : (XK → Hp → VK → Prop) → Hp → VK → Prop) (f : Addr) (fd : FuncData) : Prop where
  ok : KindOk P w K mg base x Ng a st TT f fd
  g : mg x = some (.ref f)
  kp : PySem.W.keepIn K (.ref f) = true
  b : Binds K fd [a] []
/-! ### the law's end where several defs' tables are empty -/
theorem walk_ofTabs {l : PySem.W.OpenLaw} {n k : Nat} {q : Program} {loose : List Str} {XP : (Str → Option Value) → Heap → Prop} {YP : World → Heap → Prop} {d : DefRec} {K : Params → PySem.W.Frag} {CX : World → CXT} {x : Str} (ys : List Str)
    (hn : l.most = some n) (hn2 : n ≤ sizeLine) (hdf : d.params.defaults = []) (hr : Room k callerA) (hrec : ∀ y ∈ ys, ((recsOf q).any fun e => e.name == y) = true) (hY : ∀ (w : World) (h : Heap), YP w h → (K w.params).In h)
    (F : ∀ (w : World) (mg : Str → Option Value) (fa : Addr) (h : Heap), YP w h → (K w.params).In h → h.Ns mainGlobals mg → mg d.name = some (.ref fa) → (∀ y ∈ ys, TabF (K w.params) mg h y) → LawAtS l w (K w.params) (CX w) k n x mg fa h)
    (hCX : ∀ (w : World) (H : Hp) (s : Shared) (e : Value) (s' : Shared), CX w [] H s (fun _ _ _ => False) e s' → False) :
    PySem.W.WalkO q loose XP YP l.row.toRowW d [] (fun f vs => PySem.call f vs) := by
  refine Att.attach_callB hn hdf fun w s₀ s₁ mg mb fa o pm cd doc a vs ns G Y ho hd hcd hmg hobj hints hlen hbits hg => ?_
  have KX := hY w _ Y
  have own : ∀ y ∈ ys, TabF (K w.params) mg s₁.heap y := fun y hy a1 c P o1 fd1 e dd vs1 sl k0 k1 k2 k3 k4 k5 => by
    obtain ⟨dL, hm, hn1⟩ := List.any_eq_true.mp (hrec y hy)
    have hn2 : dL.name = y := beq_iff_eq.mp hn1
    obtain ⟨a', o', fd', c', P', h1, h2, h3, h4, h5, h6⟩ := G.T.tab dL hm
    rw [hn2, k0] at h1
    cases h1
    have g1 := KX _ _ k1
    rw [g1] at h2
    cases h2
    rw [k2] at h3
    cases h3
    rw [k3] at h4
    cases h4
    obtain ⟨⟨oc, vc, e1, _, e3, e4⟩, hP⟩ := h6
    have g2 := KX _ _ k4
    rw [g2] at e1
    cases e1
    cases e3
    rw [k5] at e4
    cases e4
    exact hP
  obtain ⟨fd, cs, sp, hT, nT, C, hb, hsp, hF⟩ := F w mg fa _ Y KX G.T.g hmg own
  exact law_callTs KX G.T.g G.T.b G.T.builtins G.T.nolimit hg hT nT C G.T.bmain hobj hints (Nat.le_trans hlen hn2) hr hF hb (fun H hH hS => hsp H a ns hlen hbits hH hS) fun H e s' => hCX w H s₁ e s'
/-- a second table and its codes stay where the first one's may grow -/
theorem tab_over {P P2 : Addr} {q q2 : Str} {H H' : Hp} (n : P2 ≠ P) (sm : SmT P q H H') (t : TabS H P2 q2) : TabS H' P2 q2 := by
  obtain ⟨ps, a, b, c⟩ := t
  refine ⟨ps, sm.k' _ _ n a, b, fun pos cv hc => ?_⟩
  obtain ⟨c0, e1, e2⟩ := c pos cv hc
  exact ⟨c0, e1, sm.k _ _ e2 codeO_ne⟩
theorem SmT.la {P : Addr} {q : Str} {H H' : Hp} (sm : SmT P q H H') {f : Addr} {F : LA} (h : H f = some (LaO f F)) : H' f = some (LaO f F) := sm.k _ _ h fun _ z => by
  unfold LaO at z
  cases z
theorem SmT.co {P : Addr} {q : Str} {H H' : Hp} (sm : SmT P q H H') {c : Addr} {q2 : Str} (h : H c = some (CodeO c q2)) : H' c = some (CodeO c q2) := sm.k _ _ h codeO_ne
end LaX

namespace Sr
open PySem PySem.Spec PyProof.Rows L2 
/-! ### the text -/
def topS (i : Nat) : Stmt := PySem.Challenge.pw_seedreach_k06_what_is_refused.main.body.getD i (.Pass ⟨0, 0, 0, 0⟩)
abbrev sneed_letters : Stmt := topS 16
abbrev nneed_letters : List Str := ["letters", "sign"]
theorem scneed_letters : FnScope nneed_letters ["letters"] (defScope sneed_letters) := ⟨rfl, rfl, rfl, by decide +kernel, rfl, by decide +kernel, by decide +kernel⟩
abbrev sneed_row : Stmt := topS 17
abbrev nneed_row : List Str := ["row", "letters", "sign"]
theorem scneed_row : FnScope nneed_row ["row", "letters"] (defScope sneed_row) := ⟨rfl, rfl, rfl, by decide +kernel, rfl, by decide +kernel, by decide +kernel⟩
abbrev sneed_scale : Stmt := topS 18
abbrev nneed_scale : List Str := ["scale", "gain", "loss", "weight"]
theorem scneed_scale : FnScope nneed_scale ["scale"] (defScope sneed_scale) := ⟨rfl, rfl, rfl, by decide +kernel, rfl, by decide +kernel, by decide +kernel⟩
abbrev sworth_of : Stmt := topS 24
abbrev nworth_of : List Str := ["likes", "scale", "gain", "loss"]
theorem scworth_of : FnScope nworth_of ["likes", "scale"] (defScope sworth_of) := ⟨rfl, rfl, rfl, by decide +kernel, rfl, by decide +kernel, by decide +kernel⟩
abbrev s_need_seed : Stmt := topS 40
abbrev n_need_seed : List Str := ["seed", "sign"]
theorem sc_need_seed : FnScope n_need_seed ["seed"] (defScope s_need_seed) := ⟨rfl, rfl, rfl, by decide +kernel, rfl, by decide +kernel, by decide +kernel⟩
abbrev sneed_seeds : Stmt := topS 39
abbrev nneed_seeds : List Str := ["seeds", "seed"]
theorem scneed_seeds : FnScope nneed_seeds ["seeds"] (defScope sneed_seeds) := ⟨rfl, rfl, rfl, by decide +kernel, rfl, by decide +kernel, by decide +kernel⟩
abbrev sunlike_under : Stmt := topS 41
abbrev nunlike_under : List Str := ["seed", "likes", "place", "at", "sign"]
theorem scunlike_under : FnScope nunlike_under ["seed", "likes", "place"] (defScope sunlike_under) := ⟨rfl, rfl, rfl, by decide +kernel, rfl, by decide +kernel, by decide +kernel⟩
abbrev sfits : Stmt := topS 42
abbrev nfits : List Str := ["seed", "likes", "place"]
theorem scfits : FnScope nfits ["seed", "likes", "place"] (defScope sfits) := ⟨rfl, rfl, rfl, by decide +kernel, rfl, by decide +kernel, by decide +kernel⟩
abbrev s_tail : Stmt := topS 48
abbrev n_tail : List Str := ["likes", "keep"]
theorem sc_tail : FnScope n_tail ["likes", "keep"] (defScope s_tail) := ⟨rfl, rfl, rfl, by decide +kernel, rfl, by decide +kernel, by decide +kernel⟩
abbrev s_steps_from : Stmt := topS 47
abbrev n_steps_from : List Str := ["tail", "seeds", "keep", "steps", "pair", "likes", "seed"]
theorem sc_steps_from : FnScope n_steps_from ["tail", "seeds"] (defScope s_steps_from) := ⟨rfl, rfl, rfl, by decide +kernel, rfl, by decide +kernel, by decide +kernel⟩
abbrev s_steps : Stmt := topS 46
abbrev n_steps : List Str := ["seeds", "steps", "waiting", "tail"]
theorem sc_steps : FnScope n_steps ["seeds"] (defScope s_steps) := ⟨rfl, rfl, rfl, by decide +kernel, rfl, by decide +kernel, by decide +kernel⟩
abbrev s_ring : Stmt := topS 50
abbrev n_ring : List Str := ["steps", "tail", "likes", "seen", "place", "pair"]
theorem sc_ring : FnScope n_ring ["steps", "tail", "likes"] (defScope s_ring) := ⟨rfl, rfl, rfl, by decide +kernel, rfl, by decide +kernel, by decide +kernel⟩
abbrev s_best_behind : Stmt := topS 49
abbrev n_best_behind : List Str := ["steps", "best", "weights", "choices", "pair", "worth", "likes"]
theorem sc_best_behind : FnScope n_best_behind ["steps", "best", "weights"] (defScope s_best_behind) := ⟨rfl, rfl, rfl, by decide +kernel, rfl, by decide +kernel, by decide +kernel⟩
abbrev sbar : Stmt := topS 44
abbrev nbar : List Str := ["seeds", "scale", "steps", "weights", "best", "longer", "bettered", "worth", "likes", "ring", "pair", "tail"]
theorem scbar : FnScope nbar ["seeds", "scale"] (defScope sbar) := ⟨rfl, rfl, rfl, by decide +kernel, rfl, by decide +kernel, by decide +kernel⟩
abbrev sShelf___init__ : Stmt := inClass (topS 52) 0
abbrev nShelf___init__ : List Str := ["self", "letters", "scale", "seeds"]
theorem scShelf___init__ : FnScope nShelf___init__ ["self", "letters", "scale", "seeds"] (defScope sShelf___init__) := ⟨rfl, rfl, rfl, by decide +kernel, rfl, by decide +kernel, by decide +kernel⟩
abbrev sShelf_lay : Stmt := inClass (topS 52) 1
abbrev nShelf_lay : List Str := ["self", "row"]
theorem scShelf_lay : FnScope nShelf_lay ["self", "row"] (defScope sShelf_lay) := ⟨rfl, rfl, rfl, by decide +kernel, rfl, by decide +kernel, by decide +kernel⟩
abbrev sShelf_rows : Stmt := inClass (topS 52) 2
abbrev nShelf_rows : List Str := ["self"]
theorem scShelf_rows : FnScope nShelf_rows ["self"] (defScope sShelf_rows) := ⟨rfl, rfl, rfl, by decide +kernel, rfl, by decide +kernel, by decide +kernel⟩
abbrev sShelf_find : Stmt := inClass (topS 52) 4
abbrev nShelf_find : List Str := ["self", "row", "told", "found", "number", "shift", "begin", "end", "worth"]
theorem scShelf_find : FnScope nShelf_find ["self", "row", "told"] (defScope sShelf_find) := ⟨rfl, rfl, rfl, by decide +kernel, rfl, by decide +kernel, by decide +kernel⟩
abbrev slane : Stmt := topS 59
abbrev nlane : List Str := ["one", "other", "shift", "seeds", "scale", "told", "rows", "likes", "begin", "end", "_", "places"]
theorem sclane : FnScope nlane ["one", "other", "shift", "seeds", "scale", "told"] (defScope slane) := ⟨rfl, rfl, rfl, by decide +kernel, rfl, by decide +kernel, by decide +kernel⟩
abbrev sshows : Stmt := topS 62
abbrev nshows : List Str := ["one", "other", "shift", "seeds", "scale", "told", "paper", "own_form", "own", "form", "claim"]
theorem scshows : FnScope nshows ["one", "other", "shift", "seeds", "scale", "told", "paper"] (defScope sshows) := ⟨rfl, rfl, rfl, by decide +kernel, rfl, by decide +kernel, by decide +kernel⟩
abbrev s_law_next : Stmt := topS 65
abbrev n_law_next : List Str := ["_law_h", "_law_many", "_law_at", "_law_cell"]
theorem sc_law_next : FnScope n_law_next ["_law_h", "_law_many"] (defScope s_law_next) := ⟨rfl, rfl, rfl, by decide +kernel, rfl, by decide +kernel, by decide +kernel⟩
abbrev s_law_letters : Stmt := topS 66
abbrev n_law_letters : List Str := ["_law_h", "_law_turn", "_law_k"]
theorem sc_law_letters : FnScope n_law_letters ["_law_h"] (defScope s_law_letters) := ⟨rfl, rfl, rfl, by decide +kernel, rfl, by decide +kernel, by decide +kernel⟩
abbrev s_law_row : Stmt := topS 67
abbrev n_law_row : List Str := ["_law_h", "_law_letters_here", "_law_most", "_law_k"]
theorem sc_law_row : FnScope n_law_row ["_law_h", "_law_letters_here", "_law_most"] (defScope s_law_row) := ⟨rfl, rfl, rfl, by decide +kernel, rfl, by decide +kernel, by decide +kernel⟩
abbrev s_law_scale : Stmt := topS 68
abbrev n_law_scale : List Str := ["_law_h"]
theorem sc_law_scale : FnScope n_law_scale ["_law_h"] (defScope s_law_scale) := ⟨rfl, rfl, rfl, by decide +kernel, rfl, by decide +kernel, by decide +kernel⟩
abbrev s_law_seed : Stmt := topS 69
abbrev n_law_seed : List Str := ["_law_h", "_law_most", "_law_size", "_law_k"]
theorem sc_law_seed : FnScope n_law_seed ["_law_h", "_law_most"] (defScope s_law_seed) := ⟨rfl, rfl, rfl, by decide +kernel, rfl, by decide +kernel, by decide +kernel⟩
abbrev s_law_seeds : Stmt := topS 70
abbrev n_law_seeds : List Str := ["_law_h", "_law_most", "_law_k"]
theorem sc_law_seeds : FnScope n_law_seeds ["_law_h", "_law_most"] (defScope s_law_seeds) := ⟨rfl, rfl, rfl, by decide +kernel, rfl, by decide +kernel, by decide +kernel⟩
abbrev s_law_kind : Stmt := topS 71
abbrev n_law_kind : List Str := ["_law_work", "e", "_law_kinds", "_law_others"]
theorem sc_law_kind : FnScope n_law_kind ["_law_work"] (defScope s_law_kind) := ⟨rfl, rfl, rfl, by decide +kernel, rfl, by decide +kernel, by decide +kernel⟩
abbrev s_law_bad : Stmt := topS 72
abbrev n_law_bad : List Str := ["_law_h", "_law_letters_here", "_law_row_here", "_law_seeds_here", "_law_odd", "_law_at", "_law_rows", "_law_bad_here", "_law_scales", "_law_odd_one", "_law_spot", "_law_seed_here", "_law_some", "_law_wrong", "_law_sign", "_law_k"]
theorem sc_law_bad : FnScope n_law_bad ["_law_h", "_law_letters_here", "_law_row_here", "_law_seeds_here"] (defScope s_law_bad) := ⟨rfl, rfl, rfl, by decide +kernel, rfl, by decide +kernel, by decide +kernel⟩
abbrev slaw : Stmt := topS 73
abbrev nlaw : List Str := ["_law_script", "_law_h", "_law_letters_here", "_law_row_here", "_law_scale_here", "_law_seeds_here", "_law_kept", "_law_bad_here", "_law_one", "_law_two", "_law_wrong", "_law_good", "_law_works", "_law_work"]
theorem sclaw : FnScope nlaw ["_law_script"] (defScope slaw) := ⟨rfl, rfl, rfl, by decide +kernel, rfl, by decide +kernel, by decide +kernel⟩
structure Dn (P : Program) (w : World) (K : PySem.W.Frag) (mg : Str → Option Value) (base : Heap) (x : Str) (k : Nat) (ps : List Str) (sp : Sp) (f : Addr) (fd : FuncData) : Prop where
  ok : FnOk P w K mg base CX0 k f fd ps sp
  g : mg x = some (.ref f)
  kp : PySem.W.keepIn K (.ref f) = true
  b : Binds K fd ps []
structure Dm (P : Program) (w : World) (K : PySem.W.Frag) (mg : Str → Option Value) (base : Heap) (C : Addr) (x : Str) (k : Nat) (ps : List Str) (sp : Sp) (f : Addr) (fd : FuncData) : Prop where
  ok : FnOk P w K mg base CX0 k f fd ps sp
  mt : Meth K C x f
  b : Binds K fd ps []
structure DnX (P : Program) (w : World) (K : PySem.W.Frag) (mg : Str → Option Value) (base : Heap) (x : Str) (k : Nat) (ps : List Str) (sp : Sp) (f : Addr) (fd : FuncData) : Prop where
  ok : FnOk P w K mg base (L2.CX P w) k f fd ps sp
  g : mg x = some (.ref f)
  kp : PySem.W.keepIn K (.ref f) = true
  b : Binds K fd ps []
structure DmX (P : Program) (w : World) (K : PySem.W.Frag) (mg : Str → Option Value) (base : Heap) (C : Addr) (x : Str) (k : Nat) (ps : List Str) (sp : Sp) (f : Addr) (fd : FuncData) : Prop where
  ok : FnOk P w K mg base (L2.CX P w) k f fd ps sp
  mt : Meth K C x f
  b : Binds K fd ps []
structure XcF (K : PySem.W.Frag) (mg : Str → Option Value) (x : Str) (C : Addr) : Prop where
  gP : mg x = some (.ref C)
  xP : PySem.W.excIn K C [.type "ValueError", .type "Exception", .type "BaseException", .type "object"] "ValueError.__new__" = true
  kP : PySem.W.keepIn K (.ref C) = true
  bP : PySem.W.subIn K (.ref C) (.type "BaseException") = some true
  tP : PySem.W.typeIn K (.ref C) = some (.type "type")
structure XcN (K : PySem.W.Frag) (mg : Str → Option Value) (x : Str) (C : Addr) : Prop where
  gP : mg x = some (.ref C)
structure XM (K : PySem.W.Frag) (aBadRow aBadSeed aBadText aNoPlace aNoRow aReachError aTooLow : Addr) : Prop where
  hd_BadRow : PySem.W.hasDictIn K aBadRow = true
  tp_BadRow : PySem.W.typeIn K (.ref aBadRow) = some (.type "type")
  bs_BadRow : PySem.W.subIn K (.ref aBadRow) (.type "BaseException") = some true
  hd_BadSeed : PySem.W.hasDictIn K aBadSeed = true
  tp_BadSeed : PySem.W.typeIn K (.ref aBadSeed) = some (.type "type")
  bs_BadSeed : PySem.W.subIn K (.ref aBadSeed) (.type "BaseException") = some true
  hd_BadText : PySem.W.hasDictIn K aBadText = true
  tp_BadText : PySem.W.typeIn K (.ref aBadText) = some (.type "type")
  bs_BadText : PySem.W.subIn K (.ref aBadText) (.type "BaseException") = some true
  hd_NoPlace : PySem.W.hasDictIn K aNoPlace = true
  tp_NoPlace : PySem.W.typeIn K (.ref aNoPlace) = some (.type "type")
  bs_NoPlace : PySem.W.subIn K (.ref aNoPlace) (.type "BaseException") = some true
  hd_NoRow : PySem.W.hasDictIn K aNoRow = true
  tp_NoRow : PySem.W.typeIn K (.ref aNoRow) = some (.type "type")
  bs_NoRow : PySem.W.subIn K (.ref aNoRow) (.type "BaseException") = some true
  hd_ReachError : PySem.W.hasDictIn K aReachError = true
  tp_ReachError : PySem.W.typeIn K (.ref aReachError) = some (.type "type")
  bs_ReachError : PySem.W.subIn K (.ref aReachError) (.type "BaseException") = some true
  hd_TooLow : PySem.W.hasDictIn K aTooLow = true
  tp_TooLow : PySem.W.typeIn K (.ref aTooLow) = some (.type "type")
  bs_TooLow : PySem.W.subIn K (.ref aTooLow) (.type "BaseException") = some true
  ec_BadRow : ExcC K aBadRow
  v_BadRow : PySem.W.subIn K (.ref aBadRow) (.type "ValueError") = some true
  s_BadRow_BadRow : PySem.W.subIn K (.ref aBadRow) (.ref aBadRow) = some true
  s_BadRow_BadSeed : PySem.W.subIn K (.ref aBadRow) (.ref aBadSeed) = some false
  s_BadRow_BadText : PySem.W.subIn K (.ref aBadRow) (.ref aBadText) = some false
  s_BadRow_NoPlace : PySem.W.subIn K (.ref aBadRow) (.ref aNoPlace) = some false
  s_BadRow_NoRow : PySem.W.subIn K (.ref aBadRow) (.ref aNoRow) = some false
  s_BadRow_ReachError : PySem.W.subIn K (.ref aBadRow) (.ref aReachError) = some true
  s_BadRow_TooLow : PySem.W.subIn K (.ref aBadRow) (.ref aTooLow) = some false
  ec_BadSeed : ExcC K aBadSeed
  v_BadSeed : PySem.W.subIn K (.ref aBadSeed) (.type "ValueError") = some true
  s_BadSeed_BadRow : PySem.W.subIn K (.ref aBadSeed) (.ref aBadRow) = some false
  s_BadSeed_BadSeed : PySem.W.subIn K (.ref aBadSeed) (.ref aBadSeed) = some true
  s_BadSeed_BadText : PySem.W.subIn K (.ref aBadSeed) (.ref aBadText) = some false
  s_BadSeed_NoPlace : PySem.W.subIn K (.ref aBadSeed) (.ref aNoPlace) = some false
  s_BadSeed_NoRow : PySem.W.subIn K (.ref aBadSeed) (.ref aNoRow) = some false
  s_BadSeed_ReachError : PySem.W.subIn K (.ref aBadSeed) (.ref aReachError) = some true
  s_BadSeed_TooLow : PySem.W.subIn K (.ref aBadSeed) (.ref aTooLow) = some false
structure KlShelf (K : PySem.W.Frag) (mg : Str → Option Value) (c fi : Addr) : Prop where
  cl : Cls K c
  mg : mg "Shelf" = some (.ref c)
  make : Mk K c fi
  n_letters : NoAttr K c "letters"
  n_scale : NoAttr K c "scale"
  n_seeds : NoAttr K c "seeds"
  n_limit : NoAttr K c "limit"
  n_laid : NoAttr K c "laid"
structure Bl (mg : Str → Option Value) : Prop where
  m_len : mg "len" = none
  m_enumerate : mg "enumerate" = none
  m_max : mg "max" = none
  m_any : mg "any" = none
  m_list : mg "list" = none
  m_range : mg "range" = none
  m_isinstance : mg "isinstance" = none
  m_ValueError : mg "ValueError" = none
structure Cs (mg : Str → Option Value) (uFEWEST_LETTERS uMOST_LETTERS uALPHABET uLONGEST_ROW uLEAST_WEIGHT uMOST_WEIGHT uLIKE uUNLIKE uSHORTEST_SEED uLONGEST_SEED uPICK uGAP uFEWEST_SEEDS uMOST_SEEDS uBAR uENDLESS : Value) : Prop where
  c_FEWEST_LETTERS : RelV (.int 2) uFEWEST_LETTERS ∧ mg "FEWEST_LETTERS" = some uFEWEST_LETTERS
  c_MOST_LETTERS : RelV (.int 6) uMOST_LETTERS ∧ mg "MOST_LETTERS" = some uMOST_LETTERS
  c_ALPHABET : RelV (.str "abcdefghijklmnopqrstuvwxyz") uALPHABET ∧ mg "ALPHABET" = some uALPHABET
  c_LONGEST_ROW : RelV (.int 60) uLONGEST_ROW ∧ mg "LONGEST_ROW" = some uLONGEST_ROW
  c_LEAST_WEIGHT : RelV (.int 1) uLEAST_WEIGHT ∧ mg "LEAST_WEIGHT" = some uLEAST_WEIGHT
  c_MOST_WEIGHT : RelV (.int 9) uMOST_WEIGHT ∧ mg "MOST_WEIGHT" = some uMOST_WEIGHT
  c_LIKE : RelV (.str "=") uLIKE ∧ mg "LIKE" = some uLIKE
  c_UNLIKE : RelV (.str "/") uUNLIKE ∧ mg "UNLIKE" = some uUNLIKE
  c_SHORTEST_SEED : RelV (.int 1) uSHORTEST_SEED ∧ mg "SHORTEST_SEED" = some uSHORTEST_SEED
  c_LONGEST_SEED : RelV (.int 8) uLONGEST_SEED ∧ mg "LONGEST_SEED" = some uLONGEST_SEED
  c_PICK : RelV (.str "#") uPICK ∧ mg "PICK" = some uPICK
  c_GAP : RelV (.str "-") uGAP ∧ mg "GAP" = some uGAP
  c_FEWEST_SEEDS : RelV (.int 1) uFEWEST_SEEDS ∧ mg "FEWEST_SEEDS" = some uFEWEST_SEEDS
  c_MOST_SEEDS : RelV (.int 3) uMOST_SEEDS ∧ mg "MOST_SEEDS" = some uMOST_SEEDS
  c_BAR : RelV (.str "bar") uBAR ∧ mg "BAR" = some uBAR
  c_ENDLESS : RelV (.str "endless") uENDLESS ∧ mg "ENDLESS" = some uENDLESS
def spneed_letters (K : PySem.W.Frag) (aBadRow : Addr) : Sp := fun vs H Q E => ∃ (z : List Nat), vs = [.str (S z)] ∧ z.length ≤ 1000 ∧ (LetG z → Q .non H) ∧ (¬ LetG z → E (.ref aBadRow) none H)
def RowOk (z lets : List Nat) : Prop := z.length ≤ 60 ∧ ∀ c ∈ z, c ∈ lets
def spneed_row (K : PySem.W.Frag) (aBadRow : Addr) : Sp := fun vs H Q E => ∃ (z lets : List Nat), vs = [.str (S z), .str (S lets)] ∧ z.length ≤ 1000 ∧ (RowOk z lets → Q .non H) ∧ (¬ RowOk z lets → E (.ref aBadRow) none H)
def spneed_scale (K : PySem.W.Frag) (aBadRow : Addr) : Sp := fun vs H Q E => ∃ (p : Addr) (g l : Int), vs = [.ref p] ∧ SqT K H p [.int g, .int l] ∧ (ScG g l → ∀ H', Same H H' → Q .non H') ∧ (¬ ScG g l → ∀ H', Same H H' → E (.ref aBadRow) none H')
def spworth_of (K : PySem.W.Frag) : Sp := fun vs H Q _ => ∃ (z : List Nat) (p : Addr) (g l : Int), vs = [.str (S z), .ref p] ∧ SqT K H p [.int g, .int l] ∧ Lk z ∧ 0 ≤ g ∧ g ≤ 1000 ∧ 0 ≤ l ∧ l ≤ 1000 ∧ Q (.int (wor g l z)) H
def sp_need_seed (K : PySem.W.Frag) (aBadSeed : Addr) : Sp := fun vs H Q E => ∃ (sd : List Nat), vs = [.str (S sd)] ∧ sd.length ≤ 1000 ∧ (Sd 8 sd → Q .non H) ∧ (¬ Sd 8 sd → E (.ref aBadSeed) none H)
def spneed_seeds (K : PySem.W.Frag) (aBadSeed : Addr) : Sp := fun vs H Q E => ∃ (sp : Addr) (sds : List (List Nat)), vs = [.ref sp] ∧ SqL K H sp (sds.map strV) ∧ (∀ sd ∈ sds, sd.length ≤ 1000) ∧ (SdsG sds → Q .non H) ∧ (¬ SdsG sds → E (.ref aBadSeed) none H)
def spunlike_under (K : PySem.W.Frag) : Sp := fun vs H Q _ => ∃ (sd z : List Nat) (p : Nat), vs = [.str (S sd), .str (S z), .int (p : Nat)] ∧ sd.length ≤ 1000 ∧ p + sd.length ≤ z.length ∧ z.length ≤ 100000 ∧
  ∀ (D : Addr) (H' : Hp), Same H H' → H D = none → H' D = some (.lst ((ulL sd z p).map fun k => V.int ((p + k : Nat) : Int))) → Q (.ref D) H'
def spfits (K : PySem.W.Frag) : Sp := fun vs H Q _ => ∃ (sd z : List Nat) (p : Int), vs = [.str (S sd), .str (S z), .int p] ∧ Sd 8 sd ∧ Lk z ∧ z.length ≤ 1000 ∧ ∀ H', Same H H' → Q (.bl (fitsB sd z p)) H'
def sp_tail (K : PySem.W.Frag) : Sp := fun vs H Q _ => ∃ (z : List Nat) (k : Nat), vs = [.str (S z), .int (k : Nat)] ∧ z.length ≤ 1000 ∧ k ≤ 1000 ∧ Q (.str (S (tlK k z))) H
def sp_steps_from (K : PySem.W.Frag) : Sp := fun vs H Q _ => ∃ (sp : Addr) (sds : List (List Nat)) (t : List Nat), vs = [.str (S t), .ref sp] ∧ SqL K H sp (sds.map strV) ∧ (∀ sd ∈ sds, Sd 8 sd) ∧ 1 ≤ sds.length ∧ sds.length ≤ 3 ∧ Lk t ∧ t.length ≤ 100 ∧
  ∀ (d : Addr) (H' : Hp), Same H H' → H d = none → H' d = some (.dK (stepKV (stps sds (kM sds) t))) → Q (.ref d) H'
def sp_steps (K : PySem.W.Frag) : Sp := fun vs H Q _ => ∃ (sp : Addr) (sds : List (List Nat)), vs = [.ref sp] ∧ SqL K H sp (sds.map strV) ∧ (∀ sd ∈ sds, Sd 8 sd) ∧ 1 ≤ sds.length ∧ sds.length ≤ 3 ∧
  ∀ (p : Addr) (ds : List Addr) (H' : Hp), Same H H' → H p = none → H' p = some (.dK (stKV (keys sds (kM sds)) ds)) → StAt H' p sds (kM sds) (keys sds (kM sds)) ds → Q (.ref p) H'
def sp_ring (K : PySem.W.Frag) : Sp := fun vs H Q _ => ∃ (sp : Addr) (sds : List (List Nat)) (k : Nat) (ks : List (List Nat)) (ds : List Addr) (t z : List Nat), vs = [.ref sp, .str (S t), .str (S z)] ∧ StAt H sp sds k ks ds ∧ KeysI sds k ks ∧ t ∈ ks ∧ Lk z ∧ (run sds k t z).isSome = true ∧ z.length ≤ 1000 ∧
  ∀ H', Same H H' → Q (.str (S (rgo k [t] t [] z))) H'
def sp_best_behind (K : PySem.W.Frag) (PT : Addr) : Sp := fun vs H Q _ => ∃ (d bp wp : Addr) (ps : List (Nat × List Nat)) (ks : List (List Nat)) (as : List Addr) (f : List Nat → Int × List Nat) (g l : Int), vs = [.ref d, .ref bp, .ref wp] ∧
  H d = some (.dK (stepKV ps)) ∧ ps.length ≤ 2 ∧ (∀ p ∈ ps, (p.1 = 61 ∨ p.1 = 47) ∧ p.2 ∈ ks) ∧ (∀ p ∈ ps, ∀ p' ∈ ps, p.1 = p'.1 → p.2 = p'.2) ∧ BsAt H bp ks f as ∧ (∀ t ∈ ks, (f t).2.length ≤ 1000) ∧ H wp = some (.dK (wKV g l)) ∧ bp ≠ d ∧ wp ≠ d ∧ LamX.TabS H PT qL ∧
  ∀ (p : Addr) (H' : Hp), SmT PT qL H H' → MxIt H' p ((ps.map (cand g l f)).foldl pick (0, [])) → Q (.ref p) H'
def spbar (K : PySem.W.Frag) (PT : Addr) : Sp := fun vs H Q _ => ∃ (sp ps : Addr) (sds : List (List Nat)) (g l : Int), vs = [.ref sp, .ref ps] ∧ SqL K H sp (sds.map strV) ∧ SqT K H ps [.int g, .int l] ∧ (∀ sd ∈ sds, Sd 8 sd) ∧ 1 ≤ sds.length ∧ sds.length ≤ 3 ∧ 1 ≤ g ∧ g ≤ 9 ∧ 1 ≤ l ∧ l ≤ 9 ∧ LamX.TabS H PT qL ∧ ∀ (p : Addr) (H' : Hp), SmT PT qL H H' → H p = none → H' p = some (.tup (barV (barM sds g l))) → BarOk sds g l (barM sds g l) → Q (.ref p) H'
def spShelf___init__ (K : PySem.W.Frag) (PT : Addr) (aBadRow aBadSeed : Addr) (cShelf : Addr) : Sp := fun vs H Q E => ∃ (p dx sc sp : Addr) (lets : List Nat) (g l : Int) (sds : List (List Nat)), vs = [.ref p, .str (S lets), .ref sc, .ref sp] ∧ H p = some (.ins cShelf dx []) ∧ lets.length ≤ 1000 ∧ H sc = some (.tup [.int g, .int l]) ∧ H sp = some (.lst (sds.map strV)) ∧ (∀ sd ∈ sds, sd.length ≤ 1000) ∧ LamX.TabS H PT qL ∧
  (¬ (LetG lets ∧ ScG g l) → ∀ H', Same H H' → E (.ref aBadRow) none H') ∧ (LetG lets → ScG g l → ¬ SdsG sds → ∀ H', Same H H' → E (.ref aBadSeed) none H') ∧
  (LetG lets → ScG g l → SdsG sds → ∀ (foot : List Addr) (H' : Hp), ShAt cShelf H' p foot ⟨lets, g, l, sds, []⟩ → (∀ b ∈ foot, b = p ∨ H b = none) → SmX p PT qL H H' → Q .non H')
def spShelf_lay (K : PySem.W.Frag) (aBadRow : Addr) (cShelf : Addr) : Sp := fun vs H Q E => ∃ (p : Addr) (foot : List Addr) (s : ShS) (z : List Nat), vs = [.ref p, .str (S z)] ∧ ShAt cShelf H p foot s ∧ s.rows.length ≤ 100 ∧ z.length ≤ 1000 ∧ (¬ RowOk z s.lets → E (.ref aBadRow) none H) ∧
  (RowOk z s.lets → ∀ (foot' : List Addr) (H' : Hp), ShAt cShelf H' p foot' { s with rows := s.rows ++ [z] } → Fr foot H H' → Grow foot foot' H → Q (.int (s.rows.length : Nat)) H')
def spShelf_rows (K : PySem.W.Frag) (cShelf : Addr) : Sp := fun vs H Q _ => ∃ (p : Addr) (foot : List Addr) (s : ShS), vs = [.ref p] ∧ ShAt cShelf H p foot s ∧ s.rows.length ≤ 20 ∧
  ∀ (foot' : List Addr) (H' : Hp) (r : Addr), ShAt cShelf H' p foot' s → Fr foot H H' → Grow foot foot' H → H r = none → r ∉ foot' → H' r = some (.lst (s.rows.map strV)) → Q (.ref r) H'
def spShelf_find (K : PySem.W.Frag) (aBadRow : Addr) (cShelf : Addr) : Sp := fun vs H Q E => ∃ (p : Addr) (foot : List Addr) (s : ShS) (z : List Nat) (told : Int), vs = [.ref p, .str (S z), .int told] ∧ ShAt cShelf H p foot s ∧ z.length ≤ 1000 ∧ ¬ RowOk z s.lets ∧ E (.ref aBadRow) none H
def splane (K : PySem.W.Frag) (aBadSeed : Addr) : Sp := fun vs H Q E => ∃ (one other sc : V) (sp : Addr) (shift told : Int) (sds : List (List Nat)), vs = [one, other, .int shift, .ref sp, sc, .int told] ∧ SqL K H sp (sds.map strV) ∧ (∀ sd ∈ sds, sd.length ≤ 1000) ∧ ¬ SdsG sds ∧ E (.ref aBadSeed) none H
def spshows (K : PySem.W.Frag) (aBadSeed : Addr) : Sp := fun vs H Q E => ∃ (one other sc pp : V) (sp : Addr) (shift told : Int) (sds : List (List Nat)), vs = [one, other, .int shift, .ref sp, sc, .int told, pp] ∧ SqL K H sp (sds.map strV) ∧ (∀ sd ∈ sds, sd.length ≤ 1000) ∧ ¬ SdsG sds ∧ E (.ref aBadSeed) none H
def sp_law_next (K : PySem.W.Frag) : Sp := fun vs H Q _ => ∃ (a b : Addr) (m : Int), vs = [.ref a, .int m] ∧ Src H a b ∧ 0 < m ∧ m < 1000000 ∧ ∀ (r : Int) (H' : Hp), 0 ≤ r → r < m → Src H' a b → Kp a b H H' → Q (.int r) H'
def sp_law_letters (K : PySem.W.Frag) : Sp := fun vs H Q _ => ∃ (a b : Addr), vs = [.ref a] ∧ Src H a b ∧ ∀ (t n : Nat) (H' : Hp), t < 26 → 2 ≤ n → n ≤ 6 → Src H' a b → Kp a b H H' → Q (.str (S (letL t n))) H'
def sp_law_row (K : PySem.W.Frag) : Sp := fun vs H Q _ => ∃ (a b : Addr) (l : List Nat) (m : Int), vs = [.ref a, .str (S l), .int m] ∧ Src H a b ∧ 0 < l.length ∧ l.length ≤ 1000 ∧ 0 ≤ m ∧ m ≤ 1000 ∧ ∀ (z : List Nat) (H' : Hp), (z.length : Int) ≤ m → (∀ c ∈ z, c ∈ l) → Src H' a b → Kp a b H H' → Q (.str (S z)) H'
def sp_law_scale (K : PySem.W.Frag) : Sp := fun vs H Q _ => ∃ (a b : Addr), vs = [.ref a] ∧ Src H a b ∧ ∀ (g l : Int) (p : Addr) (H' : Hp), 1 ≤ g → g ≤ 9 → 1 ≤ l → l ≤ 9 → H' p = some (.tup [.int g, .int l]) → p ≠ a → p ≠ b → Src H' a b → Kp a b H H' → Q (.ref p) H'
def sp_law_seed (K : PySem.W.Frag) : Sp := fun vs H Q _ => ∃ (a b : Addr) (m : Nat), vs = [.ref a, .int (m : Nat)] ∧ Src H a b ∧ 1 ≤ m ∧ m ≤ 100 ∧ ∀ (sd : List Nat) (H' : Hp), Sd m sd → Src H' a b → Kp a b H H' → Q (.str (S sd)) H'
def sp_law_seeds (K : PySem.W.Frag) : Sp := fun vs H Q _ => ∃ (a b : Addr) (m : Nat), vs = [.ref a, .int (m : Nat)] ∧ Src H a b ∧ 1 ≤ m ∧ m ≤ 100 ∧ ∀ (sp : Addr) (sds : List (List Nat)) (H' : Hp), (∀ sd ∈ sds, Sd m sd) → 1 ≤ sds.length → sds.length ≤ 3 → H' sp = some (.lst (sds.map strV)) → H sp = none → sp ≠ a → sp ≠ b → Src H' a b → Kp a b H H' → Q (.ref sp) H'
/-- what _law_kind makes of the one that it calls: that one lets a BadRow or a BadSeed out, and the word for it comes back -/
def TKind (aR aS : Addr) (tl : XK → Hp → VK → Prop) (H : Hp) (Q : VK) : Prop := ∃ (wd : Str) (aX : Addr), ((wd = "row" ∧ aX = aR) ∨ (wd = "seed" ∧ aX = aS)) ∧ ∀ (E : XK) (Q' : VK), (∀ H', (∀ H'', Same H' H'' → Q (.str wd) H'') → E (.ref aX) none H') → tl E H Q'
def sp_law_bad (K : PySem.W.Frag) : Sp := fun vs H Q _ => ∃ (a b sp : Addr) (lets z : List Nat) (sds : List (List Nat)), vs = [.ref a, .str (S lets), .str (S z), .ref sp] ∧ Src H a b ∧ LetG lets ∧ z.length ≤ 60 ∧ H sp = some (.lst (sds.map strV)) ∧ sp ≠ a ∧ sp ≠ b ∧ SdsG sds ∧
  ∀ (p two wr : Addr) (bad one : List Nat) (g l : Int) (wrong : List (List Nat)) (H' : Hp), bad.length ≤ 1000 → ¬ LetG bad → one.length ≤ 1000 → ¬ RowOk one lets → H' two = some (.tup [.int g, .int l]) → ¬ ScG g l → H' wr = some (.lst (wrong.map strV)) → (∀ sd ∈ wrong, sd.length ≤ 1000) → ¬ SdsG wrong →
    H' p = some (.tup [.str (S bad), .str (S one), .ref two, .ref wr]) → Kp a b H H' → Src H' a b → Q (.ref p) H'
abbrev qB : Str := "law.<locals>.<lambda>"
def splaw (K : PySem.W.Frag) (PT PT2 : Addr) : Sp := fun vs H Q _ => ∃ (a : Addr) (ns : List Int), vs = [.ref a] ∧ SqL K H a (ns.map V.int) ∧ ns.length ≤ 63 ∧ LamX.TabS H PT qL ∧ LamX.TabS H PT2 qB ∧ PT2 ≠ PT ∧ ∀ H', Q (.bl true) H'
end Sr
local macro_rules | `(tactic| walk_at "hp") => `(tactic| first | assumption | exact L2.upd_same | ((with_reducible refine Eq.trans (L2.upd_ne ?hne) ?hre); (case hne => first | assumption | exact Ne.symm (by assumption) | exact L2.ne_of_none (by assumption) (by assumption)); (case hre => walk_at "hp")))
local macro_rules | `(tactic| walk_at "sql") => `(tactic| first | assumption | exact L2.SqL.of (by walk_at "hp"))
local macro_rules | `(tactic| walk_at "sqt") => `(tactic| first | assumption | exact L2.SqT.of (by walk_at "hp"))
local macro_rules | `(tactic| walk_at "vc01") => `(tactic| first
  | (with_reducible refine L2.x_seq ?_)
  | (with_reducible refine L2.x_dget ?_)
  | (with_reducible refine L2.x_dnotin ?_)
  | (with_reducible refine L2.x_din ?_)
  | (with_reducible refine L2.x_dput ?_)
  | (with_reducible refine L2.x_dc ?_)
  | (with_reducible refine L2.x_ckw ?_)
  | (with_reducible refine L2.x_iTup ?_)
  | (with_reducible refine L2.x_iKeys ?_)
  | (with_reducible refine L2.x_listVals ?_)
  | (with_reducible refine L2.x_bm0 ?_)
  | (with_reducible refine L2.x_callS ?_)
  | (with_reducible refine L2.x_make ?_)
  | (with_reducible refine L2.x_meth ?_)
  | (with_reducible refine L2.x_fld ?_)
  | (with_reducible refine L2.x_sfld ?_)
  | (with_reducible refine L2.x_iEnumL ?_)
  | (with_reducible refine L2.x_asg ?_)
  | (with_reducible refine L2.x_name ?_)
  | (with_reducible refine L2.x_op ?_)
  | ((with_reducible (refine L2.x_var (v := ?v) ?hv ?_)); case hv => rfl)
  | (with_reducible refine L2.x_c ?_)
  | (with_reducible refine L2.x_rI0 ?_)
  | ((with_reducible (refine L2.x_rI ?hrI ?_)); case hrI => first | exact ⟨by omega, by omega⟩ | exact .inr ⟨by omega, by omega⟩ | exact .inl ⟨by omega, by omega⟩ | (show (0 : Int) < _; omega) | exact ⟨by omega, by omega, by omega⟩ | exact ⟨by decide, by decide, by decide⟩)
  | (with_reducible refine L2.x_rU ?_)
  | (with_reducible refine L2.x_un ?_)
  | ((with_reducible (refine L2.x_rEq ?hs ?_)); case hs => rfl)
  | ((with_reducible (refine L2.x_rNe ?hs ?_)); case hs => rfl)
  | (with_reducible refine L2.x_test ?_)
  | (with_reducible refine L2.x_b ?_)
  | (with_reducible refine L2.x_bl ?_)
  | (with_reducible refine L2.x_and ?_)
  | (with_reducible refine L2.x_or ?_)
  | (with_reducible refine L2.x_not ?_)
  | (with_reducible refine L2.x_notV ?_)
  | (with_reducible refine L2.x_andV ?_)
  | (with_reducible refine L2.x_orV ?_)
  | (with_reducible refine L2.x_cons ?_)
  | (with_reducible refine L2.x_nil ?_)
  | (with_reducible refine L2.x_tup ?_)
  | (with_reducible refine L2.x_lst ?_)
  | (with_reducible refine L2.x_cb ?_)
  | (with_reducible refine L2.x_call ?_)
  | (with_reducible refine L2.x_chain ?_)
  | (with_reducible refine L2.x_next ?_)
  | (with_reducible refine L2.x_drop ?_)
  | (with_reducible refine L2.x_ret ?_)
  | (with_reducible refine L2.x_gCons ?_)
  | (with_reducible refine L2.x_gNil ?_)
  | (with_reducible refine L2.x_gSub ?_)
  | (with_reducible refine L2.x_bm ?_)
  | (with_reducible refine L2.x_m1 ?_)
  | (with_reducible refine L2.x_m1s ?_)
  | (with_reducible refine L2.x_sl ?_)
  | (with_reducible refine L2.x_noPart ?_)
  | (with_reducible refine L2.x_part ?_)
  | (with_reducible refine L2.x_parti ?_)
  | (with_reducible refine L2.x_rng1 ?_)
  | (with_reducible refine L2.x_rng2 ?_)
  | (with_reducible refine L2.x_lcR ?_)
  | (with_reducible refine L2.x_yes ?_)
  | (with_reducible refine L2.x_iList ?_)
  | (with_reducible refine L2.x_iStr ?_)
  | (with_reducible refine L2.x_iStri ?_)
  | (with_reducible refine L2.x_for ?_)
  | ((with_reducible (refine L2.x_rng2i ?h1 ?_)); (case h1 => exact ⟨by omega, by omega, by omega, by omega⟩))
  | (with_reducible refine L2.x_two ?_)
  | (with_reducible refine L2.x_chain3 ?_)
  | (with_reducible refine L2.x_iEnumS ?_)
  | (with_reducible refine L2.x_par ?_)
  | (with_reducible refine L2.x_parv ?_)
  | ((with_reducible (refine L2.x_aug (x := ?x) ?h ?_)); (case h => rfl))
  | (with_reducible refine L2.x_ipI ?_)
  | (with_reducible refine L2.iteT ?_)
  | (with_reducible refine L2.iteF ?_)
  | (with_reducible refine L2.x_iteNT ?_)
  | (with_reducible refine L2.x_iteNF ?_)
  | (with_reducible refine L2.x_s1 ?_)
  | (with_reducible refine L2.x_rIntB ?_)
  | ((with_reducible (refine L2.x_addS ?h1 ?_)); (case h1 => first | assumption | exact L2.hp_sz (by omega)))
  | (with_reducible refine L2.x_intB ?_)
  | ((with_reducible (refine L2.x_rng1i ?h1 ?h2 ?_)); (case h1 => omega); (case h2 => omega))
  | ((with_reducible (refine L2.x_lenS ?h1 ?_)); (case h1 => first | assumption | exact L2.hp_sz (by omega)))
  | ((with_reducible (refine L2.x_lenL (ys := ?ys) ?h1 ?_)); (case h1 => first | assumption | exact .inl (by walk_at "sql") | exact .inr (by walk_at "sqt")))
  | ((with_reducible (refine L2.x_setL (xs := ?xs) (k := ?k) ?h1 ?h2 ?_)); (case h1 => walk_at "hp"); (case h2 => first | assumption | rfl | exact L2.atI_nat (j := 0) rfl))
  | ((with_reducible (refine L2.x_ixL (xs := ?xs) (v := ?v) ?h1 ?h2 ?_)); (case h1 => walk_at "sql"); (case h2 => first | assumption | rfl | exact L2.atI_nat (j := 0) rfl))
  | ((with_reducible (refine L2.x_ixT (xs := ?xs) (v := ?v) ?h1 ?h2 ?_)); (case h1 => walk_at "sqt"); (case h2 => first | assumption | rfl | exact L2.atI_nat (j := 0) rfl))
  | (with_reducible refine L2.x_enumS ?_)
  | ((with_reducible (refine L2.x_gTup (xs := ?xs) ?h1 ?h2 ?_)); (case h1 => walk_at "sqt"); (case h2 => rfl)))
local macro_rules | `(tactic| walk_at "vc1") => `(tactic| first | (walk_at "vc01") | (with_reducible refine L2.x_ifE ?_) | (with_reducible refine L2.x_ifS ?_))
local macro_rules | `(tactic| walk_at "vc0") => `(tactic| repeat (walk_at "vc01"))
local macro_rules | `(tactic| walk_at "vc") => `(tactic| repeat (walk_at "vc1"))
namespace Sr
open PySem PySem.Spec PyProof.Rows L2 
section
variable {P : Program} {w : World} {K : PySem.W.Frag} {mg : Str → Option Value} {base : Heap}
theorem okneed_letters {f : Addr} {fd : FuncData} {aBadRow : Addr} {uFEWEST_LETTERS uMOST_LETTERS uALPHABET uLONGEST_ROW uLEAST_WEIGHT uMOST_WEIGHT uLIKE uUNLIKE uSHORTEST_SEED uLONGEST_SEED uPICK uGAP uFEWEST_SEEDS uMOST_SEEDS uBAR uENDLESS : Value} (F : Fun K "need_letters" "need_letters" sneed_letters f fd) (B : Bl mg) (XBadRow : XcF K mg "BadRow" aBadRow) (C : Cs mg uFEWEST_LETTERS uMOST_LETTERS uALPHABET uLONGEST_ROW uLEAST_WEIGHT uMOST_WEIGHT uLIKE uUNLIKE uSHORTEST_SEED uLONGEST_SEED uPICK uGAP uFEWEST_SEEDS uMOST_SEEDS uBAR uENDLESS) : FnOk P w K mg base (L2.CX P w) 1 f fd ["letters"] (spneed_letters K aBadRow) := by
  refine F.okX scneed_letters (fun vs H Q E h => ?_) (fun cdv A outer s H vs Q E hr h => ?_)
  · first
      | (obtain ⟨_, rfl, _⟩ := h; rfl)
      | (obtain ⟨_, _, rfl, _⟩ := h; rfl)
      | (obtain ⟨_, _, _, rfl, _⟩ := h; rfl)
      | (obtain ⟨_, _, _, _, rfl, _⟩ := h; rfl)
      | (obtain ⟨_, _, _, _, _, rfl, _⟩ := h; rfl)
      | (obtain ⟨_, _, _, _, _, _, rfl, _⟩ := h; rfl)
      | (obtain ⟨_, _, _, _, _, _, _, rfl, _⟩ := h; rfl)
      | (obtain ⟨_, _, _, _, _, _, _, _, rfl, _⟩ := h; rfl)
      | (obtain ⟨_, _, _, _, _, _, _, _, _, rfl, _⟩ := h; rfl)
      | (obtain ⟨_, _, _, _, _, _, _, _, _, _, rfl, _⟩ := h; rfl)
      | (obtain ⟨_, _, _, _, _, _, _, _, _, _, _, rfl, _⟩ := h; rfl)
      | (obtain ⟨_, _, _, _, _, _, _, _, _, _, _, _, rfl, _⟩ := h; rfl)
      | (obtain ⟨_, _, _, _, _, _, _, _, _, _, _, _, _, rfl, _⟩ := h; rfl)
      | (obtain ⟨_, _, _, _, _, _, _, _, _, _, _, _, _, _, rfl, _⟩ := h; rfl)
      | (obtain ⟨_, _, _, _, _, _, _, _, _, _, _, _, _, _, _, rfl, _⟩ := h; rfl)
      | (obtain ⟨_, _, _, _, _, _, _, _, _, _, _, _, _, _, _, _, rfl, _⟩ := h; rfl)
      | (obtain ⟨_, _, _, _, _, _, _, _, _, _, _, _, _, _, _, _, _, rfl, _⟩ := h; rfl)
  · obtain ⟨z, rfl, hz, q, qe⟩ := h
    have ez : ((S z).length : Int) = z.length := by rw [len_S]
    have lz : (S z).length ≤ sizeLine := hp_sz (by rw [len_S]; omega)
    have habc : ("abcdefghijklmnopqrstuvwxyz" : Str).cps.toList = (List.range 26).map (97 + ·) := by decide +kernel
    refine ⟨_, 
  (pss_cons (ps_if (PW.pt (pw_or (pt_cmpR op_lt (pe_callB call_len_str (by rfl) B.m_len PySem.boot_len (pa_cons (pv 0) pa_nil)) (pe_glob rfl C.c_FEWEST_LETTERS.2 C.c_FEWEST_LETTERS.1) (nomark _)) (pw_or1 (pt_cmpR op_gt (pe_callB call_len_str (by rfl) B.m_len PySem.boot_len (pa_cons (pv 0) pa_nil)) (pe_glob rfl C.c_MOST_LETTERS.2 C.c_MOST_LETTERS.1) (nomark _))))) 
    (pss_one (ps_raise rfl (takes_of rfl rfl rfl rfl) (pmk_own PySem.F.excBase_ValueError XBadRow.xP XBadRow.gP XBadRow.kP (raises_own XBadRow.bP XBadRow.tP) rfl))) pss_nil) 
  (pss_one (ps_for (passes_of rfl) rfl (pi_str (pv 0)) (pg_name (i := 1) scneed_letters.nd rfl (.inl rfl)) 
    (pss_cons (ps_if (pt_cmpR op_notIn_sign (pv 1) (pe_glob rfl C.c_ALPHABET.2 C.c_ALPHABET.1) (by rfl)) 
      (pss_one (ps_raise rfl (takes_of rfl rfl rfl rfl) (pmk_own PySem.F.excBase_ValueError XBadRow.xP XBadRow.gP XBadRow.kP (raises_own XBadRow.bP XBadRow.tP) rfl))) pss_nil) 
    (pss_one (ps_if (pt_cmpR op_gt (pe_m1 PySem.F.slot_str_count PySem.F.type_str_count mt_count (pv 0) (pv 1)) pe_int (nomark _)) 
      (pss_one (ps_raise rfl (takes_of rfl rfl rfl rfl) (pmk_own PySem.F.excBase_ValueError XBadRow.xP XBadRow.gP XBadRow.kP (raises_own XBadRow.bP XBadRow.tP) rfl))) pss_nil)))))), ?_⟩
    walk_at "vc"
    by_cases c1 : ((S z).length : Int) < 2
    · rw [decide_eq_true c1]
      walk_at "vc"
      exact qe fun h => by have := h.1; omega
    rw [decide_eq_false c1]
    walk_at "vc"
    by_cases c2 : (6 : Int) < ((S z).length : Int)
    · rw [decide_eq_true c2]
      walk_at "vc"
      exact qe fun h => by have := h.2.1; omega
    rw [decide_eq_false c2]
    walk_at "vc"
    refine for_it (walk_str (z := S z)) (fun i σ H' => (∃ y, σ = [some (.str (S z)), y]) ∧ H' = H ∧ ∀ c ∈ z.take i, (97 ≤ c ∧ c ≤ 122) ∧ z.count c ≤ 1) ⟨⟨_, rfl⟩, rfl, fun c hc => by rw [List.take_zero] at hc; cases hc⟩ (fun _ _ _ _ _ => trivial) ?_ ?_
    · rintro i x σ H1 H2 hi ⟨⟨y, rfl⟩, rfl, hall⟩ ⟨rfl, c, hci, rfl⟩
      have hz : z[i]? = some c := by simpa [S] using hci
      have hm := List.mem_of_getElem? hz
      walk_at "vc"
      refine ⟨c, _, rfl, rfl, ?_⟩
      by_cases hcc : 97 ≤ c ∧ c ≤ 122
      · rw [show decide (c ∈ (Str.ofString "abcdefghijklmnopqrstuvwxyz").cps.toList) = true from decide_eq_true (by rw [show (Str.ofString "abcdefghijklmnopqrstuvwxyz").cps.toList = _ from habc]; exact List.mem_map.mpr ⟨c - 97, List.mem_range.mpr (by omega), by omega⟩)]
        walk_at "vc"
        rw [show Txt.count (S z) ⟨#[c]⟩ = (((TL.tl (S z)).count c : Nat) : Int) from count_sign (S z) c, tl_S]
        by_cases h1 : (1 : Int) < ((z.count c : Nat) : Int)
        · rw [decide_eq_true h1]
          walk_at "vc"
          exact qe fun h => by have := List.nodup_iff_count.mp h.2.2.2 c; omega
        · rw [decide_eq_false h1]
          walk_at "vc"
          refine ⟨⟨_, rfl⟩, rfl, fun c' hc' => ?_⟩
          rw [List.take_add_one, hz] at hc'
          rcases List.mem_append.mp hc' with h | h
          · exact hall c' h
          · obtain rfl : c' = c := by simpa using h
            exact ⟨hcc, by omega⟩
      · rw [show decide (c ∈ (Str.ofString "abcdefghijklmnopqrstuvwxyz").cps.toList) = false from decide_eq_false (by
          rw [show (Str.ofString "abcdefghijklmnopqrstuvwxyz").cps.toList = _ from habc]
          intro h
          obtain ⟨k, hk, e⟩ := List.mem_map.mp h
          have := List.mem_range.mp hk
          omega)]
        walk_at "vc"
        exact qe fun h => hcc (h.2.2.1 c hm)
    · rintro σ H1 ⟨⟨y, rfl⟩, rfl, hall⟩
      rw [List.take_of_length_le (by show z.length ≤ (S z).cps.size; simp [S])] at hall
      refine q ⟨by omega, by omega, fun c hc => (hall c hc).1, List.nodup_iff_count.mpr fun c => ?_⟩
      by_cases hc : c ∈ z
      · exact (hall c hc).2
      · rw [List.count_eq_zero.mpr hc]
        omega


theorem okneed_row {f : Addr} {fd : FuncData} {aBadRow : Addr} {uFEWEST_LETTERS uMOST_LETTERS uALPHABET uLONGEST_ROW uLEAST_WEIGHT uMOST_WEIGHT uLIKE uUNLIKE uSHORTEST_SEED uLONGEST_SEED uPICK uGAP uFEWEST_SEEDS uMOST_SEEDS uBAR uENDLESS : Value} (F : Fun K "need_row" "need_row" sneed_row f fd) (B : Bl mg) (XBadRow : XcF K mg "BadRow" aBadRow) (C : Cs mg uFEWEST_LETTERS uMOST_LETTERS uALPHABET uLONGEST_ROW uLEAST_WEIGHT uMOST_WEIGHT uLIKE uUNLIKE uSHORTEST_SEED uLONGEST_SEED uPICK uGAP uFEWEST_SEEDS uMOST_SEEDS uBAR uENDLESS) : FnOk P w K mg base (L2.CX P w) 1 f fd ["row", "letters"] (spneed_row K aBadRow) := by
  refine F.okX scneed_row (fun vs H Q E h => ?_) (fun cdv A outer s H vs Q E hr h => ?_)
  · first
      | (obtain ⟨_, rfl, _⟩ := h; rfl)
      | (obtain ⟨_, _, rfl, _⟩ := h; rfl)
      | (obtain ⟨_, _, _, rfl, _⟩ := h; rfl)
      | (obtain ⟨_, _, _, _, rfl, _⟩ := h; rfl)
      | (obtain ⟨_, _, _, _, _, rfl, _⟩ := h; rfl)
      | (obtain ⟨_, _, _, _, _, _, rfl, _⟩ := h; rfl)
      | (obtain ⟨_, _, _, _, _, _, _, rfl, _⟩ := h; rfl)
      | (obtain ⟨_, _, _, _, _, _, _, _, rfl, _⟩ := h; rfl)
      | (obtain ⟨_, _, _, _, _, _, _, _, _, rfl, _⟩ := h; rfl)
      | (obtain ⟨_, _, _, _, _, _, _, _, _, _, rfl, _⟩ := h; rfl)
      | (obtain ⟨_, _, _, _, _, _, _, _, _, _, _, rfl, _⟩ := h; rfl)
      | (obtain ⟨_, _, _, _, _, _, _, _, _, _, _, _, rfl, _⟩ := h; rfl)
      | (obtain ⟨_, _, _, _, _, _, _, _, _, _, _, _, _, rfl, _⟩ := h; rfl)
      | (obtain ⟨_, _, _, _, _, _, _, _, _, _, _, _, _, _, rfl, _⟩ := h; rfl)
      | (obtain ⟨_, _, _, _, _, _, _, _, _, _, _, _, _, _, _, rfl, _⟩ := h; rfl)
      | (obtain ⟨_, _, _, _, _, _, _, _, _, _, _, _, _, _, _, _, rfl, _⟩ := h; rfl)
      | (obtain ⟨_, _, _, _, _, _, _, _, _, _, _, _, _, _, _, _, _, rfl, _⟩ := h; rfl)
  · obtain ⟨z, lets, rfl, h60, q, qe⟩ := h
    have ez : ((S z).length : Int) = z.length := by rw [len_S]
    have lz : (S z).length ≤ sizeLine := hp_sz (by rw [len_S]; omega)
    refine ⟨_, 
  (pss_cons (ps_if (pt_cmpR op_gt (pe_callB call_len_str (by rfl) B.m_len PySem.boot_len (pa_cons (pv 0) pa_nil)) (pe_glob rfl C.c_LONGEST_ROW.2 C.c_LONGEST_ROW.1) (nomark _)) 
    (pss_one (ps_raise rfl (takes_of rfl rfl rfl rfl) (pmk_own PySem.F.excBase_ValueError XBadRow.xP XBadRow.gP XBadRow.kP (raises_own XBadRow.bP XBadRow.tP) rfl))) pss_nil) 
  (pss_one (ps_for (passes_of rfl) rfl (pi_str (pv 0)) (pg_name (i := 2) scneed_row.nd rfl (.inl rfl)) 
    (pss_one (ps_if (pt_cmpR op_notIn_sign (pv 2) (pv 1) (by rfl)) 
      (pss_one (ps_raise rfl (takes_of rfl rfl rfl rfl) (pmk_own PySem.F.excBase_ValueError XBadRow.xP XBadRow.gP XBadRow.kP (raises_own XBadRow.bP XBadRow.tP) rfl))) pss_nil))))), ?_⟩
    walk_at "vc"
    refine ite2 (fun e => ?_) (fun e => ?_)
    · have e1 := of_decide_eq_true e
      exact qe (fun h => by have := h.1; omega)
    have e1 : ¬ (60 : Int) < ((S z).length : Int) := fun h => e (decide_eq_true h)
    walk_at "vc"
    refine for_it (walk_str (z := S z)) (fun i σ H' => (∃ y, σ = [some (.str (S z)), some (.str (S lets)), y]) ∧ H' = H ∧ ∀ c ∈ z.take i, c ∈ lets) ⟨⟨_, rfl⟩, rfl, fun c hc => by rw [List.take_zero] at hc; cases hc⟩ (fun _ _ _ _ _ => trivial) ?_ ?_
    · rintro i x σ H1 H2 hi ⟨⟨y, rfl⟩, rfl, hall⟩ ⟨rfl, c, hci, rfl⟩
      have hz : z[i]? = some c := by simpa [S] using hci
      walk_at "vc"
      refine ⟨c, _, rfl, rfl, ?_⟩
      by_cases hm : c ∈ lets
      · rw [show decide (c ∈ (S lets).cps.toList) = true from decide_eq_true hm]
        walk_at "vc"
        refine ⟨⟨_, rfl⟩, rfl, fun c' hc' => ?_⟩
        rw [List.take_add_one, hz] at hc'
        rcases List.mem_append.mp hc' with h | h
        · exact hall c' h
        · obtain rfl : c' = c := by simpa using h
          exact hm
      · rw [show decide (c ∈ (S lets).cps.toList) = false from decide_eq_false hm]
        walk_at "vc"
        exact qe (fun h => hm (h.2 c (List.mem_of_getElem? hz)))
    · rintro σ H1 ⟨⟨y, rfl⟩, rfl, hall⟩
      refine q ⟨by omega, ?_⟩
      rw [List.take_of_length_le (by show z.length ≤ (S z).cps.size; simp [S])] at hall
      exact hall


theorem okneed_scale {f : Addr} {fd : FuncData} {aBadRow : Addr} {uFEWEST_LETTERS uMOST_LETTERS uALPHABET uLONGEST_ROW uLEAST_WEIGHT uMOST_WEIGHT uLIKE uUNLIKE uSHORTEST_SEED uLONGEST_SEED uPICK uGAP uFEWEST_SEEDS uMOST_SEEDS uBAR uENDLESS : Value} (F : Fun K "need_scale" "need_scale" sneed_scale f fd) (B : Bl mg) (XBadRow : XcF K mg "BadRow" aBadRow) (C : Cs mg uFEWEST_LETTERS uMOST_LETTERS uALPHABET uLONGEST_ROW uLEAST_WEIGHT uMOST_WEIGHT uLIKE uUNLIKE uSHORTEST_SEED uLONGEST_SEED uPICK uGAP uFEWEST_SEEDS uMOST_SEEDS uBAR uENDLESS) : FnOk P w K mg base (L2.CX P w) 1 f fd ["scale"] (spneed_scale K aBadRow) := by
  refine F.okX scneed_scale (fun vs H Q E h => ?_) (fun cdv A outer s H vs Q E hr h => ?_)
  · first
      | (obtain ⟨_, rfl, _⟩ := h; rfl)
      | (obtain ⟨_, _, rfl, _⟩ := h; rfl)
      | (obtain ⟨_, _, _, rfl, _⟩ := h; rfl)
      | (obtain ⟨_, _, _, _, rfl, _⟩ := h; rfl)
      | (obtain ⟨_, _, _, _, _, rfl, _⟩ := h; rfl)
      | (obtain ⟨_, _, _, _, _, _, rfl, _⟩ := h; rfl)
      | (obtain ⟨_, _, _, _, _, _, _, rfl, _⟩ := h; rfl)
      | (obtain ⟨_, _, _, _, _, _, _, _, rfl, _⟩ := h; rfl)
      | (obtain ⟨_, _, _, _, _, _, _, _, _, rfl, _⟩ := h; rfl)
      | (obtain ⟨_, _, _, _, _, _, _, _, _, _, rfl, _⟩ := h; rfl)
      | (obtain ⟨_, _, _, _, _, _, _, _, _, _, _, rfl, _⟩ := h; rfl)
      | (obtain ⟨_, _, _, _, _, _, _, _, _, _, _, _, rfl, _⟩ := h; rfl)
      | (obtain ⟨_, _, _, _, _, _, _, _, _, _, _, _, _, rfl, _⟩ := h; rfl)
      | (obtain ⟨_, _, _, _, _, _, _, _, _, _, _, _, _, _, rfl, _⟩ := h; rfl)
      | (obtain ⟨_, _, _, _, _, _, _, _, _, _, _, _, _, _, _, rfl, _⟩ := h; rfl)
      | (obtain ⟨_, _, _, _, _, _, _, _, _, _, _, _, _, _, _, _, rfl, _⟩ := h; rfl)
      | (obtain ⟨_, _, _, _, _, _, _, _, _, _, _, _, _, _, _, _, _, rfl, _⟩ := h; rfl)
  · obtain ⟨p, g, l, rfl, hp, q, qe⟩ := h
    refine ⟨_, 
  (pss_cons (ps_asg (pv 0) (pg_tup rfl (pgs_cons (pg_name (i := 1) scneed_scale.nd rfl (.inl rfl)) (pgs_cons (pg_name (i := 2) scneed_scale.nd rfl (.inl rfl)) pgs_nil)))) 
  (pss_one (ps_for (passes_of rfl) rfl (pi_tup (pe_tup (pa_cons (pv 1) (pa_cons (pv 2) pa_nil)))) (pg_name (i := 3) scneed_scale.nd rfl (.inl rfl)) 
    (pss_one (ps_if (PW.pt (pw_or (pt_cmpR op_lt (pv 3) (pe_glob rfl C.c_LEAST_WEIGHT.2 C.c_LEAST_WEIGHT.1) (nomark _)) (pw_or1 (pt_cmpR op_gt (pv 3) (pe_glob rfl C.c_MOST_WEIGHT.2 C.c_MOST_WEIGHT.1) (nomark _))))) 
      (pss_one (ps_raise rfl (takes_of rfl rfl rfl rfl) (pmk_own PySem.F.excBase_ValueError XBadRow.xP XBadRow.gP XBadRow.kP (raises_own XBadRow.bP XBadRow.tP) rfl))) pss_nil))))), ?_⟩
    walk_at "vc"
    refine ⟨(show 2 ≤ sizeLine by decide), fun tp htp => ?_⟩
    have sm1 : Same H (upd H tp (.tup [.int g, .int l])) := same_upd htp
    have htp1 : upd H tp (.tup [.int g, .int l]) tp = some (.tup [.int g, .int l]) := upd_same
    generalize upd H tp (.tup [.int g, .int l]) = H1 at sm1 htp1
    refine ⟨tp, rfl, ⟨_, SqT.of htp1⟩, ?_⟩
    refine for_it (walk_tup (xs := [.int g, .int l])) (fun i σ H' => (∃ y, σ = [some (.ref p), some (.int g), some (.int l), y]) ∧ H' = H1 ∧ (1 ≤ i → 1 ≤ g ∧ g ≤ 9) ∧ (2 ≤ i → 1 ≤ l ∧ l ≤ 9)) ⟨⟨_, rfl⟩, rfl, fun h => by omega, fun h => by omega⟩ (fun i σ H' _ h => by rw [h.2.1]; exact SqT.of htp1) ?_ ?_
    · rintro i x σ H2 H3 hi ⟨⟨y, rfl⟩, rfl, hg, hl⟩ ⟨rfl, hx⟩
      obtain ⟨n, rfl, n1, n9⟩ : ∃ n : Int, x = .int n ∧ (i = 0 → n = g) ∧ (i = 1 → n = l) := by
        have hi2 : i < 2 := hi
        have : i = 0 ∨ i = 1 := by omega
        rcases this with e | e
        · subst e; exact ⟨g, (Option.some.inj hx).symm, fun _ => rfl, fun h => by omega⟩
        · subst e; exact ⟨l, (Option.some.inj hx).symm, fun h => by omega, fun _ => rfl⟩
      have hi2 : i < 2 := hi
      have bad : ¬ (1 ≤ n ∧ n ≤ 9) → ¬ ScG g l := fun h hs => by
        obtain ⟨a1, a2, a3, a4⟩ := hs
        have : i = 0 ∨ i = 1 := by omega
        rcases this with e | e
        · have := n1 e; omega
        · have := n9 e; omega
      walk_at "vc"
      by_cases c1 : n < 1
      · rw [decide_eq_true c1]
        walk_at "vc"
        exact qe (bad (by omega)) _ sm1
      rw [decide_eq_false c1]
      walk_at "vc"
      by_cases c2 : 9 < n
      · rw [decide_eq_true c2]
        walk_at "vc"
        exact qe (bad (by omega)) _ sm1
      rw [decide_eq_false c2]
      walk_at "vc"
      refine ⟨⟨_, rfl⟩, rfl, fun _ => ?_, fun h => ?_⟩
      · by_cases e : i = 0
        · have := n1 e; omega
        · exact hg (by omega)
      · have := n9 (by omega); omega
    · rintro σ H2 ⟨⟨y, rfl⟩, rfl, hg, hl⟩
      have h1 := hg (by show 1 ≤ 2; decide)
      have h2 := hl (by show 2 ≤ 2; decide)
      exact q ⟨h1.1, h1.2, h2.1, h2.2⟩ _ sm1


theorem okworth_of {f : Addr} {fd : FuncData} {uFEWEST_LETTERS uMOST_LETTERS uALPHABET uLONGEST_ROW uLEAST_WEIGHT uMOST_WEIGHT uLIKE uUNLIKE uSHORTEST_SEED uLONGEST_SEED uPICK uGAP uFEWEST_SEEDS uMOST_SEEDS uBAR uENDLESS : Value} (F : Fun K "worth_of" "worth_of" sworth_of f fd) (B : Bl mg) (C : Cs mg uFEWEST_LETTERS uMOST_LETTERS uALPHABET uLONGEST_ROW uLEAST_WEIGHT uMOST_WEIGHT uLIKE uUNLIKE uSHORTEST_SEED uLONGEST_SEED uPICK uGAP uFEWEST_SEEDS uMOST_SEEDS uBAR uENDLESS) : FnOk P w K mg base CX0 1 f fd ["likes", "scale"] (spworth_of K) := by
  refine F.ok scworth_of (fun vs H Q E h => ?_) (fun cdv A outer s H vs Q E hr h => ?_)
  · first
      | (obtain ⟨_, rfl, _⟩ := h; rfl)
      | (obtain ⟨_, _, rfl, _⟩ := h; rfl)
      | (obtain ⟨_, _, _, rfl, _⟩ := h; rfl)
      | (obtain ⟨_, _, _, _, rfl, _⟩ := h; rfl)
      | (obtain ⟨_, _, _, _, _, rfl, _⟩ := h; rfl)
      | (obtain ⟨_, _, _, _, _, _, rfl, _⟩ := h; rfl)
      | (obtain ⟨_, _, _, _, _, _, _, rfl, _⟩ := h; rfl)
      | (obtain ⟨_, _, _, _, _, _, _, _, rfl, _⟩ := h; rfl)
      | (obtain ⟨_, _, _, _, _, _, _, _, _, rfl, _⟩ := h; rfl)
      | (obtain ⟨_, _, _, _, _, _, _, _, _, _, rfl, _⟩ := h; rfl)
      | (obtain ⟨_, _, _, _, _, _, _, _, _, _, _, rfl, _⟩ := h; rfl)
      | (obtain ⟨_, _, _, _, _, _, _, _, _, _, _, _, rfl, _⟩ := h; rfl)
      | (obtain ⟨_, _, _, _, _, _, _, _, _, _, _, _, _, rfl, _⟩ := h; rfl)
      | (obtain ⟨_, _, _, _, _, _, _, _, _, _, _, _, _, _, rfl, _⟩ := h; rfl)
      | (obtain ⟨_, _, _, _, _, _, _, _, _, _, _, _, _, _, _, rfl, _⟩ := h; rfl)
      | (obtain ⟨_, _, _, _, _, _, _, _, _, _, _, _, _, _, _, _, rfl, _⟩ := h; rfl)
      | (obtain ⟨_, _, _, _, _, _, _, _, _, _, _, _, _, _, _, _, _, rfl, _⟩ := h; rfl)
  · obtain ⟨z, p, g, l, rfl, hT, hz, hg1, hg2, hl1, hl2, q⟩ := h
    refine ⟨_, 
  (pss_cons (ps_asg (pv 1) (pg_tup rfl (pgs_cons (pg_name (i := 2) scworth_of.nd rfl (.inl rfl)) (pgs_cons (pg_name (i := 3) scworth_of.nd rfl (.inl rfl)) pgs_nil)))) 
  (pss_one (ps_ret (pe_op op_sub (pe_op op_mul (pv 2) (pe_m1 PySem.F.slot_str_count PySem.F.type_str_count mt_count (pv 0) (pe_glob rfl C.c_LIKE.2 C.c_LIKE.1))) (pe_op op_mul (pv 3) (pe_m1 PySem.F.slot_str_count PySem.F.type_str_count mt_count (pv 0) (pe_glob rfl C.c_UNLIKE.2 C.c_UNLIKE.1))))))), ?_⟩
    walk_at "vc"
    have e1 := count_sign (S z) 61
    have e2 := count_sign (S z) 47
    have e3 := wor_count g l hz
    rw [tl_S] at e1 e2
    show Q (V.int (g * Txt.count (S z) (sg 61) - l * Txt.count (S z) (sg 47))) H
    rw [e1, e2, e3]
    exact q


theorem ok_need_seed {f : Addr} {fd : FuncData} {aBadSeed : Addr} {uFEWEST_LETTERS uMOST_LETTERS uALPHABET uLONGEST_ROW uLEAST_WEIGHT uMOST_WEIGHT uLIKE uUNLIKE uSHORTEST_SEED uLONGEST_SEED uPICK uGAP uFEWEST_SEEDS uMOST_SEEDS uBAR uENDLESS : Value} (F : Fun K "_need_seed" "_need_seed" s_need_seed f fd) (B : Bl mg) (XBadSeed : XcF K mg "BadSeed" aBadSeed) (C : Cs mg uFEWEST_LETTERS uMOST_LETTERS uALPHABET uLONGEST_ROW uLEAST_WEIGHT uMOST_WEIGHT uLIKE uUNLIKE uSHORTEST_SEED uLONGEST_SEED uPICK uGAP uFEWEST_SEEDS uMOST_SEEDS uBAR uENDLESS) : FnOk P w K mg base (L2.CX P w) 1 f fd ["seed"] (sp_need_seed K aBadSeed) := by
  refine F.okX sc_need_seed (fun vs H Q E h => ?_) (fun cdv A outer s H vs Q E hr h => ?_)
  · first
      | (obtain ⟨_, rfl, _⟩ := h; rfl)
      | (obtain ⟨_, _, rfl, _⟩ := h; rfl)
      | (obtain ⟨_, _, _, rfl, _⟩ := h; rfl)
      | (obtain ⟨_, _, _, _, rfl, _⟩ := h; rfl)
      | (obtain ⟨_, _, _, _, _, rfl, _⟩ := h; rfl)
      | (obtain ⟨_, _, _, _, _, _, rfl, _⟩ := h; rfl)
      | (obtain ⟨_, _, _, _, _, _, _, rfl, _⟩ := h; rfl)
      | (obtain ⟨_, _, _, _, _, _, _, _, rfl, _⟩ := h; rfl)
      | (obtain ⟨_, _, _, _, _, _, _, _, _, rfl, _⟩ := h; rfl)
      | (obtain ⟨_, _, _, _, _, _, _, _, _, _, rfl, _⟩ := h; rfl)
      | (obtain ⟨_, _, _, _, _, _, _, _, _, _, _, rfl, _⟩ := h; rfl)
      | (obtain ⟨_, _, _, _, _, _, _, _, _, _, _, _, rfl, _⟩ := h; rfl)
      | (obtain ⟨_, _, _, _, _, _, _, _, _, _, _, _, _, rfl, _⟩ := h; rfl)
      | (obtain ⟨_, _, _, _, _, _, _, _, _, _, _, _, _, _, rfl, _⟩ := h; rfl)
      | (obtain ⟨_, _, _, _, _, _, _, _, _, _, _, _, _, _, _, rfl, _⟩ := h; rfl)
      | (obtain ⟨_, _, _, _, _, _, _, _, _, _, _, _, _, _, _, _, rfl, _⟩ := h; rfl)
      | (obtain ⟨_, _, _, _, _, _, _, _, _, _, _, _, _, _, _, _, _, rfl, _⟩ := h; rfl)
  · obtain ⟨sd, rfl, hlen, q, qe⟩ := h
    have ez : ((S sd).length : Int) = sd.length := by rw [len_S]
    have lz : (S sd).length ≤ sizeLine := hp_sz (by rw [len_S]; omega)
    refine ⟨_, 
  (pss_cons (ps_if (PW.pt (pw_or (pt_cmpR op_lt (pe_callB call_len_str (by rfl) B.m_len PySem.boot_len (pa_cons (pv 0) pa_nil)) (pe_glob rfl C.c_SHORTEST_SEED.2 C.c_SHORTEST_SEED.1) (nomark _)) (pw_or1 (pt_cmpR op_gt (pe_callB call_len_str (by rfl) B.m_len PySem.boot_len (pa_cons (pv 0) pa_nil)) (pe_glob rfl C.c_LONGEST_SEED.2 C.c_LONGEST_SEED.1) (nomark _))))) 
    (pss_one (ps_raise rfl (takes_of rfl rfl rfl rfl) (pmk_own PySem.F.excBase_ValueError XBadSeed.xP XBadSeed.gP XBadSeed.kP (raises_own XBadSeed.bP XBadSeed.tP) rfl))) pss_nil) 
  (pss_cons (ps_if (PW.pt (pw_or (pt_cmpR op_ne (pe_ix ix_str (pv 0) pe_int (fun _ _ => rfl)) (pe_glob rfl C.c_PICK.2 C.c_PICK.1) (nomark _)) (pw_or1 (pt_cmpR op_ne (pe_ix ix_str (pv 0) (pe_un un_neg pe_int) (fun _ _ => rfl)) (pe_glob rfl C.c_PICK.2 C.c_PICK.1) (nomark _))))) 
    (pss_one (ps_raise rfl (takes_of rfl rfl rfl rfl) (pmk_own PySem.F.excBase_ValueError XBadSeed.xP XBadSeed.gP XBadSeed.kP (raises_own XBadSeed.bP XBadSeed.tP) rfl))) pss_nil) 
  (pss_one (ps_for (passes_of rfl) rfl (pi_str (pv 0)) (pg_name (i := 1) sc_need_seed.nd rfl (.inl rfl)) 
    (pss_one (ps_if (PW.pt (pw_and (pt_cmpR op_ne (pv 1) (pe_glob rfl C.c_PICK.2 C.c_PICK.1) (nomark _)) (pw_and1 (pt_cmpR op_ne (pv 1) (pe_glob rfl C.c_GAP.2 C.c_GAP.1) (nomark _))))) 
      (pss_one (ps_raise rfl (takes_of rfl rfl rfl rfl) (pmk_own PySem.F.excBase_ValueError XBadSeed.xP XBadSeed.gP XBadSeed.kP (raises_own XBadSeed.bP XBadSeed.tP) rfl))) pss_nil)))))), ?_⟩
    walk_at "vc"
    by_cases c1 : ((S sd).length : Int) < 1
    · rw [decide_eq_true c1]
      walk_at "vc"
      exact qe fun h => by have := h.one; omega
    rw [decide_eq_false c1]
    walk_at "vc"
    by_cases c2 : (8 : Int) < ((S sd).length : Int)
    · rw [decide_eq_true c2]
      walk_at "vc"
      exact qe fun h => by have := h.most; omega
    rw [decide_eq_false c2]
    obtain ⟨a, ha⟩ : ∃ a, sd[0]? = some a := ⟨sd[0]'(by omega), List.getElem?_eq_getElem _⟩
    obtain ⟨z, hz⟩ : ∃ z, sd[sd.length - 1]? = some z := ⟨sd[sd.length - 1]'(by omega), List.getElem?_eq_getElem _⟩
    walk_at "vc"
    refine x_ixS lz (c := a) (atI_nat (j := 0) ha) ?_
    walk_at "vc"
    rw [show (⟨#[a]⟩ : Str) = sg a from rfl, eq_sign a 35 (Str.ofString "#") rfl]
    by_cases e1 : a = 35
    case neg =>
      rw [decide_eq_false e1]
      walk_at "vc"
      exact qe fun h => e1 (by have := h.first; rw [ha] at this; exact Option.some.inj this)
    rw [decide_eq_true e1]
    walk_at "vc"
    refine x_ixS lz (c := z) ?_ ?_
    · unfold atI ixN
      rw [show (S sd).cps.toList = sd from tl_S sd, if_neg (by omega), if_pos (by omega), show (-1 + (sd.length : Int)).toNat = sd.length - 1 by omega]
      exact hz
    walk_at "vc"
    rw [show (⟨#[z]⟩ : Str) = sg z from rfl, eq_sign z 35 (Str.ofString "#") rfl]
    by_cases e2 : z = 35
    case neg =>
      rw [decide_eq_false e2]
      walk_at "vc"
      exact qe fun h => e2 (by have := h.last; rw [hz] at this; exact Option.some.inj this)
    rw [decide_eq_true e2]
    walk_at "vc"
    refine for_it (walk_str (z := S sd)) (fun i σ H' => (∃ y, σ = [some (.str (S sd)), y]) ∧ H' = H ∧ ∀ c ∈ sd.take i, c = 35 ∨ c = 45) ⟨⟨_, rfl⟩, rfl, fun c hc => by rw [List.take_zero] at hc; cases hc⟩ (fun _ _ _ _ _ => trivial) ?_ ?_
    · rintro i x σ H1 H2 hi ⟨⟨y, rfl⟩, rfl, hall⟩ ⟨rfl, c, hci, rfl⟩
      have hz : sd[i]? = some c := by simpa [S] using hci
      have hm := List.mem_of_getElem? hz
      have ext : (c = 35 ∨ c = 45) → ∀ c' ∈ sd.take (i + 1), c' = 35 ∨ c' = 45 := fun hc c' hc' => by
        rw [List.take_add_one, hz] at hc'
        rcases List.mem_append.mp hc' with h | h
        · exact hall c' h
        · obtain rfl : c' = c := by simpa using h
          exact hc
      walk_at "vc"
      rw [show (⟨#[c]⟩ : Str) = sg c from rfl, eq_sign c 35 (Str.ofString "#") rfl]
      by_cases e : c = 35
      · rw [decide_eq_true e]
        walk_at "vc"
        exact ⟨⟨_, rfl⟩, rfl, ext (.inl e)⟩
      · rw [decide_eq_false e]
        walk_at "vc"
        rw [eq_sign c 45 (Str.ofString "-") rfl]
        by_cases e' : c = 45
        · rw [decide_eq_true e']
          walk_at "vc"
          exact ⟨⟨_, rfl⟩, rfl, ext (.inr e')⟩
        · rw [decide_eq_false e']
          walk_at "vc"
          exact qe fun h => by
            rcases h.all c hm with w | w
            · exact e w
            · exact e' w
    · rintro σ H1 ⟨⟨y, rfl⟩, rfl, hall⟩
      rw [List.take_of_length_le (by show sd.length ≤ (S sd).cps.size; simp [S])] at hall
      exact q ⟨by omega, by omega, hall, by rw [ha, e1], by rw [hz, e2]⟩


theorem okneed_seeds {f : Addr} {fd : FuncData} {aBadSeed : Addr} {uFEWEST_LETTERS uMOST_LETTERS uALPHABET uLONGEST_ROW uLEAST_WEIGHT uMOST_WEIGHT uLIKE uUNLIKE uSHORTEST_SEED uLONGEST_SEED uPICK uGAP uFEWEST_SEEDS uMOST_SEEDS uBAR uENDLESS : Value} {f_need_seed : Addr} {fd_need_seed : FuncData} (F : Fun K "need_seeds" "need_seeds" sneed_seeds f fd) (B : Bl mg) (XBadSeed : XcF K mg "BadSeed" aBadSeed) (C : Cs mg uFEWEST_LETTERS uMOST_LETTERS uALPHABET uLONGEST_ROW uLEAST_WEIGHT uMOST_WEIGHT uLIKE uUNLIKE uSHORTEST_SEED uLONGEST_SEED uPICK uGAP uFEWEST_SEEDS uMOST_SEEDS uBAR uENDLESS) (D_need_seed : DnX P w K mg base "_need_seed" 1 ["seed"] (sp_need_seed K aBadSeed) f_need_seed fd_need_seed) : FnOk P w K mg base (L2.CX P w) 2 f fd ["seeds"] (spneed_seeds K aBadSeed) := by
  refine F.okX scneed_seeds (fun vs H Q E h => ?_) (fun cdv A outer s H vs Q E hr h => ?_)
  · first
      | (obtain ⟨_, rfl, _⟩ := h; rfl)
      | (obtain ⟨_, _, rfl, _⟩ := h; rfl)
      | (obtain ⟨_, _, _, rfl, _⟩ := h; rfl)
      | (obtain ⟨_, _, _, _, rfl, _⟩ := h; rfl)
      | (obtain ⟨_, _, _, _, _, rfl, _⟩ := h; rfl)
      | (obtain ⟨_, _, _, _, _, _, rfl, _⟩ := h; rfl)
      | (obtain ⟨_, _, _, _, _, _, _, rfl, _⟩ := h; rfl)
      | (obtain ⟨_, _, _, _, _, _, _, _, rfl, _⟩ := h; rfl)
      | (obtain ⟨_, _, _, _, _, _, _, _, _, rfl, _⟩ := h; rfl)
      | (obtain ⟨_, _, _, _, _, _, _, _, _, _, rfl, _⟩ := h; rfl)
      | (obtain ⟨_, _, _, _, _, _, _, _, _, _, _, rfl, _⟩ := h; rfl)
      | (obtain ⟨_, _, _, _, _, _, _, _, _, _, _, _, rfl, _⟩ := h; rfl)
      | (obtain ⟨_, _, _, _, _, _, _, _, _, _, _, _, _, rfl, _⟩ := h; rfl)
      | (obtain ⟨_, _, _, _, _, _, _, _, _, _, _, _, _, _, rfl, _⟩ := h; rfl)
      | (obtain ⟨_, _, _, _, _, _, _, _, _, _, _, _, _, _, _, rfl, _⟩ := h; rfl)
      | (obtain ⟨_, _, _, _, _, _, _, _, _, _, _, _, _, _, _, _, rfl, _⟩ := h; rfl)
      | (obtain ⟨_, _, _, _, _, _, _, _, _, _, _, _, _, _, _, _, _, rfl, _⟩ := h; rfl)
  · obtain ⟨sp, sds, rfl, hsp, hsl, q, qe⟩ := h
    have el : (sds.map strV).length = sds.length := List.length_map _
    refine ⟨_, 
  (pss_cons (ps_if (PW.pt (pw_or (pt_cmpR op_lt (pe_callB call_len_seq (by rfl) B.m_len PySem.boot_len (pa_cons (pv 0) pa_nil)) (pe_glob rfl C.c_FEWEST_SEEDS.2 C.c_FEWEST_SEEDS.1) (nomark _)) (pw_or1 (pt_cmpR op_gt (pe_callB call_len_seq (by rfl) B.m_len PySem.boot_len (pa_cons (pv 0) pa_nil)) (pe_glob rfl C.c_MOST_SEEDS.2 C.c_MOST_SEEDS.1) (nomark _))))) 
    (pss_one (ps_raise rfl (takes_of rfl rfl rfl rfl) (pmk_own PySem.F.excBase_ValueError XBadSeed.xP XBadSeed.gP XBadSeed.kP (raises_own XBadSeed.bP XBadSeed.tP) rfl))) pss_nil) 
  (pss_one (ps_for (passes_of rfl) rfl (pi_list (pv 0)) (pg_name (i := 1) scneed_seeds.nd rfl (.inl rfl)) 
    (pss_one (ps_expr (pe_call D_need_seed.ok hr (by rfl) D_need_seed.g D_need_seed.kp D_need_seed.b .nil (passes_call (takes_of rfl rfl rfl rfl) (fun _ _ _ _ h => h)) (pa_cons (pv 1) pa_nil))))))), ?_⟩
    walk_at "vc"
    by_cases c1 : (((sds.map strV).length : Nat) : Int) < 1
    · rw [decide_eq_true c1]
      walk_at "vc"
      exact qe fun h => by have := h.2.1; omega
    rw [decide_eq_false c1]
    walk_at "vc"
    by_cases c2 : (3 : Int) < (((sds.map strV).length : Nat) : Int)
    · rw [decide_eq_true c2]
      walk_at "vc"
      exact qe fun h => by have := h.2.2; omega
    rw [decide_eq_false c2]
    walk_at "vc"
    refine x_iListi hsp ?_
    refine for_list (K := K) (a := sp) (xs := sds.map strV) (fun i σ H' => (∃ y, σ = [some (.ref sp), y]) ∧ H' = H ∧ ∀ sd ∈ sds.take i, Sd 8 sd) ⟨⟨_, rfl⟩, rfl, fun sd hs => by rw [List.take_zero] at hs; cases hs⟩ (fun i σ H' _ h => by rw [h.2.1]; exact hsp) ?_ ?_
    · rintro i x σ H1 hx ⟨⟨y, rfl⟩, rfl, hall⟩
      have hi : i < sds.length := by
        have := (List.getElem?_eq_some_iff.mp hx).1
        rw [List.length_map] at this
        exact this
      have ex : x = V.str (S sds[i]) := by
        rw [List.getElem?_map, List.getElem?_eq_getElem hi] at hx
        exact (Option.some.inj hx).symm
      subst ex
      walk_at "vc"
      refine ⟨sds[i], rfl, hsl _ (List.getElem_mem hi), fun hg => ?_, fun hn => qe fun h => hn (h.1 _ (List.getElem_mem hi))⟩
      refine ⟨⟨_, rfl⟩, rfl, fun sd hs => ?_⟩
      rw [List.take_succ_eq_append_getElem hi] at hs
      rcases List.mem_append.mp hs with w | w
      · exact hall sd w
      · rw [List.mem_singleton.mp w]; exact hg
    · rintro σ H1 ⟨⟨y, rfl⟩, rfl, hall⟩
      rw [List.length_map, List.take_length] at hall
      exact q ⟨hall, by omega, by omega⟩


theorem okunlike_under {f : Addr} {fd : FuncData} {uFEWEST_LETTERS uMOST_LETTERS uALPHABET uLONGEST_ROW uLEAST_WEIGHT uMOST_WEIGHT uLIKE uUNLIKE uSHORTEST_SEED uLONGEST_SEED uPICK uGAP uFEWEST_SEEDS uMOST_SEEDS uBAR uENDLESS : Value} (F : Fun K "unlike_under" "unlike_under" sunlike_under f fd) (B : Bl mg) (C : Cs mg uFEWEST_LETTERS uMOST_LETTERS uALPHABET uLONGEST_ROW uLEAST_WEIGHT uMOST_WEIGHT uLIKE uUNLIKE uSHORTEST_SEED uLONGEST_SEED uPICK uGAP uFEWEST_SEEDS uMOST_SEEDS uBAR uENDLESS) : FnOk P w K mg base CX0 1 f fd ["seed", "likes", "place"] (spunlike_under K) := by
  refine F.ok scunlike_under (fun vs H Q E h => ?_) (fun cdv A outer s H vs Q E hr h => ?_)
  · first
      | (obtain ⟨_, rfl, _⟩ := h; rfl)
      | (obtain ⟨_, _, rfl, _⟩ := h; rfl)
      | (obtain ⟨_, _, _, rfl, _⟩ := h; rfl)
      | (obtain ⟨_, _, _, _, rfl, _⟩ := h; rfl)
      | (obtain ⟨_, _, _, _, _, rfl, _⟩ := h; rfl)
      | (obtain ⟨_, _, _, _, _, _, rfl, _⟩ := h; rfl)
      | (obtain ⟨_, _, _, _, _, _, _, rfl, _⟩ := h; rfl)
      | (obtain ⟨_, _, _, _, _, _, _, _, rfl, _⟩ := h; rfl)
      | (obtain ⟨_, _, _, _, _, _, _, _, _, rfl, _⟩ := h; rfl)
      | (obtain ⟨_, _, _, _, _, _, _, _, _, _, rfl, _⟩ := h; rfl)
      | (obtain ⟨_, _, _, _, _, _, _, _, _, _, _, rfl, _⟩ := h; rfl)
      | (obtain ⟨_, _, _, _, _, _, _, _, _, _, _, _, rfl, _⟩ := h; rfl)
      | (obtain ⟨_, _, _, _, _, _, _, _, _, _, _, _, _, rfl, _⟩ := h; rfl)
      | (obtain ⟨_, _, _, _, _, _, _, _, _, _, _, _, _, _, rfl, _⟩ := h; rfl)
      | (obtain ⟨_, _, _, _, _, _, _, _, _, _, _, _, _, _, _, rfl, _⟩ := h; rfl)
      | (obtain ⟨_, _, _, _, _, _, _, _, _, _, _, _, _, _, _, _, rfl, _⟩ := h; rfl)
      | (obtain ⟨_, _, _, _, _, _, _, _, _, _, _, _, _, _, _, _, _, rfl, _⟩ := h; rfl)
  · obtain ⟨sd, z, p, rfl, h1, h2, h3, q⟩ := h
    have ls : (S sd).length ≤ sizeLine := hp_sz (by rw [len_S]; omega)
    have lz : (S z).length ≤ sizeLine := hp_sz (by rw [len_S]; omega)
    refine ⟨_, 
  (pss_one (ps_ret (pe_lc (own := [("at", 3), ("sign", 4)]) (g := gTup K 2 (gCons (gName 3) (gCons (gName 4) gNil))) rfl scunlike_under.nd (pi_enumS (by rfl) B.m_enumerate (pa_cons (pv 0) pa_nil)) (blkOk_by (N := nunlike_under) (sc := defScope sunlike_under) (by decide +kernel)) (fun _ _ _ _ _ => (pg_tup rfl (pgs_cons (pg_name (i := 3) scunlike_under.nd rfl (.inl rfl)) (pgs_cons (pg_name (i := 4) scunlike_under.nd rfl (.inl rfl)) pgs_nil)))) (fun _ _ _ _ _ => pts_one (PW.pt (pw_and (pt_cmpR op_eq (pv 4) (pe_glob rfl C.c_PICK.2 C.c_PICK.1) (nomark _)) (pw_and1 (pt_cmpR op_eq (pe_ix ix_str (pv 1) (pe_op op_add (pv 2) (pv 3)) (fun _ _ => rfl)) (pe_glob rfl C.c_UNLIKE.2 C.c_UNLIKE.1) (nomark _)))))) (fun _ _ _ _ _ => (pe_op op_add (pv 2) (pv 3)))))), ?_⟩
    walk_at "vc"
    intro D hD
    refine lc_it (walk_enumS (x := S sd)) (fun i H' => Same H H' ∧ H' D = some (.lst (((List.range i).filter (ulK sd z p)).map fun k => V.int ((p + k : Nat) : Int)))) ⟨same_upd hD, upd_same⟩ (fun _ _ _ _ => trivial) ?_ ?_
    · rintro i x H1 H2 hi ⟨sm, hD1⟩ ⟨T, c, rfl, hTn, hc, rfl⟩
      have hi' : i < sd.length := hi
      have ec : sd[i]? = some c := by simpa [S] using hc
      have hz : p + i < z.length := by omega
      have sm1 : Same H1 (upd H1 T (.tup [.int (i : Nat), .str ⟨#[c]⟩])) := same_upd hTn
      have hTT : upd H1 T (.tup [.int (i : Nat), .str ⟨#[c]⟩]) T = some (.tup [.int (i : Nat), .str ⟨#[c]⟩]) := upd_same
      have hD2 := sm1 _ _ hD1
      have sm2 := sm.trans sm1
      generalize upd H1 T (.tup [.int (i : Nat), .str ⟨#[c]⟩]) = H3 at sm1 hTT hD2 sm2
      refine x_gTup (SqT.of hTT) rfl ?_
      walk_at "vc"
      refine ⟨rfl, ?_⟩
      walk_at "vc"
      rw [show (⟨#[c]⟩ : Str) = sg c from rfl, eq_sign c 35 (Str.ofString "#") rfl]
      refine ite2 (fun e => ?_) (fun e => ?_)
      · have e35 : c = 35 := of_decide_eq_true e
        walk_at "vc"
        refine x_ixS lz (c := z[p + i]) (atI_of (by omega) (by rw [show (((p : Nat) : Int) + ((i : Nat) : Int)).toNat = p + i by omega]; exact List.getElem?_eq_getElem hz)) ?_
        walk_at "vc"
        rw [show (⟨#[z[p + i]]⟩ : Str) = sg z[p + i] from rfl, eq_sign z[p + i] 47 (Str.ofString "/") rfl]
        refine ite2 (fun e => ?_) (fun e => ?_)
        · have e47 : z[p + i] = 47 := of_decide_eq_true e
          walk_at "vc"
          refine ⟨_, hD2, ?_, fun b o e => ?_, ?_⟩
          · rw [List.length_map]
            exact Nat.lt_of_le_of_lt (filter_len_le _ i) (Nat.lt_of_le_of_lt (by omega : i ≤ 1000) (by decide))
          · rw [upd_ne (ne_of_none e hD)]
            exact sm2 b o e
          · rw [upd_same, range_filter_snoc, if_pos (by unfold ulK; rw [ec, List.getElem?_eq_getElem hz, e35, e47]; rfl), List.map_append]
            rfl
        · have e47 : ¬ z[p + i] = 47 := fun h => e (decide_eq_true h)
          refine ⟨sm2, ?_⟩
          rw [range_filter_snoc, if_neg (by unfold ulK; rw [List.getElem?_eq_getElem hz]; simp [e47]), List.append_nil]
          exact hD2
      · have e35 : ¬ c = 35 := fun h => e (decide_eq_true h)
        walk_at "vc"
        refine ⟨sm2, ?_⟩
        rw [range_filter_snoc, if_neg (by unfold ulK; rw [ec]; simp [e35]), List.append_nil]
        exact hD2
    · rintro H1 ⟨sm, hD1⟩
      rw [show (S sd).cps.size = sd.length from len_S sd] at hD1
      exact q D H1 sm hD hD1


theorem ulL_fits {sd z : List Nat} {p : Int} (h1 : 1 ≤ sd.length) (h0 : 0 ≤ p) (h2 : p + sd.length ≤ z.length) : (ulL sd z p.toNat).isEmpty = fitsB sd z p := by
  have hiff : (ulL sd z p.toNat).isEmpty = true ↔ fitsB sd z p = true := by
    unfold ulL
    rw [range_filter_empty, fitsB_iff h1]
    refine ⟨fun hh => ⟨by omega, by omega, fun k hk hc => hh k hk ?_⟩, fun hh k hk hc => hh.2.2 k hk ?_⟩
    · unfold ulK
      rw [decide_eq_true hc.1, decide_eq_true hc.2]
      rfl
    · unfold ulK at hc
      simpa using hc
  cases hb : fitsB sd z p with
  | true => exact hiff.mpr hb
  | false =>
    cases hc : (ulL sd z p.toNat).isEmpty with
    | false => rfl
    | true =>
      rw [hiff.mp hc] at hb
      cases hb
theorem okfits {f : Addr} {fd : FuncData} {funlike_under : Addr} {fdunlike_under : FuncData} (F : Fun K "fits" "fits" sfits f fd) (B : Bl mg) (Dunlike_under : Dn P w K mg base "unlike_under" 1 ["seed", "likes", "place"] (spunlike_under K) funlike_under fdunlike_under) : FnOk P w K mg base CX0 2 f fd ["seed", "likes", "place"] (spfits K) := by
  refine F.ok scfits (fun vs H Q E h => ?_) (fun cdv A outer s H vs Q E hr h => ?_)
  · first
      | (obtain ⟨_, rfl, _⟩ := h; rfl)
      | (obtain ⟨_, _, rfl, _⟩ := h; rfl)
      | (obtain ⟨_, _, _, rfl, _⟩ := h; rfl)
      | (obtain ⟨_, _, _, _, rfl, _⟩ := h; rfl)
      | (obtain ⟨_, _, _, _, _, rfl, _⟩ := h; rfl)
      | (obtain ⟨_, _, _, _, _, _, rfl, _⟩ := h; rfl)
      | (obtain ⟨_, _, _, _, _, _, _, rfl, _⟩ := h; rfl)
      | (obtain ⟨_, _, _, _, _, _, _, _, rfl, _⟩ := h; rfl)
      | (obtain ⟨_, _, _, _, _, _, _, _, _, rfl, _⟩ := h; rfl)
      | (obtain ⟨_, _, _, _, _, _, _, _, _, _, rfl, _⟩ := h; rfl)
      | (obtain ⟨_, _, _, _, _, _, _, _, _, _, _, rfl, _⟩ := h; rfl)
      | (obtain ⟨_, _, _, _, _, _, _, _, _, _, _, _, rfl, _⟩ := h; rfl)
      | (obtain ⟨_, _, _, _, _, _, _, _, _, _, _, _, _, rfl, _⟩ := h; rfl)
      | (obtain ⟨_, _, _, _, _, _, _, _, _, _, _, _, _, _, rfl, _⟩ := h; rfl)
      | (obtain ⟨_, _, _, _, _, _, _, _, _, _, _, _, _, _, _, rfl, _⟩ := h; rfl)
      | (obtain ⟨_, _, _, _, _, _, _, _, _, _, _, _, _, _, _, _, rfl, _⟩ := h; rfl)
      | (obtain ⟨_, _, _, _, _, _, _, _, _, _, _, _, _, _, _, _, _, rfl, _⟩ := h; rfl)
  · obtain ⟨sd, z, p, rfl, hsd, hLk, h3, q⟩ := h
    have h1 := hsd.one
    have h8 := hsd.most
    have es : ((S sd).length : Int) = sd.length := by rw [len_S]
    have ez : ((S z).length : Int) = z.length := by rw [len_S]
    have ls : (S sd).length ≤ sizeLine := hp_sz (by rw [len_S]; omega)
    have lz : (S z).length ≤ sizeLine := hp_sz (by rw [len_S]; omega)
    refine ⟨_, 
  (pss_cons (ps_if (PW.pt (pw_or (pt_cmpR op_lt (pv 2) pe_int (nomark _)) (pw_or1 (pt_cmpR op_gt (pe_op op_add (pv 2) (pe_callB call_len_str (by rfl) B.m_len PySem.boot_len (pa_cons (pv 0) pa_nil))) (pe_callB call_len_str (by rfl) B.m_len PySem.boot_len (pa_cons (pv 1) pa_nil)) (nomark _))))) 
    (pss_one (ps_ret pe_bl)) pss_nil) 
  (pss_one (ps_ret (pe_notT (pe_call Dunlike_under.ok hr (by rfl) Dunlike_under.g Dunlike_under.kp Dunlike_under.b .nil pass0 (pa_cons (pv 0) (pa_cons (pv 1) (pa_cons (pv 2) pa_nil)))))))), ?_⟩
    walk_at "vc"
    have no : ¬ (0 ≤ p ∧ p + sd.length ≤ z.length) → fitsB sd z p = false := fun hn => by
      cases hb : fitsB sd z p with
      | false => rfl
      | true =>
        have := (fitsB_iff h1).mp hb
        omega
    by_cases hp0 : p < 0
    · rw [decide_eq_true hp0]
      walk_at "vc"
      have := q H (Same.refl _)
      rw [no (by omega)] at this
      exact this
    rw [decide_eq_false hp0]
    walk_at "vc"
    by_cases hp1 : ((S z).length : Int) < p + ((S sd).length : Int)
    · rw [decide_eq_true hp1]
      walk_at "vc"
      have := q H (Same.refl _)
      rw [no (by omega)] at this
      exact this
    rw [decide_eq_false hp1]
    walk_at "vc"
    have ep : p = ((p.toNat : Nat) : Int) := by omega
    refine x_notT ?_
    walk_at "vc"
    refine ⟨sd, z, p.toNat, by rw [← ep]; rfl, by omega, by omega, by omega, fun D H' sm _ hD => ?_⟩
    refine ⟨!(ulL sd z p.toNat).isEmpty, .inl ⟨_, SqL.of hD, by rw [isEmpty_map]⟩, ?_⟩
    rw [Bool.not_not, ulL_fits h1 (by omega) (by omega)]
    exact q _ sm


theorem ok_tail {f : Addr} {fd : FuncData} {uFEWEST_LETTERS uMOST_LETTERS uALPHABET uLONGEST_ROW uLEAST_WEIGHT uMOST_WEIGHT uLIKE uUNLIKE uSHORTEST_SEED uLONGEST_SEED uPICK uGAP uFEWEST_SEEDS uMOST_SEEDS uBAR uENDLESS : Value} (F : Fun K "_tail" "_tail" s_tail f fd) (B : Bl mg) (C : Cs mg uFEWEST_LETTERS uMOST_LETTERS uALPHABET uLONGEST_ROW uLEAST_WEIGHT uMOST_WEIGHT uLIKE uUNLIKE uSHORTEST_SEED uLONGEST_SEED uPICK uGAP uFEWEST_SEEDS uMOST_SEEDS uBAR uENDLESS) : FnOk P w K mg base CX0 1 f fd ["likes", "keep"] (sp_tail K) := by
  refine F.ok sc_tail (fun vs H Q E h => ?_) (fun cdv A outer s H vs Q E hr h => ?_)
  · first
      | (obtain ⟨_, rfl, _⟩ := h; rfl)
      | (obtain ⟨_, _, rfl, _⟩ := h; rfl)
      | (obtain ⟨_, _, _, rfl, _⟩ := h; rfl)
      | (obtain ⟨_, _, _, _, rfl, _⟩ := h; rfl)
      | (obtain ⟨_, _, _, _, _, rfl, _⟩ := h; rfl)
      | (obtain ⟨_, _, _, _, _, _, rfl, _⟩ := h; rfl)
      | (obtain ⟨_, _, _, _, _, _, _, rfl, _⟩ := h; rfl)
      | (obtain ⟨_, _, _, _, _, _, _, _, rfl, _⟩ := h; rfl)
      | (obtain ⟨_, _, _, _, _, _, _, _, _, rfl, _⟩ := h; rfl)
      | (obtain ⟨_, _, _, _, _, _, _, _, _, _, rfl, _⟩ := h; rfl)
      | (obtain ⟨_, _, _, _, _, _, _, _, _, _, _, rfl, _⟩ := h; rfl)
      | (obtain ⟨_, _, _, _, _, _, _, _, _, _, _, _, rfl, _⟩ := h; rfl)
      | (obtain ⟨_, _, _, _, _, _, _, _, _, _, _, _, _, rfl, _⟩ := h; rfl)
      | (obtain ⟨_, _, _, _, _, _, _, _, _, _, _, _, _, _, rfl, _⟩ := h; rfl)
      | (obtain ⟨_, _, _, _, _, _, _, _, _, _, _, _, _, _, _, rfl, _⟩ := h; rfl)
      | (obtain ⟨_, _, _, _, _, _, _, _, _, _, _, _, _, _, _, _, rfl, _⟩ := h; rfl)
      | (obtain ⟨_, _, _, _, _, _, _, _, _, _, _, _, _, _, _, _, _, rfl, _⟩ := h; rfl)
  · obtain ⟨z, k, rfl, h1, h2, q⟩ := h
    have ez : ((S z).length : Int) = z.length := by rw [len_S]
    have lz : (S z).length ≤ sizeLine := hp_sz (by rw [len_S]; omega)
    refine ⟨_, 
  (pss_one (ps_ret (pe_m1 PySem.F.slot_str_lstrip PySem.F.type_str_lstrip mt_lstripChars (pe_slice sl_str (pv 0) (po_some (pe_callB (call_max2 rfl) (by rfl) B.m_max (by decide +kernel) (pa_cons pe_int (pa_cons (pe_op op_sub (pe_callB call_len_str (by rfl) B.m_len PySem.boot_len (pa_cons (pv 0) pa_nil)) (pv 1)) pa_nil)))) po_none) (pe_glob rfl C.c_UNLIKE.2 C.c_UNLIKE.1)))), ?_⟩
    walk_at "vc"
    refine x_slS lz ?_
    have e : (if ((S z).length : Int) - (k : Int) > 0 then ((S z).length : Int) - (k : Int) else 0) = ((z.length - k : Nat) : Int) := by rw [ez]; split <;> omega
    rw [e, cutS_drop]
    walk_at "vc"
    refine ⟨hp_sz (by rw [len_S, List.length_drop]; omega), ?_⟩
    show Q (.str (Txt.lstripChars (S (z.drop (z.length - k))) (S [47]))) H
    rw [lstrip_S]
    exact q


def stpsU (sds : List (List Nat)) (k : Nat) (t : List Nat) (i : Nat) : List (Nat × List Nat) := ((([61, 47] : List Nat).take i).filter fun c => okS sds t c).map fun c => (c, tlK k (t ++ [c]))
theorem stpsU_yes {sds : List (List Nat)} {k : Nat} {t : List Nat} {i c : Nat} (hi : i < 2) (hc : c = if i = 0 then 61 else 47) (h : okS sds t c = true) : stpsU sds k t (i + 1) = stpsU sds k t i ++ [(c, tlK k (t ++ [c]))] := by
  unfold stpsU
  have : ([61, 47] : List Nat).take (i + 1) = ([61, 47] : List Nat).take i ++ [c] := by
    have : i = 0 ∨ i = 1 := by omega
    rcases this with e | e <;> subst e <;> subst hc <;> rfl
  rw [this, List.filter_append, List.filter_cons, if_pos h, List.map_append]
  rfl
theorem stpsU_no {sds : List (List Nat)} {k : Nat} {t : List Nat} {i c : Nat} (hi : i < 2) (hc : c = if i = 0 then 61 else 47) (h : ¬ okS sds t c = true) : stpsU sds k t (i + 1) = stpsU sds k t i := by
  unfold stpsU
  have : ([61, 47] : List Nat).take (i + 1) = ([61, 47] : List Nat).take i ++ [c] := by
    have : i = 0 ∨ i = 1 := by omega
    rcases this with e | e <;> subst e <;> subst hc <;> rfl
  rw [this, List.filter_append, List.filter_cons, if_neg h, List.filter_nil, List.append_nil]
theorem stpsU_new {sds : List (List Nat)} {k : Nat} {t : List Nat} {i c : Nat} (hi : i < 2) (hc : c = if i = 0 then 61 else 47) : valV (stepKV (stpsU sds k t i)) (Sum.inr (S [c])) = none := by
  have : i = 0 ∨ i = 1 := by omega
  rcases this with e | e
  · subst e
    rfl
  · subst e
    subst hc
    unfold stpsU
    show valV (stepKV ((([61] : List Nat).filter fun c => okS sds t c).map _)) (Sum.inr (S [47])) = none
    rw [List.filter_cons]
    split
    · show valV [(Sum.inr (S [61]), _)] _ = none
      rw [valV_neg (fun q => by have := (List.cons.inj (inr_S q)).1; omega)]
      rfl
    · rfl
theorem stpsU_len (sds : List (List Nat)) (k : Nat) (t : List Nat) (i : Nat) : (stepKV (stpsU sds k t i)).length ≤ 2 := by
  unfold stepKV stpsU
  rw [List.length_map, List.length_map]
  refine Nat.le_trans (List.length_filter_le _ _) ?_
  rw [List.length_take]
  exact Nat.min_le_right _ _
theorem take_map_succ {α β : Type} (f : α → β) {l : List α} {j : Nat} (h : j < l.length) : (l.take (j + 1)).map f = (l.take j).map f ++ [f l[j]] := by
  rw [List.take_succ_eq_append_getElem h, List.map_append]
  rfl
theorem ok_steps_from {f : Addr} {fd : FuncData} {uFEWEST_LETTERS uMOST_LETTERS uALPHABET uLONGEST_ROW uLEAST_WEIGHT uMOST_WEIGHT uLIKE uUNLIKE uSHORTEST_SEED uLONGEST_SEED uPICK uGAP uFEWEST_SEEDS uMOST_SEEDS uBAR uENDLESS : Value} {f_tail : Addr} {fd_tail : FuncData} {ffits : Addr} {fdfits : FuncData} (F : Fun K "_steps_from" "_steps_from" s_steps_from f fd) (B : Bl mg) (C : Cs mg uFEWEST_LETTERS uMOST_LETTERS uALPHABET uLONGEST_ROW uLEAST_WEIGHT uMOST_WEIGHT uLIKE uUNLIKE uSHORTEST_SEED uLONGEST_SEED uPICK uGAP uFEWEST_SEEDS uMOST_SEEDS uBAR uENDLESS) (D_tail : Dn P w K mg base "_tail" 1 ["likes", "keep"] (sp_tail K) f_tail fd_tail) (Dfits : Dn P w K mg base "fits" 2 ["seed", "likes", "place"] (spfits K) ffits fdfits) : FnOk P w K mg base CX0 3 f fd ["tail", "seeds"] (sp_steps_from K) := by
  refine F.ok sc_steps_from (fun vs H Q E h => ?_) (fun cdv A outer s H vs Q E hr h => ?_)
  · first
      | (obtain ⟨_, rfl, _⟩ := h; rfl)
      | (obtain ⟨_, _, rfl, _⟩ := h; rfl)
      | (obtain ⟨_, _, _, rfl, _⟩ := h; rfl)
      | (obtain ⟨_, _, _, _, rfl, _⟩ := h; rfl)
      | (obtain ⟨_, _, _, _, _, rfl, _⟩ := h; rfl)
      | (obtain ⟨_, _, _, _, _, _, rfl, _⟩ := h; rfl)
      | (obtain ⟨_, _, _, _, _, _, _, rfl, _⟩ := h; rfl)
      | (obtain ⟨_, _, _, _, _, _, _, _, rfl, _⟩ := h; rfl)
      | (obtain ⟨_, _, _, _, _, _, _, _, _, rfl, _⟩ := h; rfl)
      | (obtain ⟨_, _, _, _, _, _, _, _, _, _, rfl, _⟩ := h; rfl)
      | (obtain ⟨_, _, _, _, _, _, _, _, _, _, _, rfl, _⟩ := h; rfl)
      | (obtain ⟨_, _, _, _, _, _, _, _, _, _, _, _, rfl, _⟩ := h; rfl)
      | (obtain ⟨_, _, _, _, _, _, _, _, _, _, _, _, _, rfl, _⟩ := h; rfl)
      | (obtain ⟨_, _, _, _, _, _, _, _, _, _, _, _, _, _, rfl, _⟩ := h; rfl)
      | (obtain ⟨_, _, _, _, _, _, _, _, _, _, _, _, _, _, _, rfl, _⟩ := h; rfl)
      | (obtain ⟨_, _, _, _, _, _, _, _, _, _, _, _, _, _, _, _, rfl, _⟩ := h; rfl)
      | (obtain ⟨_, _, _, _, _, _, _, _, _, _, _, _, _, _, _, _, _, rfl, _⟩ := h; rfl)
  · obtain ⟨sp, sds, t, rfl, hsp, hsd, l1, l3, hLk, ht, q⟩ := h
    have hl : ∀ sd ∈ sds, (S sd).length ≤ sizeLine := fun sd hs => hp_sz (by rw [len_S]; have := (hsd sd hs).most; omega)
    refine ⟨_, 
  (pss_cons (ps_set (i := 2) sc_steps_from.nd rfl (.inl rfl) (pe_op op_sub (pe_callBK (cr_maxD rfl hr.units) (by rfl) B.m_max (by decide +kernel) (pa_cons (pe_lc (own := [("seed", 6)]) (g := gName 6) (tt := tYes) rfl sc_steps_from.nd (pi_list (pv 1)) (blkOk_by (N := n_steps_from) (sc := defScope s_steps_from) (by decide +kernel)) (fun _ _ _ _ _ => (pg_name (i := 6) sc_steps_from.nd rfl (.inl rfl))) (fun _ _ _ _ _ => pts_nil) (fun _ _ _ _ _ => (pe_callB call_len_str (by rfl) B.m_len PySem.boot_len (pa_cons (pv 6) pa_nil)))) pa_nil) (pk_cons pe_int pk_nil)) pe_int)) 
  (pss_cons (ps_set (i := 3) sc_steps_from.nd rfl (.inl rfl) pe_dnewK) 
  (pss_cons (ps_for PassesOwn.never rfl (pi_tup (pe_tup (pa_cons (pe_glob rfl C.c_LIKE.2 C.c_LIKE.1) (pa_cons (pe_glob rfl C.c_UNLIKE.2 C.c_UNLIKE.1) pa_nil)))) (pg_name (i := 4) sc_steps_from.nd rfl (.inl rfl)) 
    (pss_cons (ps_set (i := 5) sc_steps_from.nd rfl (.inr rfl) (pe_op op_add_str (pv 0) (pv 4))) 
    (pss_one (ps_if (pt_not (pt_val (pe_callB (cr_any rfl) (by rfl) B.m_any (by decide +kernel) (pa_cons (pe_lc (own := [("seed", 6)]) (g := gName 6) (tt := tYes) rfl sc_steps_from.nd (pi_list (pv 1)) (blkOk_by (N := n_steps_from) (sc := defScope s_steps_from) (by decide +kernel)) (fun _ _ _ _ _ => (pg_name (i := 6) sc_steps_from.nd rfl (.inl rfl))) (fun _ _ _ _ _ => pts_nil) (fun _ _ _ _ _ => (pe_call Dfits.ok hr (by rfl) Dfits.g Dfits.kp Dfits.b .nil pass0 (pa_cons (pv 6) (pa_cons (pv 5) (pa_cons (pe_op op_sub (pe_callB call_len_str (by rfl) B.m_len PySem.boot_len (pa_cons (pv 5) pa_nil)) (pe_callB call_len_str (by rfl) B.m_len PySem.boot_len (pa_cons (pv 6) pa_nil))) pa_nil)))))) pa_nil)))) 
      (pss_one (ps_dput (hu_of hr) (pv 3) (pv 4) (pe_call D_tail.ok (hr.mono (by decide)) (by rfl) D_tail.g D_tail.kp D_tail.b .nil pass0 (pa_cons (pv 5) (pa_cons (pv 2) pa_nil))) rfl)) pss_nil)))) 
  (pss_one (ps_ret (pv 3)))))), ?_⟩
    walk_at "vc"
    refine x_iListi hsp ?_
    intro D hD
    refine lc_list (K := K) (a := sp) (xs := sds.map strV) (fun j H' => Same H H' ∧ H' D = some (.lst ((sds.take j).map fun sd => V.int ((sd.length : Nat) : Int)))) ⟨same_upd hD, upd_same⟩ (fun j H' _ h => h.1.seq hsp) (fun j x H' hx h => ?_) (fun H1 h => ?_)
    · have hj : j < sds.length := by
        have := (List.getElem?_eq_some_iff.mp hx).1
        rw [List.length_map] at this
        exact this
      have ex : x = V.str (S sds[j]) := by
        rw [List.getElem?_map, List.getElem?_eq_getElem hj] at hx
        exact (Option.some.inj hx).symm
      subst ex
      have hlj := hl _ (List.getElem_mem hj)
      walk_at "vc"
      refine ⟨rfl, ?_⟩
      walk_at "vc"
      refine ⟨_, h.2, by rw [List.length_map, List.length_take]; exact Nat.lt_of_le_of_lt (by omega : _ ≤ 1000) (by decide), h.1.putN hD, ?_⟩
      rw [upd_same, take_map_succ _ hj, len_S]
    · obtain ⟨sm1, hD1⟩ := h
      rw [List.length_map, List.take_length] at hD1
      walk_at "vc"
      refine ⟨D, (sds.map List.length).map fun n => ((n : Nat) : Int), 1, rfl, rfl, SqL.of (by rw [hD1, List.map_map, List.map_map]; rfl), fun z => ?_, fun m hm hge => ?_⟩
      · have := congrArg List.length z
        rw [List.length_map, List.length_map] at this
        have : sds.length = 0 := this
        omega
      have em := mxL_of hm hge
      subst em
      have h1 : 1 ≤ mxL (sds.map List.length) := by
        cases sds with
        | nil => simp at l1
        | cons sd r => exact Nat.le_trans (hsd sd List.mem_cons_self).one (mxL_ge (List.mem_map.mpr ⟨sd, List.mem_cons_self, rfl⟩))
      have hk7 := kM_le hsd
      have ek : ((mxL (sds.map List.length) : Nat) : Int) - 1 = ((kM sds : Nat) : Int) := by
        show _ = ((mxL (sds.map List.length) - 1 : Nat) : Int)
        omega
      walk_at "vc"
      rw [ek]
      intro d hd
      have nd : H d = none := sm1.free hd
      have sm2 : Same H (upd H1 d (.dK [])) := sm1.trans (same_upd hd)
      have hd2 : upd H1 d (.dK []) d = some (.dK []) := upd_same
      generalize upd H1 d (.dK []) = H2 at sm2 hd2
      walk_at "vc"
      refine ⟨by decide, fun tp htp => ?_⟩
      have sm3 := sm2.trans (same_upd (o := .tup [.str (Str.ofString "="), .str (Str.ofString "/")]) htp)
      have hd3 : upd H2 tp (.tup [.str (Str.ofString "="), .str (Str.ofString "/")]) d = _ := (upd_ne (ne_of_none hd2 htp)).trans hd2
      have htp3 : upd H2 tp (.tup [.str (Str.ofString "="), .str (Str.ofString "/")]) tp = _ := upd_same
      generalize upd H2 tp (.tup [.str (Str.ofString "="), .str (Str.ofString "/")]) = H3 at sm3 hd3 htp3
      refine ⟨tp, rfl, ⟨_, SqT.of htp3⟩, ?_⟩
      refine for_it (walk_tup (xs := [.str (Str.ofString "="), .str (Str.ofString "/")])) (fun i σ H' => (∃ y4 y5 y6, σ = [some (.str (S t)), some (.ref sp), some (.int ((kM sds : Nat) : Int)), some (.ref d), y4, y5, y6]) ∧ Same H H' ∧ H' tp = some (.tup [.str (Str.ofString "="), .str (Str.ofString "/")]) ∧ H' d = some (.dK (stepKV (stpsU sds (kM sds) t i)))) ⟨⟨_, _, _, rfl⟩, sm3, htp3, hd3⟩ (fun i σ H' _ h => SqT.of h.2.2.1) ?_ ?_
      · rintro i x σ H4 H4' hi ⟨⟨y4, y5, y6, rfl⟩, sm4, htp4, hd4⟩ ⟨rfl, hx⟩
        have hi2 : i < 2 := hi
        obtain ⟨c, ec, ex⟩ : ∃ c : Nat, (c = if i = 0 then 61 else 47) ∧ x = .str (S [c]) := by
          have : i = 0 ∨ i = 1 := by omega
          rcases this with e | e
          · subst e; exact ⟨61, rfl, (Option.some.inj hx).symm⟩
          · subst e; exact ⟨47, rfl, (Option.some.inj hx).symm⟩
        subst ex
        have hcc : c = 61 ∨ c = 47 := by rw [ec]; split <;> simp
        have hlk' : Lk (t ++ [c]) := hLk.app fun d hd => by rw [List.mem_singleton.mp hd]; exact hcc
        have hyl : (t ++ [c]).length = t.length + 1 := by rw [List.length_append]; rfl
        have lS : (S (t ++ [c])).length ≤ sizeLine := hp_sz (by rw [len_S]; omega)
        walk_at "vc"
        refine ⟨S t, S [c], rfl, rfl, hp_sz (by rw [len_S, len_S]; show t.length + 1 ≤ _; omega), ?_⟩
        rw [S_app]
        walk_at "vc"
        refine x_iListi (sm4.seq hsp) ?_
        intro E hE
        refine lc_list (K := K) (a := sp) (xs := sds.map strV) (fun j H' => Same H4' H' ∧ H' E = some (.lst ((sds.take j).map fun sd => V.bl (fitsB sd (t ++ [c]) (((t ++ [c]).length : Int) - (sd.length : Int)))))) ⟨same_upd hE, upd_same⟩ (fun j H' _ h => (sm4.trans h.1).seq hsp) (fun j x H' hx h => ?_) (fun H5 h => ?_)
        · have hj : j < sds.length := by
            have := (List.getElem?_eq_some_iff.mp hx).1
            rw [List.length_map] at this
            exact this
          have ex : x = V.str (S sds[j]) := by
            rw [List.getElem?_map, List.getElem?_eq_getElem hj] at hx
            exact (Option.some.inj hx).symm
          subst ex
          have hlj := hl _ (List.getElem_mem hj)
          walk_at "vc"
          refine ⟨rfl, ?_⟩
          walk_at "vc"
          have ep : ((S (t ++ [c])).length : Int) - ((S sds[j]).length : Int) = ((t ++ [c]).length : Int) - (sds[j].length : Int) := by rw [len_S, len_S]
          rw [ep]
          refine ⟨sds[j], t ++ [c], _, rfl, hsd _ (List.getElem_mem hj), hlk', by omega, fun H6 sm6 => ?_⟩
          refine ⟨_, sm6 _ _ h.2, by rw [List.length_map, List.length_take]; exact Nat.lt_of_le_of_lt (by omega : _ ≤ 1000) (by decide), (h.1.trans sm6).putN hE, ?_⟩
          rw [upd_same, take_map_succ _ hj]
        · obtain ⟨sm5, hE5⟩ := h
          rw [List.length_map, List.take_length] at hE5
          walk_at "vc"
          refine ⟨E, sds.map fun sd => fitsB sd (t ++ [c]) (((t ++ [c]).length : Int) - (sd.length : Int)), rfl, SqL.of (by rw [hE5, List.map_map]; rfl), ?_⟩
          have ea : ((sds.map fun sd => fitsB sd (t ++ [c]) (((t ++ [c]).length : Int) - (sd.length : Int))).any id) = !okS sds t c := by
            unfold okS
            rw [Bool.not_not, List.any_map]
            rfl
          rw [ea]
          have hd5 := sm5 _ _ hd4
          walk_at "vc"
          rw [Bool.not_not]
          refine ite2 (fun e => ?_) (fun e => ?_)
          · walk_at "vc"
            refine ⟨t ++ [c], kM sds, rfl, by omega, by omega, ?_⟩
            walk_at "vc"
            refine x_putS hd5 (Nat.lt_of_le_of_lt (stpsU_len sds (kM sds) t i) (by decide)) ?_
            rw [putK_new _ (stpsU_new hi2 ec)]
            refine ⟨⟨_, _, _, rfl⟩, (sm4.trans sm5).putN nd, ?_, ?_⟩
            · rw [upd_ne (ne_of (sm5 _ _ htp4) hd5 (fun z => nomatch z))]
              exact sm5 _ _ htp4
            · rw [upd_same, stpsU_yes hi2 ec e]
              unfold stepKV
              rw [List.map_append]
              rfl
          · walk_at "vc"
            refine ⟨⟨_, _, _, rfl⟩, sm4.trans sm5, sm5 _ _ htp4, ?_⟩
            rw [stpsU_no hi2 ec e]
            exact hd5
      · rintro σ H4 ⟨⟨y4, y5, y6, rfl⟩, sm4, htp4, hd4⟩
        walk_at "vc"
        exact q d H4 sm4 nd hd4


theorem map_dropLast' {α β : Type} (f : α → β) (l : List α) : (l.map f).dropLast = l.dropLast.map f := by rw [List.map_dropLast]
theorem getLast_strV {w : List (List Nat)} {t : List Nat} (h : w.getLast? = some t) : (w.map strV)[(w.map strV).length - 1]? = some (V.str (S t)) := by
  rw [← List.getLast?_eq_getElem?, List.getLast?_map, h]
  rfl
theorem ok_steps {f : Addr} {fd : FuncData} {f_steps_from : Addr} {fd_steps_from : FuncData} (F : Fun K "_steps" "_steps" s_steps f fd) (B : Bl mg) (D_steps_from : Dn P w K mg base "_steps_from" 3 ["tail", "seeds"] (sp_steps_from K) f_steps_from fd_steps_from) : FnOk P w K mg base CX0 4 f fd ["seeds"] (sp_steps K) := by
  refine F.ok sc_steps (fun vs H Q E h => ?_) (fun cdv A outer s H vs Q E hr h => ?_)
  · first
      | (obtain ⟨_, rfl, _⟩ := h; rfl)
      | (obtain ⟨_, _, rfl, _⟩ := h; rfl)
      | (obtain ⟨_, _, _, rfl, _⟩ := h; rfl)
      | (obtain ⟨_, _, _, _, rfl, _⟩ := h; rfl)
      | (obtain ⟨_, _, _, _, _, rfl, _⟩ := h; rfl)
      | (obtain ⟨_, _, _, _, _, _, rfl, _⟩ := h; rfl)
      | (obtain ⟨_, _, _, _, _, _, _, rfl, _⟩ := h; rfl)
      | (obtain ⟨_, _, _, _, _, _, _, _, rfl, _⟩ := h; rfl)
      | (obtain ⟨_, _, _, _, _, _, _, _, _, rfl, _⟩ := h; rfl)
      | (obtain ⟨_, _, _, _, _, _, _, _, _, _, rfl, _⟩ := h; rfl)
      | (obtain ⟨_, _, _, _, _, _, _, _, _, _, _, rfl, _⟩ := h; rfl)
      | (obtain ⟨_, _, _, _, _, _, _, _, _, _, _, _, rfl, _⟩ := h; rfl)
      | (obtain ⟨_, _, _, _, _, _, _, _, _, _, _, _, _, rfl, _⟩ := h; rfl)
      | (obtain ⟨_, _, _, _, _, _, _, _, _, _, _, _, _, _, rfl, _⟩ := h; rfl)
      | (obtain ⟨_, _, _, _, _, _, _, _, _, _, _, _, _, _, _, rfl, _⟩ := h; rfl)
      | (obtain ⟨_, _, _, _, _, _, _, _, _, _, _, _, _, _, _, _, rfl, _⟩ := h; rfl)
      | (obtain ⟨_, _, _, _, _, _, _, _, _, _, _, _, _, _, _, _, _, rfl, _⟩ := h; rfl)
  · obtain ⟨sp, sds, rfl, hsp, hsd, l1, l3, q⟩ := h
    have hk7 := kM_le hsd
    refine ⟨_, 
  (pss_cons (ps_set (i := 1) sc_steps.nd rfl (.inl rfl) pe_dnewK) 
  (pss_cons (ps_set (i := 2) sc_steps.nd rfl (.inl rfl) (pe_lst (pa_cons pe_str pa_nil))) 
  (pss_cons (ps_while PassesOwn.never (pt_truth (pv 2) (by intro _; rfl)) 
    (pss_cons (ps_set (i := 3) sc_steps.nd rfl (.inl rfl) (pe_bm0 PySem.F.plainAttrs_list PySem.F.slot_list_pop PySem.F.type_list_pop mt_pop (pv 2))) 
    (pss_one (ps_if (pt_cmp (pc_dnotin (hu_of hr) (pv 3) (pv 1))) 
      (pss_cons (ps_dput (hu_of hr) (pv 1) (pv 3) (pe_call D_steps_from.ok hr (by rfl) D_steps_from.g D_steps_from.kp D_steps_from.b .nil pass0 (pa_cons (pv 3) (pa_cons (pv 0) pa_nil))) rfl) 
      (pss_one (ps_expr (pe_bm PySem.F.plainAttrs_list PySem.F.slot_list_extend PySem.F.type_list_extend mt_extend (pv 2) (pa_cons (pe_listVals rfl (pe_dget (hu_of hr) (pv 1) (pv 3) (fun _ _ => rfl)) (by rfl) B.m_list (by decide +kernel)) pa_nil))))) pss_nil)))) 
  (pss_one (ps_ret (pv 1)))))), ?_⟩
    walk_at "vc"
    intro d hd
    have sm1 : Same H (upd H d (.dK [])) := same_upd hd
    have hd1 : upd H d (.dK []) d = some (.dK []) := upd_same
    generalize upd H d (.dK []) = H1 at sm1 hd1
    walk_at "vc"
    refine ⟨by decide, fun wp hwp => ?_⟩
    have nwp : H wp = none := sm1.free hwp
    have sm2 : Same H (upd H1 wp (.lst [.str (Str.ofString "")])) := sm1.trans (same_upd hwp)
    have hwp2 : upd H1 wp (.lst [.str (Str.ofString "")]) wp = some (.lst (([[]] : List (List Nat)).map strV)) := upd_same
    have hd2 : upd H1 wp (.lst [.str (Str.ofString "")]) d = some (.dK (stKV [] [])) := (upd_ne (ne_of_none hd1 hwp)).trans hd1
    generalize upd H1 wp (.lst [.str (Str.ofString "")]) = H2 at sm2 hwp2 hd2
    walk_at "vc"
    refine ⟨fun m σ H' => ∃ (ks w : List (List Nat)) (ds : List Addr) (y : Option V) (n : Nat), m = msr ks w ∧ σ = [some (.ref sp), some (.ref d), some (.ref wp), y] ∧ Same H H' ∧ StAt H' d sds (kM sds) ks ds ∧ H' d = some (.dK (stKV ks ds)) ∧ H' wp = some (.lst (w.map strV)) ∧ StpI sds (kM sds) ks w ∧ msr ks w < n ∧ msr ks w ≤ 513 ∧ stp sds (kM sds) n ks w = keys sds (kM sds),
      ⟨_, [], [[]], [], none, 1000, rfl, rfl, sm2, ⟨rfl, .inl hd2, fun i t d h => by simp at h⟩, hd2, hwp2, StpI.start _ _, by decide, by decide, rfl⟩, ?_⟩
    rintro m σ H3 ⟨ks, w, ds, y, n, rfl, rfl, sm3, hSt, hd3, hwp3, hI, hm, hmm, hstp⟩
    obtain ⟨n, rfl⟩ : ∃ n', n = n' + 1 := ⟨n - 1, by omega⟩
    walk_at "vc"
    refine ⟨!(w.map strV).isEmpty, .inl ⟨_, SqL.of hwp3, rfl⟩, ?_⟩
    cases hl : w.getLast? with
    | none =>
      have ew : w = [] := List.getLast?_eq_none_iff.mp hl
      subst ew
      have ek : ks = keys sds (kM sds) := by
        rw [← hstp]
        rfl
      walk_at "vc"
      show if (!true) = true then _ else _
      walk_at "vc"
      rw [ek] at hSt hd3
      exact q d ds H3 sm3 hd hd3 hSt
    | some t =>
      have ew := snoc_of hl
      have hne : (!(w.map strV).isEmpty) = true := by
        rw [ew]
        simp
      rw [hne]
      have ht0 : t ∈ w := by rw [ew]; exact List.mem_append_right _ (List.mem_singleton.mpr rfl)
      have hTl := hI.wtl t ht0
      have hwl : w.length ≤ 513 := by
        unfold msr at hmm
        omega
      unfold stp at hstp
      rw [hl] at hstp
      have hstp : (if t ∈ ks then stp sds (kM sds) n ks w.dropLast else stp sds (kM sds) n (ks ++ [t]) (w.dropLast ++ goals sds (kM sds) t)) = keys sds (kM sds) := hstp
      have hdl : (w.map strV).dropLast = w.dropLast.map strV := by rw [List.map_dropLast]
      have nwd : wp ≠ d := ne_of hwp3 hd3 (fun z => nomatch z)
      walk_at "vc"
      by_cases ht : t ∈ ks
      · rw [if_pos ht] at hstp
        refine ⟨fun σ' H' => σ' = [some (.ref sp), some (.ref d), some (.ref wp), some (.str (S t))] ∧ H' = upd H3 wp (.lst (w.dropLast.map strV)), fun σ' H' h => ?_, ?_⟩
        · obtain ⟨rfl, rfl⟩ := h
          have hlt := msr_old (ks := ks) hl
          have sm4 : Same H (upd H3 wp (.lst (w.dropLast.map strV))) := sm3.putN nwp
          refine ⟨_, hlt, ks, w.dropLast, ds, _, n, rfl, rfl, sm4, ⟨hSt.len, .inl ((upd_ne nwd.symm).trans hd3), fun i u e h1 h2 => ?_⟩, (upd_ne nwd.symm).trans hd3, upd_same, hI.old hl ht, by omega, by omega, hstp⟩
          have := hSt.each i u e h1 h2
          rw [upd_ne (ne_of this hwp3 (fun z => nomatch z))]
          exact this
        · walk_at "vc"
          refine ⟨.inl ⟨rfl, _, SqL.of hwp3⟩, ?_⟩
          refine ⟨wp, w.map strV, V.str (S t), rfl, rfl, hwp3, getLast_strV hl, ?_⟩
          rw [hdl]
          walk_at "vc"
          refine x_askS (.inl ((upd_ne nwd.symm).trans hd3)) ?_
          obtain ⟨i, e, h1, h2, h3⟩ := stKV_in hSt.len ht
          rw [h3]
          refine ⟨false, rfl, ?_⟩
          walk_at "vc"
          exact ⟨rfl, rfl⟩
      · rw [if_neg ht] at hstp
        have hlt := msr_new hk7 hI hl ht
        have hI2 := hI.new hl ht
        have htl7 := hTl.len
        have hkl := tails_le hk7 hI2.nodup hI2.tl
        rw [List.length_append] at hkl
        have hgl := goals_len sds (kM sds) t
        refine ⟨fun σ' H' => ∃ e : Addr, σ' = [some (.ref sp), some (.ref d), some (.ref wp), some (.str (S t))] ∧ Same H H' ∧ H' d = some (.dK (stKV (ks ++ [t]) (ds ++ [e]))) ∧ StAt H' d sds (kM sds) (ks ++ [t]) (ds ++ [e]) ∧ H' wp = some (.lst ((w.dropLast ++ goals sds (kM sds) t).map strV)), fun σ' H' h => ?_, ?_⟩
        · obtain ⟨e, rfl, sm4, hd4, hSt4, hwp4⟩ := h
          exact ⟨_, hlt, ks ++ [t], w.dropLast ++ goals sds (kM sds) t, ds ++ [e], _, n, rfl, rfl, sm4, hSt4, hd4, hwp4, hI2, by omega, by omega, hstp⟩
        · walk_at "vc"
          refine ⟨.inl ⟨rfl, _, SqL.of hwp3⟩, ?_⟩
          refine ⟨wp, w.map strV, V.str (S t), rfl, rfl, hwp3, getLast_strV hl, ?_⟩
          rw [hdl]
          have sm4 : Same H (upd H3 wp (.lst (w.dropLast.map strV))) := sm3.putN nwp
          have hd4 : upd H3 wp (.lst (w.dropLast.map strV)) d = _ := (upd_ne nwd.symm).trans hd3
          have hwp4 : upd H3 wp (.lst (w.dropLast.map strV)) wp = some (.lst (w.dropLast.map strV)) := upd_same
          have each4 : ∀ (i : Nat) u e, ks[i]? = some u → ds[i]? = some e → upd H3 wp (.lst (w.dropLast.map strV)) e = some (.dK (stepKV (stps sds (kM sds) u))) := fun i u e h1 h2 => by
            have := hSt.each i u e h1 h2
            rw [upd_ne (ne_of this hwp3 (fun z => nomatch z))]
            exact this
          generalize upd H3 wp (.lst (w.dropLast.map strV)) = H4 at sm4 hd4 hwp4 each4
          walk_at "vc"
          refine x_askS (.inl hd4) ?_
          rw [stKV_out ht]
          refine ⟨true, rfl, ?_⟩
          walk_at "vc"
          refine ⟨sp, sds, t, rfl, sm4.seq hsp, hsd, l1, l3, hTl.lk, by omega, fun e H5 sm5 ne5 he5 => ?_⟩
          have hd5 := sm5 _ _ hd4
          have hwp5 := sm5 _ _ hwp4
          have ned : e ≠ d := fun z => by rw [z, hd4] at ne5; cases ne5
          walk_at "vc"
          refine x_putS hd5 (by rw [stKV_len hSt.len]; exact Nat.lt_of_le_of_lt (by omega : _ ≤ 1000) (by decide)) ?_
          rw [putK_new _ (stKV_out ht), ← stKV_snoc hSt.len]
          have sm6 : Same H (upd H5 d (.dK (stKV (ks ++ [t]) (ds ++ [e])))) := (sm4.trans sm5).putN hd
          have hd6 : upd H5 d (.dK (stKV (ks ++ [t]) (ds ++ [e]))) d = some (.dK (stKV (ks ++ [t]) (ds ++ [e]))) := upd_same
          have hwp6 : upd H5 d (.dK (stKV (ks ++ [t]) (ds ++ [e]))) wp = some (.lst (w.dropLast.map strV)) := (upd_ne nwd).trans hwp5
          have he6 : upd H5 d (.dK (stKV (ks ++ [t]) (ds ++ [e]))) e = some (.dK (stepKV (stps sds (kM sds) t))) := (upd_ne ned).trans he5
          have hlen' : (ds ++ [e]).length = (ks ++ [t]).length := by rw [List.length_append, List.length_append, hSt.len]; rfl
          have each6 : ∀ (i : Nat) u e', (ks ++ [t])[i]? = some u → (ds ++ [e])[i]? = some e' → upd H5 d (.dK (stKV (ks ++ [t]) (ds ++ [e]))) e' = some (.dK (stepKV (stps sds (kM sds) u))) := fun i u e' h1 h2 => by
            by_cases hi : i < ks.length
            · rw [List.getElem?_append_left hi] at h1
              rw [List.getElem?_append_left (by rw [hSt.len]; exact hi)] at h2
              have h4 := each4 i u e' h1 h2
              have h5 := sm5 _ _ h4
              rw [upd_ne (fun z => ?_)]
              · exact h5
              · rw [z] at h4
                have h6 := hSt.each i u e' h1 h2
                rw [z, hd3] at h6
                exact step_ne h1 h2 (HO.dK.inj (Option.some.inj h6)).symm
            · have hi2 := (List.getElem?_eq_some_iff.mp h1).1
              rw [List.length_append] at hi2
              have hi3 : i = ks.length := by simp only [List.length_cons, List.length_nil] at hi2; omega
              subst hi3
              rw [List.getElem?_append_right (Nat.le_refl _), Nat.sub_self] at h1
              rw [List.getElem?_append_right (by rw [hSt.len]; exact Nat.le_refl _), hSt.len, Nat.sub_self] at h2
              cases h1
              cases h2
              exact he6
          generalize upd H5 d (.dK (stKV (ks ++ [t]) (ds ++ [e]))) = H6 at sm6 hd6 hwp6 he6 each6
          walk_at "vc"
          refine ⟨.inl ⟨rfl, _, SqL.of hwp6⟩, ?_⟩
          walk_at "vc"
          obtain ⟨i0, e0, h1, h2, h3⟩ := stKV_in (t := t) hlen' (List.mem_append_right _ (List.mem_singleton.mpr rfl))
          refine x_getS (.inl hd6) h3 ?_
          refine x_valsD (each6 i0 t e0 h1 h2) fun vp hvp => ?_
          rw [stepKV_vals]
          have nvw : vp ≠ wp := fun z => by rw [z, hwp6] at hvp; cases hvp
          walk_at "vc"
          refine ⟨wp, vp, w.dropLast.map strV, (goals sds (kM sds) t).map strV, rfl, rfl, (upd_ne nvw.symm).trans hwp6, upd_same, ?_, ?_⟩
          · rw [List.length_map, List.length_map, List.length_dropLast]
            exact hp_sz (by omega)
          · have nvp : H vp = none := sm6.free hvp
            refine ⟨e, rfl, ?_, ?_, ⟨hlen', .inl ?_, fun i u e' h1 h2 => ?_⟩, ?_⟩
            · exact (sm6.putN nvp).putN nwp
            · rw [upd_ne nwd.symm, upd_ne (ne_of_none hd6 hvp)]
              exact hd6
            · rw [upd_ne nwd.symm, upd_ne (ne_of_none hd6 hvp)]
              exact hd6
            · have h6 := each6 i u e' h1 h2
              rw [upd_ne (ne_of h6 hwp6 (fun z => nomatch z)), upd_ne (ne_of_none h6 hvp)]
              exact h6
            · rw [upd_same, List.map_append]


/-- the dict of the tails come by, each with its place -/
def viKV (vis : List (List Nat)) : List (Key × V) := vis.zipIdx.map fun p => (Sum.inr (S p.1), V.int ((p.2 : Nat) : Int))
theorem viKV_len (vis : List (List Nat)) : (viKV vis).length = vis.length := by unfold viKV; rw [List.length_map, List.length_zipIdx]
theorem viKV_snoc (vis : List (List Nat)) (t : List Nat) : viKV (vis ++ [t]) = viKV vis ++ [(Sum.inr (S t), V.int ((vis.length : Nat) : Int))] := by
  unfold viKV
  rw [List.zipIdx_append, List.map_append]
  simp
theorem viKV_aux {t : List Nat} : ∀ (vis : List (List Nat)) (n : Nat), valV ((vis.zipIdx n).map fun p => ((Sum.inr (S p.1) : Key), V.int ((p.2 : Nat) : Int))) (Sum.inr (S t)) = if t ∈ vis then some (V.int ((n + vis.idxOf t : Nat) : Int)) else none
  | [], n => rfl
  | u :: vis, n => by
    rw [List.zipIdx_cons, List.map_cons]
    by_cases h : u = t
    · subst h
      rw [valV_pos rfl, if_pos List.mem_cons_self, List.idxOf_cons_self]
      rfl
    · rw [valV_neg (fun q => h (inr_S q)), viKV_aux vis (n + 1)]
      by_cases hm : t ∈ vis
      · have e : (u :: vis).idxOf t = vis.idxOf t + 1 := by
          rw [List.idxOf_cons, show (u == t) = false by simpa using h]
          rfl
        rw [if_pos hm, if_pos (List.mem_cons_of_mem _ hm), e]
        congr 2
        omega
      · rw [if_neg hm, if_neg (fun q => by
          rcases List.mem_cons.mp q with q | q
          · exact h q.symm
          · exact hm q)]
theorem rgo_cons (k : Nat) (vis : List (List Nat)) (t don : List Nat) (c : Nat) (z : List Nat) : rgo k vis t don (c :: z) = if tlK k (t ++ [c]) ∈ vis then (don ++ [c]).drop (vis.idxOf (tlK k (t ++ [c]))) else rgo k (vis ++ [tlK k (t ++ [c])]) (tlK k (t ++ [c])) (don ++ [c]) z := rfl
theorem viKV_get (vis : List (List Nat)) (t : List Nat) : valV (viKV vis) (Sum.inr (S t)) = if t ∈ vis then some (V.int ((vis.idxOf t : Nat) : Int)) else none := by
  have := viKV_aux (t := t) vis 0
  rw [Nat.zero_add] at this
  exact this
theorem ok_ring {f : Addr} {fd : FuncData} (F : Fun K "_ring" "_ring" s_ring f fd) (B : Bl mg) : FnOk P w K mg base CX0 1 f fd ["steps", "tail", "likes"] (sp_ring K) := by
  refine F.ok sc_ring (fun vs H Q E h => ?_) (fun cdv A outer s H vs Q E hr h => ?_)
  · first
      | (obtain ⟨_, rfl, _⟩ := h; rfl)
      | (obtain ⟨_, _, rfl, _⟩ := h; rfl)
      | (obtain ⟨_, _, _, rfl, _⟩ := h; rfl)
      | (obtain ⟨_, _, _, _, rfl, _⟩ := h; rfl)
      | (obtain ⟨_, _, _, _, _, rfl, _⟩ := h; rfl)
      | (obtain ⟨_, _, _, _, _, _, rfl, _⟩ := h; rfl)
      | (obtain ⟨_, _, _, _, _, _, _, rfl, _⟩ := h; rfl)
      | (obtain ⟨_, _, _, _, _, _, _, _, rfl, _⟩ := h; rfl)
      | (obtain ⟨_, _, _, _, _, _, _, _, _, rfl, _⟩ := h; rfl)
      | (obtain ⟨_, _, _, _, _, _, _, _, _, _, rfl, _⟩ := h; rfl)
      | (obtain ⟨_, _, _, _, _, _, _, _, _, _, _, rfl, _⟩ := h; rfl)
      | (obtain ⟨_, _, _, _, _, _, _, _, _, _, _, _, rfl, _⟩ := h; rfl)
      | (obtain ⟨_, _, _, _, _, _, _, _, _, _, _, _, _, rfl, _⟩ := h; rfl)
      | (obtain ⟨_, _, _, _, _, _, _, _, _, _, _, _, _, _, rfl, _⟩ := h; rfl)
      | (obtain ⟨_, _, _, _, _, _, _, _, _, _, _, _, _, _, _, rfl, _⟩ := h; rfl)
      | (obtain ⟨_, _, _, _, _, _, _, _, _, _, _, _, _, _, _, _, rfl, _⟩ := h; rfl)
      | (obtain ⟨_, _, _, _, _, _, _, _, _, _, _, _, _, _, _, _, _, rfl, _⟩ := h; rfl)
  · obtain ⟨sp, sds, k, ks, ds, t0, z0, rfl, hSt, hKI, ht0, hz0, hr0, hl0, q⟩ := h
    have lz : (S z0).length ≤ sizeLine := hp_sz (by rw [len_S]; omega)
    have hk255 := hKI.len
    refine ⟨_, 
  (pss_cons (ps_set (i := 3) sc_ring.nd rfl (.inl rfl) (pe_disp (pps_cons (pv 1) pe_int pps_nil) (by rfl) (by rfl) (fun z => by cases z) (by decide))) 
  (pss_cons (ps_for PassesOwn.never rfl (pi_enumS (by rfl) B.m_enumerate (pa_cons (pv 2) pa_nil)) (pg_tup rfl (pgs_cons (pg_name (i := 4) sc_ring.nd rfl (.inl rfl)) (pgs_cons (pg_name (i := 5) sc_ring.nd rfl (.inl rfl)) pgs_nil))) 
    (pss_cons (ps_set (i := 1) sc_ring.nd rfl (.inl rfl) (pe_dget (hu_of hr) (pe_dget (hu_of hr) (pv 0) (pv 1) (fun _ _ => rfl)) (pv 5) (fun _ _ => rfl))) 
    (pss_cons (ps_if (pt_cmp (pc_din (hu_of hr) (pv 1) (pv 3))) 
      (pss_one (ps_ret (pe_slice sl_str (pv 2) (po_some (pe_dget (hu_of hr) (pv 3) (pv 1) (fun _ _ => rfl))) (po_some (pe_op op_add (pv 4) pe_int))))) pss_nil) 
    (pss_one (ps_dput (hu_of hr) (pv 3) (pv 1) (pe_op op_add (pv 4) pe_int) rfl))))) 
  (pss_one (ps_ret pe_str)))), ?_⟩
    walk_at "vc"
    intro vp hvp
    show tVar 1 _ _ _
    walk_at "vc"
    refine ⟨upd_same, [(Sum.inr (S t0), .int 0)], rfl, (show 1 ≤ 15 by decide), ?_⟩
    walk_at "vc"
    have sm1 : Same H (upd (upd H vp (.dK [])) vp (.dK (mergeK [] [(Sum.inr (S t0), .int 0)]))) := by rw [upd_upd]; exact same_upd hvp
    have hvp1 : upd (upd H vp (.dK [])) vp (.dK (mergeK [] [(Sum.inr (S t0), .int 0)])) vp = some (.dK (viKV [t0])) := upd_same
    generalize upd (upd H vp (.dK [])) vp (.dK (mergeK [] [(Sum.inr (S t0), .int 0)])) = H1 at sm1 hvp1
    walk_at "vc"
    refine for_it (walk_enumS (x := S z0)) (fun i σ H' => ∃ (vis : List (List Nat)) (t : List Nat) (y4 y5 : Option V), σ = [some (.ref sp), some (.str (S t)), some (.str (S z0)), some (.ref vp), y4, y5] ∧ Same H H' ∧ H' vp = some (.dK (viKV vis)) ∧ RgI sds k ks t0 vis t (z0.take i) ∧ rgo k vis t (z0.take i) (z0.drop i) = rgo k [t0] t0 [] z0)
      ⟨[t0], t0, none, none, rfl, sm1, hvp1, by rw [List.take_zero]; exact RgI.start ht0, by rw [List.take_zero, List.drop_zero]⟩ (fun _ _ _ _ _ => trivial) ?_ ?_
    · rintro i x σ H2 H3 hi ⟨vis, t, y4, y5, rfl, sm2, hvp2, hR, hg⟩ ⟨T, c, rfl, hTn, hc, rfl⟩
      have hi' : i < z0.length := hi
      have ec : z0[i] = c := by
        have : z0[i]? = some c := by simpa [S] using hc
        rw [List.getElem?_eq_getElem hi'] at this
        exact Option.some.inj this
      have hcc : c = 61 ∨ c = 47 := by rw [← ec]; exact hz0 _ (List.getElem_mem hi')
      have ed : z0.drop i = c :: z0.drop (i + 1) := by rw [List.drop_eq_getElem_cons hi', ec]
      have et : z0.take (i + 1) = z0.take i ++ [c] := by rw [List.take_succ_eq_append_getElem hi', ec]
      have hok : okS sds t c = true := by
        have h2 := hr0
        rw [← List.take_append_drop i z0, run_app, hR.here, ed] at h2
        have h3 : (run sds k t (c :: z0.drop (i + 1))).isSome = true := h2
        rw [run_cons] at h3
        refine Classical.byContradiction fun e => ?_
        rw [if_neg e] at h3
        simp at h3
      have htk : t ∈ ks := hR.mem t hR.last
      have sm3 : Same H2 (upd H2 T (.tup [.int (i : Nat), .str ⟨#[c]⟩])) := same_upd hTn
      have hTT : upd H2 T (.tup [.int (i : Nat), .str ⟨#[c]⟩]) T = some (.tup [.int (i : Nat), .str ⟨#[c]⟩]) := upd_same
      have hvp3 := sm3 _ _ hvp2
      have smA := sm2.trans sm3
      generalize upd H2 T (.tup [.int (i : Nat), .str ⟨#[c]⟩]) = H3 at sm3 hTT hvp3 smA
      have hSt3 := hSt.same smA
      obtain ⟨d, hd1, hd2⟩ := hSt3.get htk
      refine x_gTup (SqT.of hTT) rfl ?_
      walk_at "vc"
      refine x_getS hSt3.at_ hd1 ?_
      walk_at "vc"
      refine x_getS (z := S [c]) (.inl hd2) (stepKV_go hcc hok) ?_
      walk_at "vc"
      refine x_askS (.inl hvp3) ?_
      rw [viKV_get]
      rw [ed] at hg
      rw [rgo_cons] at hg
      by_cases hm : tlK k (t ++ [c]) ∈ vis
      · rw [if_pos hm] at hg
        rw [if_pos hm]
        refine ⟨true, rfl, ?_⟩
        walk_at "vc"
        refine x_getS (.inl hvp3) (by rw [viKV_get, if_pos hm]) ?_
        walk_at "vc"
        refine x_slS lz ?_
        have e1 : ((i : Nat) : Int) + 1 = ((i + 1 : Nat) : Int) := by omega
        rw [e1, cutS_cut _ _ (i + 1) (by omega), ← List.drop_take, et, hg]
        exact q _ smA
      · rw [if_neg hm] at hg
        rw [if_neg hm]
        refine ⟨false, rfl, ?_⟩
        walk_at "vc"
        have hR2 := hR.step hKI hcc hok hm
        have hvl := hR.len
        rw [List.length_take, Nat.min_eq_left (Nat.le_of_lt hi')] at hvl
        refine x_putS hvp3 (by rw [viKV_len, hvl]; exact Nat.lt_of_le_of_lt (by omega : _ ≤ 1001) (by decide)) ?_
        have e1 : ((i : Nat) : Int) + 1 = ((vis.length : Nat) : Int) := by omega
        rw [putK_new _ (by rw [viKV_get, if_neg hm]), e1, ← viKV_snoc]
        exact ⟨_, _, _, _, rfl, smA.putN hvp, upd_same, by rw [et]; exact hR2, by rw [et]; exact hg⟩
    · rintro σ H2 ⟨vis, t, y4, y5, rfl, sm2, hvp2, hR, hg⟩
      have hsz : (S z0).cps.size = z0.length := len_S z0
      rw [hsz, List.drop_length] at hg
      walk_at "vc"
      have e0 : (Str.ofString "" : Str) = S [] := rfl
      rw [e0]
      have e1 : ([] : List Nat) = rgo k [t0] t0 [] z0 := hg
      rw [e1]
      exact q _ sm2


abbrev lamE : Expr := match s_best_behind with
  | .FunctionDef _ _ body _ _ _ _ _ _ _ => match body.getD 2 (.Pass ⟨0, 0, 0, 0⟩) with
    | .Return (some (.Call _ _ [⟨_, e, _⟩] _)) _ => e
    | _ => .Constant .none 0 ⟨0, 0, 0, 0⟩
  | _ => .Constant .none 0 ⟨0, 0, 0, 0⟩
abbrev lamPar : Arguments := match lamE with
  | .Lambda a _ _ _ => a
  | _ => defArgs s_best_behind
abbrev lamBody : Expr := match lamE with
  | .Lambda _ b _ _ => b
  | _ => .Constant .none 0 ⟨0, 0, 0, 0⟩
abbrev lamSc : Scope := match lamE with
  | .Lambda _ _ sc _ => sc
  | _ => defScope s_best_behind
theorem scLam_best_behind : FnScope ["choice"] ["choice"] lamSc := ⟨rfl, rfl, rfl, by decide +kernel, rfl, by decide +kernel, by decide +kernel⟩
theorem lamKey_best_behind {K : PySem.W.Frag} (t : Addr) (p : Int × List Nat) (H : Hp) (Q : VK) (hm : MxIt H t p) (q : ∀ kp H', Same H H' → H kp = none → H' kp = some (keyT p) → Q (.ref kp) H') :
    tTup (tCons (tOp (rIxT K) (tVar 0) (tC (.int 0))) (tCons (tUn (rU fun i => V.int (-i)) (tCB (fun xs H Q => ∃ z, xs = [V.str z] ∧ z.length ≤ sizeLine ∧ Q (.int (z.length : Nat)) H) (tCons (tOp (rIxT K) (tVar 0) (tC (.int 1))) tNil))) tNil)) (L2.start ["choice"] [.ref t]) H Q := by
  obtain ⟨hm1, hm2⟩ := hm
  refine x_tup ?_
  refine x_cons ?_
  refine x_op (x_var (v := .ref t) rfl (x_c ?_))
  refine x_ixT (SqT.of hm1) (atI_nat (j := 0) rfl) ?_
  refine x_cons ?_
  refine x_un (x_cb (x_cons ?_))
  refine x_op (x_var (v := .ref t) rfl (x_c ?_))
  refine x_ixT (SqT.of hm1) (atI_nat (j := 1) rfl) ?_
  refine x_nil ?_
  refine ⟨_, rfl, hp_sz (by rw [len_S]; omega), ?_⟩
  refine x_rU ?_
  refine x_nil ?_
  refine ⟨(show 2 ≤ sizeLine by decide), fun kp hkp => q kp _ (same_upd hkp) hkp ?_⟩
  rw [upd_same, len_S]
  rfl
theorem ok_best_behind {f cc PT : Addr} {oc kV doc pm ct : Value} {od an : Option Addr} {osl : Array (Option Value)} (lk : K.lookup f = some ⟨oc, od, .func (PySem.W.fnOf "_best_behind" "_best_behind" (defArgs s_best_behind) (defBody s_best_behind) (defScope s_best_behind) .none kV doc pm an (.ref cc) ct), osl⟩) (hcd : PySem.W.codeIn K (.ref cc) "_best_behind" = true) (TB : LamX.TabB base mg cc PT) (B : Bl mg) : FnOk P w K mg base CX0 3 f (PySem.W.fnOf "_best_behind" "_best_behind" (defArgs s_best_behind) (defBody s_best_behind) (defScope s_best_behind) .none kV doc pm an (.ref cc) ct) ["steps", "best", "weights"] (sp_best_behind K PT) := by
  refine fn_okL lk hcd sc_best_behind (fun vs H Q E h => ?_) (fun A outer s H vs Q E hr h => ?_)
  · first
      | (obtain ⟨_, rfl, _⟩ := h; rfl)
      | (obtain ⟨_, _, rfl, _⟩ := h; rfl)
      | (obtain ⟨_, _, _, rfl, _⟩ := h; rfl)
      | (obtain ⟨_, _, _, _, rfl, _⟩ := h; rfl)
      | (obtain ⟨_, _, _, _, _, rfl, _⟩ := h; rfl)
      | (obtain ⟨_, _, _, _, _, _, rfl, _⟩ := h; rfl)
      | (obtain ⟨_, _, _, _, _, _, _, rfl, _⟩ := h; rfl)
      | (obtain ⟨_, _, _, _, _, _, _, _, rfl, _⟩ := h; rfl)
      | (obtain ⟨_, _, _, _, _, _, _, _, _, rfl, _⟩ := h; rfl)
      | (obtain ⟨_, _, _, _, _, _, _, _, _, _, rfl, _⟩ := h; rfl)
      | (obtain ⟨_, _, _, _, _, _, _, _, _, _, _, rfl, _⟩ := h; rfl)
      | (obtain ⟨_, _, _, _, _, _, _, _, _, _, _, _, rfl, _⟩ := h; rfl)
      | (obtain ⟨_, _, _, _, _, _, _, _, _, _, _, _, _, rfl, _⟩ := h; rfl)
      | (obtain ⟨_, _, _, _, _, _, _, _, _, _, _, _, _, _, rfl, _⟩ := h; rfl)
      | (obtain ⟨_, _, _, _, _, _, _, _, _, _, _, _, _, _, _, rfl, _⟩ := h; rfl)
      | (obtain ⟨_, _, _, _, _, _, _, _, _, _, _, _, _, _, _, _, rfl, _⟩ := h; rfl)
      | (obtain ⟨_, _, _, _, _, _, _, _, _, _, _, _, _, _, _, _, _, rfl, _⟩ := h; rfl)
  · obtain ⟨d, bp, wp, ps, ks, as, f, g, l, rfl, hd, hps2, hps, hpu, hB, hfl, hw, nbd, nwd, hT, q⟩ := h
    refine ⟨_, 
  (pss_cons (ps_set (i := 3) sc_best_behind.nd rfl (.inl rfl) (pe_lst (pa_cons (pe_tup (pa_cons pe_int (pa_cons pe_str pa_nil))) pa_nil))) 
  (pss_cons (ps_lock (ps_for PassesOwn.never rfl (pi_keys (pv 0)) (pg_name (i := 4) sc_best_behind.nd rfl (.inl rfl)) 
    (pss_cons (ps_asg (pe_dget (hu_of hr) (pv 1) (pe_dget (hu_of hr) (pv 0) (pv 4) (fun _ _ => rfl)) (fun _ _ => rfl)) (pg_tup rfl (pgs_cons (pg_name (i := 5) sc_best_behind.nd rfl (.inl rfl)) (pgs_cons (pg_name (i := 6) sc_best_behind.nd rfl (.inl rfl)) pgs_nil)))) 
    (pss_one (ps_expr (pe_bm PySem.F.plainAttrs_list PySem.F.slot_list_append PySem.F.type_list_append mt_append (pv 3) (pa_cons (pe_tup (pa_cons (pe_op op_add (pe_dget (hu_of hr) (pv 2) (pv 4) (fun _ _ => rfl)) (pv 5)) (pa_cons (pe_op op_add_str (pv 4) (pv 6)) pa_nil))) pa_nil))))))) 
  (pss_one (ps_ret (pe_callBK (cr_maxKey (q := qL) (params := lamPar) (body := lamBody) (scope := lamSc) rfl hr scLam_best_behind (fun _ _ _ _ => rfl) (fun _ _ _ _ _ _ _ => (pe_tup (pa_cons (pe_ix (show IxR _ (rIxT K) from ix_tup) (pv 0) pe_int (fun _ _ => rfl)) (pa_cons (pe_un un_neg (pe_callB call_len_str (by rfl) B.m_len PySem.boot_len (pa_cons (pe_ix (show IxR _ (rIxT K) from ix_tup) (pv 0) pe_int (fun _ _ => rfl)) pa_nil))) pa_nil)))) lamKey_best_behind) (by rfl) B.m_max (by decide +kernel) (pa_cons (pv 3) pa_nil) (pk_cons (pe_lamF TB rfl rfl rfl) pk_nil)))))), ?_⟩
    walk_at "vc"
    refine ⟨(show 2 ≤ sizeLine by decide), fun t0 ht0 => ?_⟩
    rw [show (Str.ofString "" : Str) = S [] from rfl]
    have sm1 : Same H (upd H t0 (.tup [.int 0, .str (S [])])) := same_upd ht0
    have ht1 : upd H t0 (.tup [.int 0, .str (S [])]) t0 = some (.tup [.int 0, .str (S [])]) := upd_same
    generalize upd H t0 (.tup [.int 0, .str (S [])]) = H1 at sm1 ht1
    walk_at "vc"
    refine ⟨(show 1 ≤ sizeLine by decide), fun cp hcp => ?_⟩
    have ncp : H cp = none := sm1.free hcp
    have sm2 : Same H (upd H1 cp (.lst [.ref t0])) := sm1.trans (same_upd hcp)
    have hcp2 : upd H1 cp (.lst [.ref t0]) cp = some (.lst [.ref t0]) := upd_same
    have ht2 : upd H1 cp (.lst [.ref t0]) t0 = _ := (upd_ne (ne_of_none ht1 hcp)).trans ht1
    generalize upd H1 cp (.lst [.ref t0]) = H2 at sm2 hcp2 ht2
    walk_at "vc"
    have hd2 := sm2 _ _ hd
    refine x_lock hd2 trivial fun od => ?_
    have ncd : cp ≠ d := ne_of hcp2 hd2 (fun z => nomatch z)
    have ntd : t0 ≠ d := ne_of ht2 hd2 (fun z => nomatch z)
    walk_at "vc"
    refine ⟨d, od, rfl, .inl ⟨stepKV ps, upd_same, ?_⟩⟩
    refine for_it (walk_keys (d := d) (o := od) (kvs := stepKV ps)) (fun i σ H' => ∃ (ts : List Addr) (y4 y5 y6 : Option V), σ = [some (.ref d), some (.ref bp), some (.ref wp), some (.ref cp), y4, y5, y6] ∧ (∀ b o, b ≠ d → H b = some o → H' b = some o) ∧ H' d = some (.frz od (.dK (stepKV ps))) ∧ H' cp = some (.lst (ts.map V.ref)) ∧ ts.length = i + 1 ∧ ∀ (j : Nat) t p, ts[j]? = some t → ((0, []) :: (ps.take i).map (cand g l f))[j]? = some p → MxIt H' t p)
      ⟨[t0], none, none, none, rfl, fun b o nb e => by rw [upd_ne nb]; exact sm2 b o e, upd_same, by rw [upd_ne ncd]; exact hcp2, rfl, fun j t p h1 h2 => ?_⟩ (fun i σ H' _ h => by obtain ⟨_, _, _, _, _, _, h, _⟩ := h; exact h) ?_ ?_
    · have hj : j = 0 := by
        have := (List.getElem?_eq_some_iff.mp h1).1
        simp at this
        omega
      subst hj
      cases h1
      cases h2
      exact ⟨by rw [upd_ne ntd]; exact ht2, by decide⟩
    · rintro i x σ H3 H3' hi ⟨ts, y4, y5, y6, rfl, kp3, hd3, hcp3, hlen3, hit3⟩ ⟨rfl, k, v, hkv, rfl⟩
      have hi' : i < ps.length := by unfold stepKV at hi; rw [List.length_map] at hi; exact hi
      obtain ⟨c, u, hp⟩ : ∃ c u, ps[i] = (c, u) := ⟨_, _, rfl⟩
      have hpi : ps[i]? = some (c, u) := by rw [List.getElem?_eq_getElem hi', hp]
      have hmem : (c, u) ∈ ps := List.mem_of_getElem? hpi
      have hk : k = Sum.inr (S [c]) := by
        unfold stepKV at hkv
        rw [List.getElem?_map, hpi] at hkv
        exact (congrArg Prod.fst (Option.some.inj hkv)).symm
      subst hk
      obtain ⟨hcc, huk⟩ := hps _ hmem
      have hgo : valV (stepKV ps) (Sum.inr (S [c])) = some (.str (S u)) := stepKV_in hmem fun p hp e => hpu p hp _ hmem e
      have hbp3 := kp3 _ _ nbd hB.at_
      have hwp3 := kp3 _ _ nwd hw
      obtain ⟨a, ha1, ha2⟩ := hB.get huk
      have ha3 : H3' a = some (.tup [.int (f u).1, .str (S (f u).2)]) := kp3 _ _ (ne_of ha2.1 hd (fun z => nomatch z)) ha2.1
      have hful := hfl u huk
      rw [show L2.kV (Sum.inr (S [c])) = V.str (S [c]) from rfl]
      walk_at "vc"
      refine x_getS (.inr ⟨od, hd3⟩) hgo ?_
      refine x_getS (.inl hbp3) ha1 ?_
      refine x_gTup (SqT.of ha3) rfl ?_
      walk_at "vc"
      refine ⟨.inl ⟨rfl, _, SqL.of hcp3⟩, ?_⟩
      walk_at "vc"
      refine x_getS (.inl hwp3) (wKV_get hcc) ?_
      walk_at "vc"
      refine ⟨S [c], S (f u).2, rfl, rfl, hp_sz (by rw [len_S, len_S]; show 1 + _ ≤ _; omega), ?_⟩
      rw [S_app]
      walk_at "vc"
      refine ⟨(show 2 ≤ sizeLine by decide), fun tn htn => ?_⟩
      have nts : tn ∉ ts := fun hm => by
        obtain ⟨j, hj⟩ := List.getElem?_of_mem hm
        have hjl := (List.getElem?_eq_some_iff.mp hj).1
        have := (hit3 j tn _ hj (List.getElem?_eq_getElem (by rw [List.length_cons, List.length_map, List.length_take]; omega))).1
        rw [htn] at this
        cases this
      have ntc : tn ≠ cp := fun z => by rw [z, hcp3] at htn; cases htn
      walk_at "vc"
      refine x_append (by rw [upd_ne ntc.symm]; exact hcp3) (by rw [List.length_map, hlen3]; exact Nat.lt_of_le_of_lt (by omega : _ ≤ 10) (by decide)) ?_
      refine ⟨ts ++ [tn], _, _, _, rfl, fun b o nb e => ?_, ?_, ?_, by rw [List.length_append, hlen3]; rfl, fun j t p h1 h2 => ?_⟩
      · rw [upd_ne (ne_of_none e ncp), upd_ne (fun z => by rw [← z, kp3 b o nb e] at htn; cases htn)]
        exact kp3 b o nb e
      · rw [upd_ne ncd.symm, upd_ne (fun z => by rw [← z, hd3] at htn; cases htn)]
        exact hd3
      · rw [upd_same, List.map_append]
        rfl
      · rw [List.take_succ_eq_append_getElem hi', List.map_append] at h2
        have hLl : ((0, []) :: (ps.take i).map (cand g l f) : List (Int × List Nat)).length = i + 1 := by rw [List.length_cons, List.length_map, List.length_take]; omega
        by_cases hj : j < i + 1
        · rw [List.getElem?_append_left (by rw [hlen3]; exact hj)] at h1
          rw [← List.cons_append, List.getElem?_append_left (by rw [hLl]; exact hj)] at h2
          have := hit3 j t p h1 h2
          refine ⟨?_, this.2⟩
          rw [upd_ne (ne_of this.1 hcp3 (fun z => nomatch z)), upd_ne (fun z => nts (by rw [← z]; exact List.mem_of_getElem? h1))]
          exact this.1
        · have hjl := (List.getElem?_eq_some_iff.mp h1).1
          rw [List.length_append, hlen3] at hjl
          have hji : j = i + 1 := by simp only [List.length_cons, List.length_nil] at hjl; omega
          subst hji
          rw [List.getElem?_append_right (by omega), hlen3, Nat.sub_self] at h1
          rw [← List.cons_append, List.getElem?_append_right (by omega), hLl, Nat.sub_self, hp] at h2
          cases h1
          cases h2
          refine ⟨?_, ?_⟩
          · rw [upd_ne ntc, upd_same]
            rfl
          · show (c :: (f u).2).length ≤ _
            rw [List.length_cons]
            omega
    · rintro σ H3 ⟨ts, y4, y5, y6, rfl, kp3, hd3, hcp3, hlen3, hit3⟩
      refine ⟨hd3, ?_⟩
      have hsl : (stepKV ps).length = ps.length := by unfold stepKV; rw [List.length_map]
      rw [hsl] at hlen3 hit3
      rw [List.take_length] at hit3
      have sm4 : Same H (upd H3 d (.dK (stepKV ps))) := fun b o e => by
        by_cases hb : b = d
        · rw [hb, hd] at e
          rw [hb, upd_same]
          exact e
        · rw [upd_ne hb]
          exact kp3 b o hb e
      have hcp4 : upd H3 d (.dK (stepKV ps)) cp = some (.lst (ts.map V.ref)) := by rw [upd_ne ncd]; exact hcp3
      have hit4 : ∀ (j : Nat) t p, ts[j]? = some t → ((0, []) :: ps.map (cand g l f))[j]? = some p → MxIt (upd H3 d (.dK (stepKV ps))) t p := fun j t p h1 h2 => by
        have := hit3 j t p h1 h2
        refine ⟨?_, this.2⟩
        rw [upd_ne (ne_of this.1 hd3 (fun z => nomatch z))]
        exact this.1
      generalize upd H3 d (.dK (stepKV ps)) = H4 at sm4 hcp4 hit4
      walk_at "vc"
      refine ⟨hT.ext sm4, fun lf c' H5 sm5 nlf hlf hc' => ?_⟩
      walk_at "vc"
      refine ⟨cp, lf, c', ts, (0, []), ps.map (cand g l f), rfl, rfl, SqL.of (sm5.lst hcp4), hlf, hc', by rw [List.length_map]; exact hlen3, fun j t p h1 h2 => ?_, fun j t H6 h1 h2 sm6 => ?_⟩
      · have := hit4 j t p h1 h2
        exact ⟨sm5.tup this.1, this.2⟩
      · have := hit4 j t _ h1 h2
        exact q t H6 ((SmT.of sm4).trans (sm5.trans (SmT.of sm6))) ⟨sm6 _ _ (sm5.tup this.1), this.2⟩


theorem stKV_take {ks : List (List Nat)} {as : List Addr} {i : Nat} {t : List Nat} {a : Addr} (hi : ks[i]? = some t) (hl : as.length = i) : stKV (ks.take (i + 1)) (as ++ [a]) = stKV (ks.take i) as ++ [(Sum.inr (S t), V.ref a)] := by
  obtain ⟨hlt, e⟩ := List.getElem?_eq_some_iff.mp hi
  rw [List.take_succ_eq_append_getElem hlt, stKV_snoc (by rw [List.length_take]; omega), e]
theorem take_notin {ks : List (List Nat)} (hn : ks.Nodup) {i : Nat} {t : List Nat} (hi : ks[i]? = some t) : t ∉ ks.take i := fun h => by
  obtain ⟨j, hj⟩ := List.getElem?_of_mem h
  have hjl := (List.getElem?_eq_some_iff.mp hj).1
  rw [List.length_take] at hjl
  rw [List.getElem?_take, if_pos (by omega)] at hj
  have hil := (List.getElem?_eq_some_iff.mp hi).1
  have := (List.getElem?_inj (by omega) hn).mp (hj.trans hi.symm)
  omega
theorem key_at {ks : List (List Nat)} {ds : List Addr} {i : Nat} {k : Key} {v : V} (hl : ds.length = ks.length) (h : (stKV ks ds)[i]? = some (k, v)) : ∃ t d, ks[i]? = some t ∧ ds[i]? = some d ∧ k = Sum.inr (S t) := by
  have hi := (List.getElem?_eq_some_iff.mp h).1
  rw [stKV_len hl] at hi
  have h1 : ks[i]? = some ks[i] := List.getElem?_eq_getElem hi
  have h2 : ds[i]? = some (ds[i]'(by omega)) := List.getElem?_eq_getElem (by omega)
  have := stKV_get h1 h2
  rw [h] at this
  exact ⟨_, _, h1, h2, congrArg Prod.fst (Option.some.inj this)⟩
theorem w_ne {l : List (Nat × List Nat)} {g ll : Int} (h : stepKV l = wKV g ll) : False := by
  cases l with
  | nil => cases h
  | cons p l =>
    have h1 := congrArg Prod.snd (List.cons.inj h).1
    cases h1
theorem st_ne_w {ks : List (List Nat)} {ds : List Addr} {g l : Int} {i : Nat} {t : List Nat} {d : Addr} (h1 : ks[i]? = some t) (h2 : ds[i]? = some d) (h : stKV ks ds = wKV g l) : False := by
  have e := stKV_get h1 h2
  rw [h] at e
  cases i with
  | zero => cases congrArg Prod.snd (Option.some.inj e)
  | succ i =>
    cases i with
    | zero => cases congrArg Prod.snd (Option.some.inj e)
    | succ i => cases e
theorem bs_ne_st {H : Hp} {bp sa : Addr} {ks : List (List Nat)} {as ds : List Addr} {f : List Nat → Int × List Nat} {sds : List (List Nat)} {k : Nat} (hB : BsAt H bp ks f as) (hS : StAt H sa sds k ks ds) (hs : H sa = some (.dK (stKV ks ds))) (h0 : [] ∈ ks) : bp ≠ sa := fun e => by
  have h := hB.at_
  rw [e, hs] at h
  have h1 : stKV ks ds = stKV ks as := HO.dK.inj (Option.some.inj h)
  obtain ⟨i, d, hi, hd, _⟩ := stKV_in hS.len h0
  have hil := (List.getElem?_eq_some_iff.mp hi).1
  have ha : as[i]? = some (as[i]'(by rw [hB.len]; exact hil)) := List.getElem?_eq_getElem _
  have e1 := stKV_get hi hd
  have e2 := stKV_get hi ha
  rw [h1, e2] at e1
  have e3 : V.ref _ = V.ref d := congrArg Prod.snd (Option.some.inj e1)
  have e4 := V.ref.inj e3
  rw [e4] at ha
  have h2 := (hB.each i _ _ hi ha).1
  rw [hS.each i _ _ hi hd] at h2
  cases h2
def isD (p : Int × List Nat) : PyData := .tuple [.int p.1, .str (S p.2)]
theorem isD_eqv (p q : Int × List Nat) : PyData.eqv (isD p) (isD q) = decide (p = q) := by
  unfold isD
  simp only [PyData.eqv, PyData.eqvAll, Bool.and_true]
  rw [Bool.eq_iff_iff]
  simp only [Bool.and_eq_true, decide_eq_true_eq, beq_iff_eq]
  constructor
  · rintro ⟨h1, h2⟩
    exact Prod.ext h1 (S_inj h2)
  · intro h
    rw [h]
    exact ⟨rfl, rfl⟩
theorem isD_shaped {p : Int × List Nat} (h : Lk p.2) : SeqAt.shaped (isD p) = true := by
  have h2 := strOk_S h.cd
  unfold SeqAt.shaped isD
  rw [Bool.and_eq_true]
  refine ⟨?_, decide_eq_true ?_⟩
  · simp only [PyData.canLayAll0, PyData.canLay0, Bool.and_eq_true, Bool.true_and]
    exact ⟨h2, trivial⟩
  · simp only [PyData.depth, PyData.depthAll]
    omega
theorem isD_ne {K : PySem.W.Frag} {H : Hp} {a b : Addr} {p q : Int × List Nat} (hp : Lk p.2) (hq : Lk q.2) (ha : MxIt H a p) (hb : MxIt H b q) {Q : VK} (h : Q (.bl (decide (p ≠ q))) H) : rNeD K (.ref a) (.ref b) H Q :=
  ⟨isD p, isD q, .tup (SqT.of ha.1) (.cons (.int _) (.cons (.str _) .nil)), .tup (SqT.of hb.1) (.cons (.int _) (.cons (.str _) .nil)), isD_shaped hp, isD_shaped hq, by
    rw [isD_eqv]
    have e : (!decide (p = q)) = decide (p ≠ q) := by simp
    rw [e]
    exact h⟩
theorem optS_bound {sds : List (List Nat)} {k : Nat} {g l : Int} (r : Nat) (t : List Nat) : (optS sds k g l r t).2.length ≤ r := (optS_is r t).len
theorem okbar {f : Addr} {fd : FuncData} {PT : Addr} {uFEWEST_LETTERS uMOST_LETTERS uALPHABET uLONGEST_ROW uLEAST_WEIGHT uMOST_WEIGHT uLIKE uUNLIKE uSHORTEST_SEED uLONGEST_SEED uPICK uGAP uFEWEST_SEEDS uMOST_SEEDS uBAR uENDLESS : Value} {f_steps : Addr} {fd_steps : FuncData} {fworth_of : Addr} {fdworth_of : FuncData} {f_ring : Addr} {fd_ring : FuncData} {f_best_behind : Addr} {fd_best_behind : FuncData} (F : Fun K "bar" "bar" sbar f fd) (B : Bl mg) (C : Cs mg uFEWEST_LETTERS uMOST_LETTERS uALPHABET uLONGEST_ROW uLEAST_WEIGHT uMOST_WEIGHT uLIKE uUNLIKE uSHORTEST_SEED uLONGEST_SEED uPICK uGAP uFEWEST_SEEDS uMOST_SEEDS uBAR uENDLESS) (D_steps : Dn P w K mg base "_steps" 4 ["seeds"] (sp_steps K) f_steps fd_steps) (Dworth_of : Dn P w K mg base "worth_of" 1 ["likes", "scale"] (spworth_of K) fworth_of fdworth_of) (D_ring : Dn P w K mg base "_ring" 1 ["steps", "tail", "likes"] (sp_ring K) f_ring fd_ring) (D_best_behind : Dn P w K mg base "_best_behind" 3 ["steps", "best", "weights"] (sp_best_behind K PT) f_best_behind fd_best_behind) : FnOk P w K mg base CX0 5 f fd ["seeds", "scale"] (spbar K PT) := by
  refine F.ok scbar (fun vs H Q E h => ?_) (fun cdv A outer s H vs Q E hr h => ?_)
  · first
      | (obtain ⟨_, rfl, _⟩ := h; rfl)
      | (obtain ⟨_, _, rfl, _⟩ := h; rfl)
      | (obtain ⟨_, _, _, rfl, _⟩ := h; rfl)
      | (obtain ⟨_, _, _, _, rfl, _⟩ := h; rfl)
      | (obtain ⟨_, _, _, _, _, rfl, _⟩ := h; rfl)
      | (obtain ⟨_, _, _, _, _, _, rfl, _⟩ := h; rfl)
      | (obtain ⟨_, _, _, _, _, _, _, rfl, _⟩ := h; rfl)
      | (obtain ⟨_, _, _, _, _, _, _, _, rfl, _⟩ := h; rfl)
      | (obtain ⟨_, _, _, _, _, _, _, _, _, rfl, _⟩ := h; rfl)
      | (obtain ⟨_, _, _, _, _, _, _, _, _, _, rfl, _⟩ := h; rfl)
      | (obtain ⟨_, _, _, _, _, _, _, _, _, _, _, rfl, _⟩ := h; rfl)
      | (obtain ⟨_, _, _, _, _, _, _, _, _, _, _, _, rfl, _⟩ := h; rfl)
      | (obtain ⟨_, _, _, _, _, _, _, _, _, _, _, _, _, rfl, _⟩ := h; rfl)
      | (obtain ⟨_, _, _, _, _, _, _, _, _, _, _, _, _, _, rfl, _⟩ := h; rfl)
      | (obtain ⟨_, _, _, _, _, _, _, _, _, _, _, _, _, _, _, rfl, _⟩ := h; rfl)
      | (obtain ⟨_, _, _, _, _, _, _, _, _, _, _, _, _, _, _, _, rfl, _⟩ := h; rfl)
      | (obtain ⟨_, _, _, _, _, _, _, _, _, _, _, _, _, _, _, _, _, rfl, _⟩ := h; rfl)
  · obtain ⟨sp, ps, sds, g, l, rfl, hsp, hps, hsd, l1, l3, hg1, hg2, hl1, hl2, hT, q⟩ := h
    have hk7 := kM_le hsd
    have hKI : KeysI sds (kM sds) (keys sds (kM sds)) := keys_is hk7
    have hok : BarOk sds g l (barM sds g l) := barM_ok hsd
    refine ⟨_, 
  (pss_cons (ps_set (i := 2) scbar.nd rfl (.inr rfl) (pe_call D_steps.ok hr (by rfl) D_steps.g D_steps.kp D_steps.b .nil pass0 (pa_cons (pv 0) pa_nil))) 
  (pss_cons (ps_set (i := 3) scbar.nd rfl (.inr rfl) (pe_dc (own := [("pair", 10)]) (g := gName 10) (tt := tYes) rfl scbar.nd (pi_tup (pe_tup (pa_cons (pe_glob rfl C.c_LIKE.2 C.c_LIKE.1) (pa_cons (pe_glob rfl C.c_UNLIKE.2 C.c_UNLIKE.1) pa_nil)))) (blkOk_by (N := nbar) (sc := defScope sbar) (by decide +kernel)) (fun _ _ _ _ _ => (pg_name (i := 10) scbar.nd rfl (.inl rfl))) (fun _ _ _ _ _ => pts_nil) (fun _ _ _ _ _ => (pv 10)) (fun _ _ _ _ _ => (pe_call Dworth_of.ok (hr.mono (by decide)) (by rfl) Dworth_of.g Dworth_of.kp Dworth_of.b .nil pass0 (pa_cons (pv 10) (pa_cons (pv 1) pa_nil)))))) 
  (pss_cons (ps_lock (ps_set (i := 4) scbar.nd rfl (.inr rfl) (pe_dc (own := [("tail", 11)]) (g := gName 11) (tt := tYes) rfl scbar.nd (pi_keys (pv 2)) (blkOk_by (N := nbar) (sc := defScope sbar) (by decide +kernel)) (fun _ _ _ _ _ => (pg_name (i := 11) scbar.nd rfl (.inl rfl))) (fun _ _ _ _ _ => pts_nil) (fun _ _ _ _ _ => (pv 11)) (fun _ _ _ _ _ => (pe_tup (pa_cons pe_int (pa_cons pe_str pa_nil))))))) 
  (pss_one (ps_while PassesOwn.never (pt_val pe_bl) 
    (pss_cons (ps_lock (ps_set (i := 5) scbar.nd rfl (.inr rfl) (pe_dc (own := [("tail", 11)]) (g := gName 11) (tt := tYes) rfl scbar.nd (pi_keys (pv 2)) (blkOk_by (N := nbar) (sc := defScope sbar) (by decide +kernel)) (fun _ _ _ _ _ => (pg_name (i := 11) scbar.nd rfl (.inl rfl))) (fun _ _ _ _ _ => pts_nil) (fun _ _ _ _ _ => (pv 11)) (fun _ _ _ _ _ => (pe_call D_best_behind.ok (hr.mono (by decide)) (by rfl) D_best_behind.g D_best_behind.kp D_best_behind.b .nil pass0 (pa_cons (pe_dget (hu_of hr) (pv 2) (pv 11) (fun _ _ => rfl)) (pa_cons (pv 4) (pa_cons (pv 3) pa_nil)))))))) 
    (pss_cons (ps_lock (ps_setLc (i := 6) (own := [("tail", 11)]) (g := gName 11) rfl scbar.nd rfl rfl (sw_true rfl rfl rfl (by decide +kernel)) (pi_keys (pv 2)) (blkOk_by (N := nbar) (sc := defScope sbar) (by decide +kernel)) (fun _ _ _ _ _ => (pg_name (i := 11) scbar.nd rfl (.inl rfl))) (fun _ _ _ _ _ => pts_one (pt_cmpR (show OpR _ (compareOp .NotEq) (rNeD K) from op_neD hr.units) (pe_dget (hu_of hr) (pv 5) (pv 11) (fun _ _ => rfl)) (pe_dget (hu_of hr) (pv 4) (pv 11) (fun _ _ => rfl)) (nomark _))) (fun _ _ _ _ _ => (pv 11)))) 
    (pss_cons (ps_if (pt_not (pt_truth (pv 6) (by intro _; rfl))) 
      (pss_cons (ps_asg (pe_dget (hu_of hr) (pv 4) pe_str (fun _ _ => rfl)) (pg_tup rfl (pgs_cons (pg_name (i := 7) scbar.nd rfl (.inl rfl)) (pgs_cons (pg_name (i := 8) scbar.nd rfl (.inl rfl)) pgs_nil)))) 
      (pss_one (ps_ret (pe_tup (pa_cons (pe_glob rfl C.c_BAR.2 C.c_BAR.1) (pa_cons (pv 7) (pa_cons (pv 8) pa_nil))))))) pss_nil) 
    (pss_cons (ps_set (i := 9) scbar.nd rfl (.inl rfl) (pe_call D_ring.ok (hr.mono (by decide)) (by rfl) D_ring.g D_ring.kp D_ring.b .nil pass0 (pa_cons (pv 2) (pa_cons (pe_ix ix_list (pv 6) pe_int (fun _ _ => rfl)) (pa_cons (pe_ix ix_tup (pe_dget (hu_of hr) (pv 5) (pe_ix ix_list (pv 6) pe_int (fun _ _ => rfl)) (fun _ _ => rfl)) pe_int (fun _ _ => rfl)) pa_nil))))) 
    (pss_cons (ps_if (pt_truth (pv 9) (by intro _; rfl)) 
      (pss_one (ps_ret (pe_tup (pa_cons (pe_glob rfl C.c_ENDLESS.2 C.c_ENDLESS.1) (pa_cons pe_str (pa_cons (pv 9) pa_nil)))))) pss_nil) 
    (pss_one (ps_set (i := 4) scbar.nd rfl (.inr rfl) (pv 5))))))))))))), ?_⟩
    walk_at "vc"
    refine ⟨sp, sds, rfl, hsp, hsd, l1, l3, fun sa ds H1 sm1 nsa hsa1 hSt1 => ?_⟩
    have hbar : barGo sds (kM sds) g l (keys sds (kM sds)) 300 0 = barM sds g l := rfl
    generalize keys sds (kM sds) = ks at hKI hsa1 hSt1 hbar
    have hk255 := hKI.len
    walk_at "vc"
    refine ⟨(show 2 ≤ sizeLine by decide), fun tp htp => ?_⟩
    have sm2 := sm1.trans (same_upd (o := .tup [.str (Str.ofString "="), .str (Str.ofString "/")]) htp)
    have hsa2 : upd H1 tp (.tup [.str (Str.ofString "="), .str (Str.ofString "/")]) sa = _ := (upd_ne (ne_of_none hsa1 htp)).trans hsa1
    have hSt2 := hSt1.same (same_upd (o := .tup [.str (Str.ofString "="), .str (Str.ofString "/")]) htp)
    have htp2 : upd H1 tp (.tup [.str (Str.ofString "="), .str (Str.ofString "/")]) tp = some (.tup [.str (S [61]), .str (S [47])]) := upd_same
    generalize upd H1 tp (.tup [.str (Str.ofString "="), .str (Str.ofString "/")]) = H2 at sm2 hsa2 hSt2 htp2
    refine ⟨tp, rfl, ⟨_, SqT.of htp2⟩, ?_⟩
    intro wp hwp
    have nwp : H wp = none := sm2.free hwp
    refine dc_it (walk_tup (xs := [.str (S [61]), .str (S [47])])) (fun i H' => Same H2 H' ∧ H' wp = some (.dK ((wKV g l).take i))) ⟨same_upd hwp, upd_same⟩ (fun i H' _ h => SqT.of (h.1 _ _ htp2)) ?_ ?_
    · rintro i x H3 H3' hi ⟨sm3, hwp3⟩ ⟨rfl, hx⟩
      have hi2 : i < 2 := hi
      obtain ⟨c, ec, ex⟩ : ∃ c : Nat, (c = if i = 0 then 61 else 47) ∧ x = .str (S [c]) := by
        have : i = 0 ∨ i = 1 := by omega
        rcases this with e | e
        · subst e; exact ⟨61, rfl, (Option.some.inj hx).symm⟩
        · subst e; exact ⟨47, rfl, (Option.some.inj hx).symm⟩
      subst ex
      have hcc : c = 61 ∨ c = 47 := by rw [ec]; split <;> simp
      walk_at "vc"
      refine ⟨rfl, ?_⟩
      walk_at "vc"
      refine ⟨[c], ps, g, l, rfl, SqT_same (sm2.trans sm3) hps, fun d hd => by rw [List.mem_singleton.mp hd]; exact hcc, by omega, by omega, by omega, by omega, ?_⟩
      refine ⟨_, Sum.inr (S [c]), rfl, hwp3, by rw [List.length_take]; exact Nat.lt_of_le_of_lt (by omega : _ ≤ 2) (by decide), sm3.putN hwp, ?_⟩
      rw [upd_same]
      have : i = 0 ∨ i = 1 := by omega
      rcases this with e | e
      · subst e
        subst ec
        show some (HO.dK (putK [] (Sum.inr (S [61])) (V.int (wor g l [61])))) = _
        rw [putK_new _ rfl]
        show some (HO.dK [(Sum.inr (S [61]), V.int (g + 0))]) = _
        rw [Int.add_zero]
        rfl
      · subst e
        subst ec
        show some (HO.dK (putK [(Sum.inr (S [61]), V.int g)] (Sum.inr (S [47])) (V.int (wor g l [47])))) = _
        rw [putK_new _ (by rw [valV_neg (fun q => by have := (List.cons.inj (inr_S q)).1; omega)]; rfl)]
        show some (HO.dK [(Sum.inr (S [61]), V.int g), (Sum.inr (S [47]), V.int (-l + 0))]) = _
        rw [Int.add_zero]
        rfl
    · rintro H3 ⟨sm3, hwp3⟩
      have hwp3 : H3 wp = some (.dK (wKV g l)) := hwp3
      have sm3' := sm2.trans sm3
      have hsa3 := sm3 _ _ hsa2
      have hSt3 := hSt2.same sm3
      clear hsa2 hSt2 hsa1 hSt1 htp2 hwp sm3 sm2
      walk_at "vc"
      -- best
      refine x_lock hsa3 trivial fun od => ?_
      walk_at "vc"
      refine ⟨sa, od, rfl, .inl ⟨stKV ks ds, upd_same, ?_⟩⟩
      intro bp hbp
      have nbs : bp ≠ sa := fun z => by rw [z, upd_same] at hbp; cases hbp
      have nbp3 : H3 bp = none := by rw [upd_ne nbs] at hbp; exact hbp
      have nbp : H bp = none := sm3'.free nbp3
      refine dc_it (walk_keys (d := sa) (o := od) (kvs := stKV ks ds)) (fun i H' => ∃ as : List Addr, (∀ b o, b ≠ sa → H3 b = some o → H' b = some o) ∧ H' sa = some (.frz od (.dK (stKV ks ds))) ∧ as.length = i ∧ H' bp = some (.dK (stKV (ks.take i) as)) ∧ ∀ a ∈ as, MxIt H' a (0, []))
        ⟨[], fun b o nb e => by rw [upd_ne (ne_of_none e nbp3), upd_ne nb]; exact e, by rw [upd_ne nbs.symm, upd_same], rfl, upd_same, fun a h => by simp at h⟩ (fun i H' _ h => by obtain ⟨_, _, h, _⟩ := h; exact h) ?_ ?_
      · rintro i x H4 H4' hi ⟨as, kp4, hsa4, hal, hbp4, hit4⟩ ⟨rfl, k, v, hkv, rfl⟩
        obtain ⟨t, d, ht, hd, rfl⟩ := key_at hSt3.len hkv
        have hil := (List.getElem?_eq_some_iff.mp ht).1
        rw [show L2.kV (Sum.inr (S t)) = V.str (S t) from rfl]
        walk_at "vc"
        refine ⟨rfl, ?_⟩
        walk_at "vc"
        refine ⟨(show 2 ≤ sizeLine by decide), fun tn htn => ?_⟩
        have ntb : tn ≠ bp := fun z => by rw [z, hbp4] at htn; cases htn
        have nts : tn ≠ sa := fun z => by rw [z, hsa4] at htn; cases htn
        refine ⟨_, Sum.inr (S t), rfl, by rw [upd_ne ntb.symm]; exact hbp4, by rw [stKV_len (by rw [hal, List.length_take]; omega), List.length_take]; exact Nat.lt_of_le_of_lt (by omega : _ ≤ 1000) (by decide), as ++ [tn], fun b o nb e => ?_, ?_, by rw [List.length_append, hal]; rfl, ?_, fun a ha => ?_⟩
        · rw [upd_ne (ne_of_none e nbp3), upd_ne (ne_of_none (kp4 b o nb e) htn)]
          exact kp4 b o nb e
        · rw [upd_ne nbs.symm, upd_ne nts.symm]
          exact hsa4
        · rw [upd_same, putK_new _ (stKV_out (take_notin hKI.nodup ht)), stKV_take ht hal]
        · rcases List.mem_append.mp ha with z | z
          · have := hit4 a z
            refine ⟨?_, this.2⟩
            rw [upd_ne (ne_of this.1 hbp4 (fun z => nomatch z)), upd_ne (ne_of_none this.1 htn)]
            exact this.1
          · rw [List.mem_singleton.mp z]
            refine ⟨?_, by decide⟩
            rw [upd_ne ntb, upd_same]
            rfl
      · rintro H4 ⟨as, kp4, hsa4, hal, hbp4, hit4⟩
        rw [stKV_len hSt3.len] at hal hbp4
        rw [List.take_length] at hbp4
        walk_at "vc"
        refine ⟨hsa4, ?_⟩
        have sm5 : Same H3 (upd H4 sa (.dK (stKV ks ds))) := fun b o e => by
          by_cases hb : b = sa
          · rw [hb, hsa3] at e
            rw [hb, upd_same]
            exact e
          · rw [upd_ne hb]
            exact kp4 b o hb e
        have hBs5 : BsAt (upd H4 sa (.dK (stKV ks ds))) bp ks (optS sds (kM sds) g l 0) as := ⟨hal, by rw [upd_ne nbs]; exact hbp4, fun i t a _ ha => by
          have := hit4 a (List.mem_of_getElem? ha)
          refine ⟨?_, this.2⟩
          rw [upd_ne (ne_of this.1 hsa4 (fun z => nomatch z))]
          exact this.1⟩
        have hT5 := hT.ext (sm3'.trans sm5)
        have smT5 : SmT PT qL H (upd H4 sa (.dK (stKV ks ds))) := SmT.of (sm3'.trans sm5)
        have hwp5 := sm5 _ _ hwp3
        have hsa5 : upd H4 sa (.dK (stKV ks ds)) sa = some (.dK (stKV ks ds)) := upd_same
        have hSt5 := hSt3.same sm5
        generalize upd H4 sa (.dK (stKV ks ds)) = H5 at hBs5 hT5 smT5 hwp5 hsa5 hSt5
        clear kp4 hsa4 hal hbp4 hit4 sm5 hSt3 hsa3 hwp3 sm3'
        walk_at "vc"
        refine ⟨fun m σ H' => ∃ (r : Nat) (bp : Addr) (as : List Addr) (y5 y6 y7 y8 y9 y10 y11 : Option V), σ = [some (.ref sp), some (.ref ps), some (.ref sa), some (.ref wp), some (.ref bp), y5, y6, y7, y8, y9, y10, y11] ∧ SmT PT qL H H' ∧ H' sa = some (.dK (stKV ks ds)) ∧ StAt H' sa sds (kM sds) ks ds ∧ H' wp = some (.dK (wKV g l)) ∧ BsAt H' bp ks (optS sds (kM sds) g l r) as ∧ barGo sds (kM sds) g l ks m r = barM sds g l ∧ m + r = 300 ∧ r ≤ 256,
          ⟨300, 0, bp, as, _, _, _, _, _, _, _, rfl, smT5, hsa5, hSt5, hwp5, hBs5, hbar, rfl, by decide⟩, ?_⟩
        clear hBs5 hT5 smT5 hwp5 hsa5 hSt5 hbar nbp nbp3 hbp nbs
        rintro m σ H6 ⟨r, bp, as, y5, y6, y7, y8, y9, y10, y11, rfl, sm6, hsa6, hSt6, hwp6, hB6, hgo, hmr, hr256⟩
        obtain ⟨m, rfl⟩ : ∃ m', m = m' + 1 := ⟨m - 1, by omega⟩
        have lkO : ∀ n t, Lk (optS sds (kM sds) g l n t).2 := fun n t => (optS_is n t).lk
        have nbs : bp ≠ sa := bs_ne_st hB6 hSt6 hsa6 hKI.root
        obtain ⟨i0, d0, hi0, hd0, _⟩ := stKV_in hSt6.len hKI.root
        have nws : wp ≠ sa := fun e => by
          rw [e, hsa6] at hwp6
          exact st_ne_w hi0 hd0 (HO.dK.inj (Option.some.inj hwp6))
        have hT6 := sm6.t hT
        walk_at "vc"
        refine ⟨fun σ' H' => ∃ (bp : Addr) (as : List Addr) (y5 y6 y7 y8 y9 y10 y11 : Option V), σ' = [some (.ref sp), some (.ref ps), some (.ref sa), some (.ref wp), some (.ref bp), y5, y6, y7, y8, y9, y10, y11] ∧ SmT PT qL H H' ∧ H' sa = some (.dK (stKV ks ds)) ∧ StAt H' sa sds (kM sds) ks ds ∧ H' wp = some (.dK (wKV g l)) ∧ BsAt H' bp ks (optS sds (kM sds) g l (r + 1)) as ∧ barGo sds (kM sds) g l ks m (r + 1) = barM sds g l ∧ r + 1 ≤ 256, fun σ' H' h => ?_, ?_⟩
        · obtain ⟨bp, as, z5, z6, z7, z8, z9, z10, z11, e, h1, h2, h3, h4, h5, h6, h7⟩ := h
          exact ⟨m, Nat.lt_succ_self m, r + 1, bp, as, z5, z6, z7, z8, z9, z10, z11, e, h1, h2, h3, h4, h5, h6, by omega, h7⟩
        walk_at "vc"
        refine x_lock hsa6 trivial fun od2 => ?_
        walk_at "vc"
        refine ⟨sa, od2, rfl, .inl ⟨stKV ks ds, upd_same, ?_⟩⟩
        intro lp hlp
        have nls : lp ≠ sa := fun z => by rw [z, upd_same] at hlp; cases hlp
        have nlp6 : H6 lp = none := by rw [upd_ne nls] at hlp; exact hlp
        refine dc_it (walk_keys (d := sa) (o := od2) (kvs := stKV ks ds)) (fun i H' => ∃ as' : List Addr, SmT PT qL (upd H6 sa (.frz od2 (.dK (stKV ks ds)))) H' ∧ as'.length = i ∧ H' lp = some (.dK (stKV (ks.take i) as')) ∧ ∀ (j : Nat) t a, ks[j]? = some t → as'[j]? = some a → MxIt H' a (optS sds (kM sds) g l (r + 1) t))
          ⟨[], SmT.new hlp, rfl, upd_same, fun j t a _ h => by simp at h⟩ (fun i H' _ h => by obtain ⟨_, h, _⟩ := h; exact h.frz upd_same) ?_ ?_
        · rintro i x H7 H7' hi ⟨as', sm7, hal, hlp7, hit7⟩ ⟨rfl, k, v, hkv, rfl⟩
          obtain ⟨t, d, ht, hd, rfl⟩ := key_at hSt6.len hkv
          have hil := (List.getElem?_eq_some_iff.mp ht).1
          have htk : t ∈ ks := List.mem_of_getElem? ht
          obtain ⟨d, hdv, hd6⟩ := hSt6.get htk
          have nds : d ≠ sa := fun e => by
            rw [e, hsa6] at hd6
            exact step_ne hi0 hd0 (HO.dK.inj (Option.some.inj hd6)).symm
          have nbd : bp ≠ d := fun e => by
            have h := hB6.at_
            rw [e, hd6] at h
            have hb0 : as[i0]? = some (as[i0]'(by rw [hB6.len]; exact (List.getElem?_eq_some_iff.mp hi0).1)) := List.getElem?_eq_getElem _
            exact step_ne hi0 hb0 (HO.dK.inj (Option.some.inj h))
          have nwd : wp ≠ d := fun e => by
            rw [e, hd6] at hwp6
            exact w_ne (HO.dK.inj (Option.some.inj hwp6))
          have hB7 : BsAt H7' bp ks (optS sds (kM sds) g l r) as := ⟨hB6.len, sm7.dK (by rw [upd_ne nbs]; exact hB6.at_), fun j u a h1 h2 => by
            have := hB6.each j u a h1 h2
            exact ⟨sm7.tup (by rw [upd_ne (ne_of this.1 hsa6 (fun z => nomatch z))]; exact this.1), this.2⟩⟩
          have hsa7 : H7' sa = some (.frz od2 (.dK (stKV ks ds))) := sm7.frz upd_same
          rw [show L2.kV (Sum.inr (S t)) = V.str (S t) from rfl]
          walk_at "vc"
          refine ⟨rfl, ?_⟩
          walk_at "vc"
          refine x_getS (.inr ⟨od2, hsa7⟩) hdv ?_
          walk_at "vc"
          refine ⟨d, bp, wp, stps sds (kM sds) t, ks, as, optS sds (kM sds) g l r, g, l, rfl, sm7.dK (by rw [upd_ne nds]; exact hd6), ?_, fun p hp => ?_, fun p hp p' hp' e => ?_, hB7, fun u _ => Nat.le_trans (optS_bound r u) (by omega), sm7.dK (by rw [upd_ne nws]; exact hwp6), nbd, nwd, sm7.t (tabS_upd hT6 (fun _ z => by rw [hsa6] at z; cases z) fun _ z => by rw [hsa6] at z; cases z), fun p H8 sm8 hm8 => ?_⟩
          · have := goals_len sds (kM sds) t
            unfold goals at this
            rw [List.length_map] at this
            exact this
          · obtain ⟨h1, h2, h3⟩ := mem_stps.mp hp
            exact ⟨h1, hKI.closed t htk _ (by unfold goals; exact List.mem_map.mpr ⟨p, hp, rfl⟩)⟩
          · rw [(mem_stps.mp hp).2.2, (mem_stps.mp hp').2.2, e]
          · have hlp8 := sm8.dK hlp7
            have nas : ∀ a ∈ as' ++ [p], a ≠ lp := fun a ha z => by
              rcases List.mem_append.mp ha with y | y
              · obtain ⟨j, hj⟩ := List.getElem?_of_mem y
                have hjl := (List.getElem?_eq_some_iff.mp hj).1
                have := sm8.tup (hit7 j _ a (List.getElem?_eq_getElem (by omega)) hj).1
                rw [z, hlp8] at this
                cases this
              · rw [List.mem_singleton.mp y] at z
                have := hm8.1
                rw [z, hlp8] at this
                cases this
            refine ⟨_, Sum.inr (S t), rfl, hlp8, by rw [stKV_len (by rw [hal, List.length_take]; omega), List.length_take]; exact Nat.lt_of_le_of_lt (by omega : _ ≤ 1000) (by decide), as' ++ [p], (sm7.trans sm8).putD hlp hlp8, by rw [List.length_append, hal]; rfl, ?_, fun j u a hj ha => ?_⟩
            · rw [upd_same, putK_new _ (stKV_out (take_notin hKI.nodup ht)), stKV_take ht hal]
            · have na := nas a (List.mem_of_getElem? ha)
              by_cases hji : j < as'.length
              · rw [List.getElem?_append_left hji] at ha
                have := hit7 j u a hj ha
                exact ⟨by rw [upd_ne na]; exact sm8.tup this.1, this.2⟩
              · have hjl := (List.getElem?_eq_some_iff.mp ha).1
                rw [List.length_append] at hjl
                have e : j = as'.length := by simp only [List.length_cons, List.length_nil] at hjl; omega
                subst e
                rw [List.getElem?_append_right (Nat.le_refl _), Nat.sub_self] at ha
                cases ha
                rw [hal, ht] at hj
                cases hj
                exact ⟨by rw [upd_ne na]; exact hm8.1, hm8.2⟩
        · rintro H7 ⟨as', sm7, hal, hlp7, hit7⟩
          rw [stKV_len hSt6.len] at hal hlp7
          rw [List.take_length] at hlp7
          walk_at "vc"
          have hsa7 : H7 sa = some (.frz od2 (.dK (stKV ks ds))) := sm7.frz upd_same
          refine ⟨hsa7, ?_⟩
          have sm8 := SmT.lock hsa6 sm7
          have hsa8 : upd H7 sa (.dK (stKV ks ds)) sa = some (.dK (stKV ks ds)) := upd_same
          have hL8 : BsAt (upd H7 sa (.dK (stKV ks ds))) lp ks (optS sds (kM sds) g l (r + 1)) as' := ⟨hal, by rw [upd_ne nls]; exact hlp7, fun j u a h1 h2 => by
            have := hit7 j u a h1 h2
            exact ⟨by rw [upd_ne (ne_of this.1 hsa7 (fun z => nomatch z))]; exact this.1, this.2⟩⟩
          have hB8 := hB6.smT sm8
          have hSt8 := hSt6.smT sm8
          have hwp8 := sm8.dK hwp6
          have smA := sm6.trans sm8
          generalize upd H7 sa (.dK (stKV ks ds)) = H8 at sm8 hsa8 hL8 hB8 hSt8 hwp8 smA
          clear hlp hlp7 hit7 hsa7 sm7 hal nlp6 sm6 hT6 hsa6 hSt6 hwp6 hB6
          walk_at "vc"
          -- bettered
          refine x_lock hsa8 trivial fun od3 => ?_
          have nbs8 : bp ≠ sa := nbs
          walk_at "vc"
          refine ⟨sa, od3, rfl, .inl ⟨stKV ks ds, upd_same, ?_⟩⟩
          intro ep hep
          have nes : ep ≠ sa := fun z => by rw [z, upd_same] at hep; cases hep
          have nep8 : H8 ep = none := by rw [upd_ne nes] at hep; exact hep
          refine lc_it (walk_keys (d := sa) (o := od3) (kvs := stKV ks ds)) (fun i H' => Same (upd H8 sa (.frz od3 (.dK (stKV ks ds)))) H' ∧ H' ep = some (.lst (((ks.take i).filter fun t => decide (optS sds (kM sds) g l (r + 1) t ≠ optS sds (kM sds) g l r t)).map strV))) ⟨same_upd hep, upd_same⟩ (fun i H' _ h => h.1 _ _ upd_same) ?_ ?_
          · rintro i x H9 H9' hi ⟨sm9, hep9⟩ ⟨rfl, k, v, hkv, rfl⟩
            obtain ⟨t, d, ht, hd, rfl⟩ := key_at hSt8.len hkv
            obtain ⟨hil, hiT⟩ := List.getElem?_eq_some_iff.mp ht
            have htk : t ∈ ks := List.mem_of_getElem? ht
            obtain ⟨a', hav', ha'⟩ := hL8.get htk
            obtain ⟨a, hav, ha⟩ := hB8.get htk
            have hlp9 : H9' lp = some (.dK (stKV ks as')) := sm9 _ _ (by rw [upd_ne nls]; exact hL8.at_)
            have hbp9 : H9' bp = some (.dK (stKV ks as)) := sm9 _ _ (by rw [upd_ne nbs]; exact hB8.at_)
            have ha9' : MxIt H9' a' (optS sds (kM sds) g l (r + 1) t) := ⟨sm9 _ _ (by rw [upd_ne (ne_of ha'.1 hsa8 (fun z => nomatch z))]; exact ha'.1), ha'.2⟩
            have ha9 : MxIt H9' a (optS sds (kM sds) g l r t) := ⟨sm9 _ _ (by rw [upd_ne (ne_of ha.1 hsa8 (fun z => nomatch z))]; exact ha.1), ha.2⟩
            rw [show L2.kV (Sum.inr (S t)) = V.str (S t) from rfl]
            walk_at "vc"
            refine ⟨rfl, ?_⟩
            walk_at "vc"
            refine x_getS (.inl hlp9) hav' ?_
            walk_at "vc"
            refine x_getS (.inl hbp9) hav ?_
            refine isD_ne (lkO _ _) (lkO _ _) ha9' ha9 ?_
            walk_at "vc"
            refine ite2 (fun e => ?_) (fun e => ?_)
            · walk_at "vc"
              refine ⟨_, hep9, ?_, sm9.putN hep, ?_⟩
              · rw [List.length_map]
                exact Nat.lt_of_le_of_lt (Nat.le_trans (List.length_filter_le _ _) (by rw [List.length_take]; omega : _ ≤ 1000)) (by decide)
              · rw [upd_same, List.take_succ_eq_append_getElem hil, hiT, List.filter_append, List.map_append, List.filter_cons, if_pos e]
                rfl
            · refine ⟨sm9, ?_⟩
              rw [List.take_succ_eq_append_getElem hil, hiT, List.filter_append, List.filter_cons, if_neg e, List.filter_nil, List.append_nil]
              exact hep9
          · rintro H9 ⟨sm9, hep9⟩
            rw [stKV_len hSt8.len, List.take_length] at hep9
            have hep9 : H9 ep = some (.lst ((betd sds (kM sds) g l ks r).map strV)) := hep9
            walk_at "vc"
            have hsa9 : H9 sa = some (.frz od3 (.dK (stKV ks ds))) := sm9 _ _ upd_same
            refine ⟨hsa9, ?_⟩
            have sm10 : Same H8 (upd H9 sa (.dK (stKV ks ds))) := Same.lockD hsa8 sm9
            have hsa10 : upd H9 sa (.dK (stKV ks ds)) sa = some (.dK (stKV ks ds)) := upd_same
            have hep10 : upd H9 sa (.dK (stKV ks ds)) ep = some (.lst ((betd sds (kM sds) g l ks r).map strV)) := by rw [upd_ne nes]; exact hep9
            generalize upd H9 sa (.dK (stKV ks ds)) = H10 at sm10 hsa10 hep10
            have hL10 := hL8.same sm10
            have hB10 := hB8.same sm10
            have hSt10 := hSt8.same sm10
            have hwp10 := sm10 _ _ hwp8
            have smB := smA.trans (SmT.of sm10)
            clear hep9 sm9 hsa9 nep8 hep hL8 hB8 hSt8 hwp8 smA sm8 hsa8 sm10
            walk_at "vc"
            refine ⟨!((betd sds (kM sds) g l ks r).map strV).isEmpty, .inl ⟨_, SqL.of hep10, rfl⟩, ?_⟩
            unfold barGo at hgo
            cases hbt : betd sds (kM sds) g l ks r with
            | nil =>
              rw [hbt] at hgo
              have hgo : BarR.bar (optS sds (kM sds) g l r []).1 (optS sds (kM sds) g l r []).2 = barM sds g l := hgo
              show if true = true then _ else _
              walk_at "vc"
              obtain ⟨a, hav, ha⟩ := hB10.get hKI.root
              refine x_getS (z := S []) (.inl hB10.at_) hav ?_
              refine x_gTup (SqT.of ha.1) rfl ?_
              walk_at "vc"
              refine ⟨(show 3 ≤ sizeLine by decide), fun p hp => ?_⟩
              rw [← hgo] at q hok
              exact q p _ (smB.trans (SmT.new hp)) (smB.free hT hp) upd_same hok
            | cons t rest =>
              rw [hbt] at hgo hep10
              have hgo : (if rgo (kM sds) [t] t [] (optS sds (kM sds) g l (r + 1) t).2 = [] then barGo sds (kM sds) g l ks m (r + 1) else BarR.ring [] (rgo (kM sds) [t] t [] (optS sds (kM sds) g l (r + 1) t).2)) = barM sds g l := hgo
              show if false = true then _ else _
              have hm : t ∈ betd sds (kM sds) g l ks r := by rw [hbt]; exact List.mem_cons_self
              obtain ⟨htk, hne⟩ := List.mem_filter.mp hm
              have hne := of_decide_eq_true hne
              have hlen := optS_len hne
              have ho := optS_is (sds := sds) (k := kM sds) (g := g) (l := l) (r + 1) t
              have hrg := rgo_is hKI (optS sds (kM sds) g l (r + 1) t).2 [t] t [] (RgI.start htk) ho.lk ho.ok
              obtain ⟨a', hav', ha'⟩ := hL10.get htk
              walk_at "vc"
              refine x_ixL (v := V.str (S t)) (SqL.of hep10) (atI_nat (j := 0) rfl) ?_
              walk_at "vc"
              refine x_ixL (v := V.str (S t)) (SqL.of hep10) (atI_nat (j := 0) rfl) ?_
              refine x_getS (.inl hL10.at_) hav' ?_
              walk_at "vc"
              refine x_ixT (SqT.of ha'.1) (atI_nat (j := 1) rfl) ?_
              walk_at "vc"
              refine ⟨sa, sds, kM sds, ks, ds, t, (optS sds (kM sds) g l (r + 1) t).2, rfl, hSt10, hKI, htk, ho.lk, ho.ok, by omega, fun H11 sm11 => ?_⟩
              have hrl : (rgo (kM sds) [t] t [] (optS sds (kM sds) g l (r + 1) t).2).length ≤ 1000 := by
                rcases hrg with ⟨a, q', b, u, e1, e2, _⟩ | ⟨e1, _⟩
                · rw [e2]
                  have := congrArg List.length e1
                  simp only [List.length_append, List.length_nil] at this
                  omega
                · rw [e1]
                  exact Nat.zero_le _
              walk_at "vc"
              refine ⟨_, ⟨hp_sz (by rw [len_S]; omega), rfl⟩, ?_⟩
              by_cases hrn : rgo (kM sds) [t] t [] (optS sds (kM sds) g l (r + 1) t).2 = []
              · rw [if_pos hrn] at hgo
                rw [hrn]
                show if false = true then _ else _
                walk_at "vc"
                have hr2 : r + 1 ≤ 256 := by
                  rcases hrg with ⟨a, q', b, u, e1, e2, e3, _⟩ | ⟨_, e2⟩
                  · exact absurd (e2.symm.trans hrn) e3
                  · rw [hlen, List.length_nil] at e2
                    omega
                exact ⟨lp, as', _, _, _, _, _, _, _, rfl, smB.trans (SmT.of sm11), sm11 _ _ hsa10, hSt10.same sm11, sm11 _ _ hwp10, hL10.same sm11, hgo, hr2⟩
              · rw [if_neg hrn] at hgo
                have hb : (((S (rgo (kM sds) [t] t [] (optS sds (kM sds) g l (r + 1) t).2)).length : Int) != 0) = true := by
                  rw [len_S, bne_iff_ne]
                  intro e
                  exact hrn (List.length_eq_zero_iff.mp (by omega))
                rw [hb]
                walk_at "vc"
                refine ⟨(show 3 ≤ sizeLine by decide), fun p hp => ?_⟩
                have smC := smB.trans (SmT.of sm11)
                rw [← hgo] at q hok
                exact q p _ (smC.trans (SmT.new hp)) (smC.free hT hp) upd_same hok


theorem okShelf___init__ {f : Addr} {fd : FuncData} {PT : Addr} {aBadRow : Addr} {aBadSeed : Addr} {cShelf fiShelf : Addr} {fneed_letters : Addr} {fdneed_letters : FuncData} {fneed_scale : Addr} {fdneed_scale : FuncData} {fneed_seeds : Addr} {fdneed_seeds : FuncData} {fbar : Addr} {fdbar : FuncData} (F : Fun K "__init__" "Shelf.__init__" sShelf___init__ f fd) (B : Bl mg) (TShelf : KlShelf K mg cShelf fiShelf) (Dneed_letters : DnX P w K mg base "need_letters" 1 ["letters"] (spneed_letters K aBadRow) fneed_letters fdneed_letters) (Dneed_scale : DnX P w K mg base "need_scale" 1 ["scale"] (spneed_scale K aBadRow) fneed_scale fdneed_scale) (Dneed_seeds : DnX P w K mg base "need_seeds" 2 ["seeds"] (spneed_seeds K aBadSeed) fneed_seeds fdneed_seeds) (Dbar : Dn P w K mg base "bar" 5 ["seeds", "scale"] (spbar K PT) fbar fdbar) : FnOk P w K mg base (L2.CX P w) 6 f fd ["self", "letters", "scale", "seeds"] (spShelf___init__ K PT aBadRow aBadSeed cShelf) := by
  refine F.okX scShelf___init__ (fun vs H Q E h => ?_) (fun cdv A outer s H vs Q E hr h => ?_)
  · first
      | (obtain ⟨_, rfl, _⟩ := h; rfl)
      | (obtain ⟨_, _, rfl, _⟩ := h; rfl)
      | (obtain ⟨_, _, _, rfl, _⟩ := h; rfl)
      | (obtain ⟨_, _, _, _, rfl, _⟩ := h; rfl)
      | (obtain ⟨_, _, _, _, _, rfl, _⟩ := h; rfl)
      | (obtain ⟨_, _, _, _, _, _, rfl, _⟩ := h; rfl)
      | (obtain ⟨_, _, _, _, _, _, _, rfl, _⟩ := h; rfl)
      | (obtain ⟨_, _, _, _, _, _, _, _, rfl, _⟩ := h; rfl)
      | (obtain ⟨_, _, _, _, _, _, _, _, _, rfl, _⟩ := h; rfl)
      | (obtain ⟨_, _, _, _, _, _, _, _, _, _, rfl, _⟩ := h; rfl)
      | (obtain ⟨_, _, _, _, _, _, _, _, _, _, _, rfl, _⟩ := h; rfl)
      | (obtain ⟨_, _, _, _, _, _, _, _, _, _, _, _, rfl, _⟩ := h; rfl)
      | (obtain ⟨_, _, _, _, _, _, _, _, _, _, _, _, _, rfl, _⟩ := h; rfl)
      | (obtain ⟨_, _, _, _, _, _, _, _, _, _, _, _, _, _, rfl, _⟩ := h; rfl)
      | (obtain ⟨_, _, _, _, _, _, _, _, _, _, _, _, _, _, _, rfl, _⟩ := h; rfl)
      | (obtain ⟨_, _, _, _, _, _, _, _, _, _, _, _, _, _, _, _, rfl, _⟩ := h; rfl)
      | (obtain ⟨_, _, _, _, _, _, _, _, _, _, _, _, _, _, _, _, _, rfl, _⟩ := h; rfl)
  · obtain ⟨p, dx, sc, sp, lets, g, l, sds, rfl, hp, hlz, hsc, hsp, hsz, hT, qr, qs, q⟩ := h
    refine ⟨_, 
  (pss_cons (ps_expr (pe_call Dneed_letters.ok (hr.mono (by decide)) (by rfl) Dneed_letters.g Dneed_letters.kp Dneed_letters.b .nil (passes_call (takes_of rfl rfl rfl rfl) (fun _ _ _ _ h => h)) (pa_cons (pv 1) pa_nil))) 
  (pss_cons (ps_expr (pe_call Dneed_scale.ok (hr.mono (by decide)) (by rfl) Dneed_scale.g Dneed_scale.kp Dneed_scale.b .nil (passes_call (takes_of rfl rfl rfl rfl) (fun _ _ _ _ h => h)) (pa_cons (pv 2) pa_nil))) 
  (pss_cons (ps_expr (pe_call Dneed_seeds.ok (hr.mono (by decide)) (by rfl) Dneed_seeds.g Dneed_seeds.kp Dneed_seeds.b .nil (passes_call (takes_of rfl rfl rfl rfl) (fun _ _ _ _ h => h)) (pa_cons (pv 3) pa_nil))) (PSs.nox 
  (pss_cons (ps_fld (pv 0) (pv 1) rfl) 
  (pss_cons (ps_fld (pv 0) (pv 2) rfl) 
  (pss_cons (ps_fld (pv 0) (pe_callTy call_list_of (by rfl) B.m_list (by decide +kernel) (pa_cons (pv 3) pa_nil)) rfl) 
  (pss_cons (ps_fld (pv 0) (pe_call Dbar.ok hr (by rfl) Dbar.g Dbar.kp Dbar.b .nil pass0 (pa_cons (pe_fld (pv 0) rfl) (pa_cons (pv 2) pa_nil))) rfl) 
  (pss_one (ps_fld (pv 0) (pe_lst pa_nil) rfl)))))))))), ?_⟩
    walk_at "vc"
    refine ⟨lets, rfl, hlz, fun hlg => ?_, fun hn => qr (fun h => hn h.1) _ fun _ _ e => e⟩
    walk_at "vc"
    refine ⟨sc, g, l, rfl, SqT.of hsc, fun hsg H1 sm1 => ?_, fun hn H1 sm1 => qr (fun h => hn h.2) _ sm1⟩
    obtain ⟨g1, g2, l1, l2⟩ := id hsg
    have hp1 := sm1 _ _ hp
    have hsc1 := sm1 _ _ hsc
    have hsp1 := sm1 _ _ hsp
    have hT1 := hT.ext sm1
    walk_at "vc"
    refine ⟨sp, sds, rfl, SqL.of hsp1, hsz, fun hdg => ?_, fun hn => qs hlg hsg hn _ sm1⟩
    obtain ⟨hsd, h1, h3⟩ := id hdg
    replace q := q hlg hsg hdg
    walk_at "vc"
    refine ⟨p, cShelf, dx, [], rfl, hp1, TShelf.cl, TShelf.n_letters, by simp, ?_⟩
    rw [fl5_put1]
    have X2 : SmX p PT qL H (upd H1 p (.ins cShelf dx [("letters", .str (S lets))])) := (SmX.of sm1).put hp1
    have hp2 : upd H1 p (.ins cShelf dx [("letters", .str (S lets))]) p = some (.ins cShelf dx [("letters", .str (S lets))]) := upd_same
    have back2 : ∀ b, upd H1 p (.ins cShelf dx [("letters", .str (S lets))]) b = none → H b = none := fun b e => by
      have nb : b ≠ p := fun z => by rw [z, upd_same] at e; cases e
      rw [upd_ne nb] at e
      cases h : H b with
      | none => rfl
      | some o => rw [sm1 b o h] at e; cases e
    generalize upd H1 p (.ins cShelf dx [("letters", .str (S lets))]) = H2 at X2 hp2 back2
    walk_at "vc"
    refine ⟨p, cShelf, dx, _, rfl, hp2, TShelf.cl, TShelf.n_scale, by simp, ?_⟩
    rw [fl5_put2]
    have X3 : SmX p PT qL H (upd H2 p (.ins cShelf dx [("letters", .str (S lets)), ("scale", .ref sc)])) := X2.put hp2
    have hp3 : upd H2 p (.ins cShelf dx [("letters", .str (S lets)), ("scale", .ref sc)]) p = some (.ins cShelf dx [("letters", .str (S lets)), ("scale", .ref sc)]) := upd_same
    have back3 : ∀ b, upd H2 p (.ins cShelf dx [("letters", .str (S lets)), ("scale", .ref sc)]) b = none → H b = none := fun b e => by
      have nb : b ≠ p := fun z => by rw [z, upd_same] at e; cases e
      rw [upd_ne nb] at e
      exact back2 b e
    generalize upd H2 p (.ins cShelf dx [("letters", .str (S lets)), ("scale", .ref sc)]) = H3 at X3 hp3 back3
    have hsp3 : H3 sp = some (.lst (sds.map strV)) := X3.k _ _ (fun z => by rw [z, hp] at hsp; cases hsp) hsp (fun _ z => nomatch z)
    have hsc3 : H3 sc = some (.tup [.int g, .int l]) := X3.k _ _ (fun z => by rw [z, hp] at hsc; cases hsc) hsc (fun _ z => nomatch z)
    walk_at "vc"
    intro sq hsq
    have nq : sq ≠ p := fun z => by rw [z, hp3] at hsq; cases hsq
    have hq4 : upd H3 sq (.lst (sds.map strV)) sq = some (.lst (sds.map strV)) := upd_same
    have sm4 : Same H3 (upd H3 sq (.lst (sds.map strV))) := same_upd hsq
    have X4 := X3.smT (SmT.of sm4)
    have hp4 := sm4 _ _ hp3
    have hsc4 := sm4 _ _ hsc3
    have back4 : ∀ b, upd H3 sq (.lst (sds.map strV)) b = none → H b = none := fun b e => by
      have nb : b ≠ sq := fun z => by rw [z, upd_same] at e; cases e
      rw [upd_ne nb] at e
      exact back3 b e
    have hq0 := back3 _ hsq
    generalize upd H3 sq (.lst (sds.map strV)) = H4 at hq4 X4 hp4 hsc4 back4
    walk_at "vc"
    refine ⟨p, cShelf, dx, _, rfl, hp4, TShelf.cl, TShelf.n_seeds, by simp, ?_⟩
    rw [fl5_put3]
    have X5 : SmX p PT qL H (upd H4 p (.ins cShelf dx [("letters", .str (S lets)), ("scale", .ref sc), ("seeds", .ref sq)])) := X4.put hp4
    have hp5 : upd H4 p (.ins cShelf dx [("letters", .str (S lets)), ("scale", .ref sc), ("seeds", .ref sq)]) p = some (.ins cShelf dx [("letters", .str (S lets)), ("scale", .ref sc), ("seeds", .ref sq)]) := upd_same
    have back5 : ∀ b, upd H4 p (.ins cShelf dx [("letters", .str (S lets)), ("scale", .ref sc), ("seeds", .ref sq)]) b = none → H b = none := fun b e => by
      have nb : b ≠ p := fun z => by rw [z, upd_same] at e; cases e
      rw [upd_ne nb] at e
      exact back4 b e
    have hq5 : upd H4 p (.ins cShelf dx [("letters", .str (S lets)), ("scale", .ref sc), ("seeds", .ref sq)]) sq = _ := (upd_ne nq).trans hq4
    have hsc5 : upd H4 p (.ins cShelf dx [("letters", .str (S lets)), ("scale", .ref sc), ("seeds", .ref sq)]) sc = _ := (upd_ne (fun z => by rw [z, hp] at hsc; cases hsc)).trans hsc4
    generalize upd H4 p (.ins cShelf dx [("letters", .str (S lets)), ("scale", .ref sc), ("seeds", .ref sq)]) = H5 at X5 hp5 back5 hq5 hsc5
    have hT5 := X5.t hT
    walk_at "vc"
    refine ⟨p, _, dx, _, _, rfl, hp5, TShelf.cl, TShelf.n_seeds, fl5_get3 _ _ _, ?_⟩
    walk_at "vc"
    refine ⟨sq, sc, sds, g, l, rfl, SqL.of hq5, SqT.of hsc5, hsd, h1, h3, g1, g2, l1, l2, hT5, fun lp H6 st lp0 hlp _ => ?_⟩
    have X6 := X5.smT st
    have hp6 := st.k _ _ hp5 (fun _ z => nomatch z)
    have hq6 := st.lst hq5
    have hsc6 := st.tup hsc5
    have nlp : lp ≠ p := fun z => by rw [z, hp5] at lp0; cases lp0
    have back6 : ∀ b, H6 b = none → H b = none := fun b e => back5 b (st.free hT5 e)
    walk_at "vc"
    refine ⟨p, cShelf, dx, _, rfl, hp6, TShelf.cl, TShelf.n_limit, by simp, ?_⟩
    rw [fl5_put4]
    have X7 : SmX p PT qL H (upd H6 p (.ins cShelf dx [("letters", .str (S lets)), ("scale", .ref sc), ("seeds", .ref sq), ("limit", .ref lp)])) := X6.put hp6
    have hp7 : upd H6 p (.ins cShelf dx [("letters", .str (S lets)), ("scale", .ref sc), ("seeds", .ref sq), ("limit", .ref lp)]) p = some (.ins cShelf dx [("letters", .str (S lets)), ("scale", .ref sc), ("seeds", .ref sq), ("limit", .ref lp)]) := upd_same
    have back7 : ∀ b, upd H6 p (.ins cShelf dx [("letters", .str (S lets)), ("scale", .ref sc), ("seeds", .ref sq), ("limit", .ref lp)]) b = none → H b = none := fun b e => by
      have nb : b ≠ p := fun z => by rw [z, upd_same] at e; cases e
      rw [upd_ne nb] at e
      exact back6 b e
    have hq7 : upd H6 p (.ins cShelf dx [("letters", .str (S lets)), ("scale", .ref sc), ("seeds", .ref sq), ("limit", .ref lp)]) sq = _ := (upd_ne nq).trans hq6
    have hsc7 : upd H6 p (.ins cShelf dx [("letters", .str (S lets)), ("scale", .ref sc), ("seeds", .ref sq), ("limit", .ref lp)]) sc = _ := (upd_ne (fun z => by rw [z, hp] at hsc; cases hsc)).trans hsc6
    have hlp7 : upd H6 p (.ins cShelf dx [("letters", .str (S lets)), ("scale", .ref sc), ("seeds", .ref sq), ("limit", .ref lp)]) lp = _ := (upd_ne nlp).trans hlp
    generalize upd H6 p (.ins cShelf dx [("letters", .str (S lets)), ("scale", .ref sc), ("seeds", .ref sq), ("limit", .ref lp)]) = H7 at X7 hp7 back7 hq7 hsc7 hlp7
    walk_at "vc"
    refine ⟨by decide, fun kp hkp => ?_⟩
    walk_at "vc"
    have sm8 : Same H7 (upd H7 kp (.lst [])) := same_upd hkp
    have hk8 : upd H7 kp (.lst []) kp = some (.lst []) := upd_same
    have hkp0 := back7 _ hkp
    have nkq : sq ≠ kp := fun z => by rw [← z, hq7] at hkp; cases hkp
    have nkp : kp ≠ p := fun z => by rw [z, hp7] at hkp; cases hkp
    have X8 := X7.smT (SmT.of sm8)
    generalize upd H7 kp (.lst []) = H8 at sm8 hk8 X8
    refine ⟨p, cShelf, dx, _, rfl, sm8 _ _ hp7, TShelf.cl, TShelf.n_laid, by simp, ?_⟩
    rw [fl5_put5]
    have ne : ∀ b o, H8 b = some o → b ≠ p → upd H8 p (.ins cShelf dx (fl5 (.str (S lets)) (.ref sc) (.ref sq) (.ref lp) (.ref kp))) b = some o := fun b o e n => (upd_ne n).trans e
    exact q [p, sq, kp] _ ⟨⟨g1, g2, l1, l2, hsd, h1, h3⟩, dx, sc, sq, lp, kp, upd_same, rfl, nkq, ne _ _ (sm8 _ _ hsc7) (fun z => by rw [z, hp] at hsc; cases hsc), ne _ _ (sm8 _ _ hq7) nq, ne _ _ (sm8 _ _ hlp7) nlp, ne _ _ hk8 nkp⟩ (fun b hb => by
      simp only [List.mem_cons, List.not_mem_nil, or_false] at hb
      rcases hb with e | e | e
      · exact .inl e
      · rw [e]; exact .inr hq0
      · rw [e]; exact .inr hkp0) (X8.put (sm8 _ _ hp7))


theorem okShelf_lay {f : Addr} {fd : FuncData} {aBadRow : Addr} {cShelf fiShelf : Addr} {fneed_row : Addr} {fdneed_row : FuncData} (F : Fun K "lay" "Shelf.lay" sShelf_lay f fd) (B : Bl mg) (TShelf : KlShelf K mg cShelf fiShelf) (Dneed_row : DnX P w K mg base "need_row" 1 ["row", "letters"] (spneed_row K aBadRow) fneed_row fdneed_row) : FnOk P w K mg base (L2.CX P w) 2 f fd ["self", "row"] (spShelf_lay K aBadRow cShelf) := by
  refine F.okX scShelf_lay (fun vs H Q E h => ?_) (fun cdv A outer s H vs Q E hr h => ?_)
  · first
      | (obtain ⟨_, rfl, _⟩ := h; rfl)
      | (obtain ⟨_, _, rfl, _⟩ := h; rfl)
      | (obtain ⟨_, _, _, rfl, _⟩ := h; rfl)
      | (obtain ⟨_, _, _, _, rfl, _⟩ := h; rfl)
      | (obtain ⟨_, _, _, _, _, rfl, _⟩ := h; rfl)
      | (obtain ⟨_, _, _, _, _, _, rfl, _⟩ := h; rfl)
      | (obtain ⟨_, _, _, _, _, _, _, rfl, _⟩ := h; rfl)
      | (obtain ⟨_, _, _, _, _, _, _, _, rfl, _⟩ := h; rfl)
      | (obtain ⟨_, _, _, _, _, _, _, _, _, rfl, _⟩ := h; rfl)
      | (obtain ⟨_, _, _, _, _, _, _, _, _, _, rfl, _⟩ := h; rfl)
      | (obtain ⟨_, _, _, _, _, _, _, _, _, _, _, rfl, _⟩ := h; rfl)
      | (obtain ⟨_, _, _, _, _, _, _, _, _, _, _, _, rfl, _⟩ := h; rfl)
      | (obtain ⟨_, _, _, _, _, _, _, _, _, _, _, _, _, rfl, _⟩ := h; rfl)
      | (obtain ⟨_, _, _, _, _, _, _, _, _, _, _, _, _, _, rfl, _⟩ := h; rfl)
      | (obtain ⟨_, _, _, _, _, _, _, _, _, _, _, _, _, _, _, rfl, _⟩ := h; rfl)
      | (obtain ⟨_, _, _, _, _, _, _, _, _, _, _, _, _, _, _, _, rfl, _⟩ := h; rfl)
      | (obtain ⟨_, _, _, _, _, _, _, _, _, _, _, _, _, _, _, _, _, rfl, _⟩ := h; rfl)
  · obtain ⟨p, foot, s, z, rfl, hs, hrl, hz1, qr, q0⟩ := h
    obtain ⟨dx, sc, sq, lp, kp, e1, rfl, n, e2, e3, e4, e5⟩ := hs.ob
    have nkp : kp ≠ p := fun e => by rw [e, e1] at e5; cases e5
    refine ⟨_, 
  (pss_cons (ps_expr (pe_call Dneed_row.ok hr (by rfl) Dneed_row.g Dneed_row.kp Dneed_row.b .nil (passes_call (takes_of rfl rfl rfl rfl) (fun _ _ _ _ h => h)) (pa_cons (pv 1) (pa_cons (pe_fld (pv 0) rfl) pa_nil)))) (PSs.nox 
  (pss_cons (ps_expr (pe_bm PySem.F.plainAttrs_list PySem.F.slot_list_append PySem.F.type_list_append mt_append (pe_fld (pv 0) rfl) (pa_cons (pv 1) pa_nil))) 
  (pss_one (ps_ret (pe_op op_sub (pe_callB call_len_seq (by rfl) B.m_len PySem.boot_len (pa_cons (pe_fld (pv 0) rfl) pa_nil)) pe_int)))))), ?_⟩
    walk_at "vc"
    refine ⟨p, _, dx, _, _, rfl, e1, TShelf.cl, TShelf.n_letters, fl5_letters _ _ _ _ _, ?_⟩
    walk_at "vc"
    refine ⟨z, s.lets, rfl, hz1, fun hok2 => ?_, qr⟩
    have q := q0 hok2
    walk_at "vc"
    refine ⟨p, _, dx, _, _, rfl, e1, TShelf.cl, TShelf.n_laid, fl5_laid _ _ _ _ _, ?_⟩
    refine ⟨.inl ⟨rfl, _, SqL.of e5⟩, ?_⟩
    walk_at "vc"
    refine x_append e5 (by rw [List.length_map]; exact Nat.lt_of_le_of_lt hrl (by decide)) ?_
    have u1 : upd H kp (.lst (s.rows.map strV ++ [.str (S z)])) p = _ := (upd_ne nkp.symm).trans e1
    have u5 : upd H kp (.lst (s.rows.map strV ++ [.str (S z)])) kp = some (.lst ((s.rows ++ [z]).map strV)) := by rw [upd_same, List.map_append]; rfl
    walk_at "vc"
    refine ⟨p, _, dx, _, _, rfl, u1, TShelf.cl, TShelf.n_laid, fl5_laid _ _ _ _ _, ?_⟩
    walk_at "vc"
    have hlen : ((s.rows ++ [z]).map strV).length = s.rows.length + 1 := by rw [List.length_map, List.length_append]; rfl
    rw [hlen, show (((s.rows.length + 1 : Nat) : Int) - 1) = ((s.rows.length : Nat) : Int) by omega]
    have keep : ∀ b o, H b = some o → b ≠ kp → upd H kp (.lst (s.rows.map strV ++ [.str (S z)])) b = some o := fun b o e ne => by rw [upd_ne ne]; exact e
    have tup : ∀ b xs, H b = some (.tup xs) → upd H kp (.lst (s.rows.map strV ++ [.str (S z)])) b = some (.tup xs) := fun b xs e => keep b _ e fun z => by rw [z, e5] at e; cases e
    exact q [p, sq, kp] _ ⟨⟨hs.ok.g1, hs.ok.g2, hs.ok.l1, hs.ok.l2, hs.ok.sd, hs.ok.one, hs.ok.three⟩, dx, sc, sq, lp, kp, u1, rfl, n, tup _ _ e2, keep _ _ e3 n, tup _ _ e4, u5⟩ ⟨fun b o e hb => keep b o e fun z => hb (by rw [z]; simp), tup⟩ (fun b hb => .inl hb)


theorem okShelf_rows {f : Addr} {fd : FuncData} {cShelf fiShelf : Addr} (F : Fun K "rows" "Shelf.rows" sShelf_rows f fd) (B : Bl mg) (TShelf : KlShelf K mg cShelf fiShelf) : FnOk P w K mg base CX0 1 f fd ["self"] (spShelf_rows K cShelf) := by
  refine F.ok scShelf_rows (fun vs H Q E h => ?_) (fun cdv A outer s H vs Q E hr h => ?_)
  · first
      | (obtain ⟨_, rfl, _⟩ := h; rfl)
      | (obtain ⟨_, _, rfl, _⟩ := h; rfl)
      | (obtain ⟨_, _, _, rfl, _⟩ := h; rfl)
      | (obtain ⟨_, _, _, _, rfl, _⟩ := h; rfl)
      | (obtain ⟨_, _, _, _, _, rfl, _⟩ := h; rfl)
      | (obtain ⟨_, _, _, _, _, _, rfl, _⟩ := h; rfl)
      | (obtain ⟨_, _, _, _, _, _, _, rfl, _⟩ := h; rfl)
      | (obtain ⟨_, _, _, _, _, _, _, _, rfl, _⟩ := h; rfl)
      | (obtain ⟨_, _, _, _, _, _, _, _, _, rfl, _⟩ := h; rfl)
      | (obtain ⟨_, _, _, _, _, _, _, _, _, _, rfl, _⟩ := h; rfl)
      | (obtain ⟨_, _, _, _, _, _, _, _, _, _, _, rfl, _⟩ := h; rfl)
      | (obtain ⟨_, _, _, _, _, _, _, _, _, _, _, _, rfl, _⟩ := h; rfl)
      | (obtain ⟨_, _, _, _, _, _, _, _, _, _, _, _, _, rfl, _⟩ := h; rfl)
      | (obtain ⟨_, _, _, _, _, _, _, _, _, _, _, _, _, _, rfl, _⟩ := h; rfl)
      | (obtain ⟨_, _, _, _, _, _, _, _, _, _, _, _, _, _, _, rfl, _⟩ := h; rfl)
      | (obtain ⟨_, _, _, _, _, _, _, _, _, _, _, _, _, _, _, _, rfl, _⟩ := h; rfl)
      | (obtain ⟨_, _, _, _, _, _, _, _, _, _, _, _, _, _, _, _, _, rfl, _⟩ := h; rfl)
  · obtain ⟨p, foot, s, rfl, hs, hrl, q⟩ := h
    obtain ⟨dx, sc, sq, lp, kp, e1, ef, n, e2, e3, e4, e5⟩ := hs.ob
    refine ⟨_, 
  (pss_one (ps_ret (pe_callTy call_list_of (by rfl) B.m_list (by decide +kernel) (pa_cons (pe_fld (pv 0) rfl) pa_nil)))), ?_⟩
    walk_at "vc"
    refine ⟨p, _, dx, _, _, rfl, e1, TShelf.cl, TShelf.n_laid, fl5_laid _ _ _ _ _, ?_⟩
    walk_at "vc"
    intro r hr
    have sm : Same H (upd H r (.lst (s.rows.map strV))) := same_upd hr
    exact q foot _ r (hs.same (fun b _ o e => sm b o e) (fun b xs e => sm b _ e)) ⟨fun b o e _ => sm b o e, fun b xs e => sm b _ e⟩ (fun b hb => .inl hb) hr (fun hb => by
      obtain ⟨o, eo⟩ := hs.here r hb
      rw [hr] at eo
      cases eo) upd_same


theorem okShelf_find {f : Addr} {fd : FuncData} {aBadRow : Addr} {cShelf fiShelf : Addr} {fneed_row : Addr} {fdneed_row : FuncData} (F : Fun K "find" "Shelf.find" sShelf_find f fd) (B : Bl mg) (TShelf : KlShelf K mg cShelf fiShelf) (Dneed_row : DnX P w K mg base "need_row" 1 ["row", "letters"] (spneed_row K aBadRow) fneed_row fdneed_row) : FnOk P w K mg base (L2.CX P w) 2 f fd ["self", "row", "told"] (spShelf_find K aBadRow cShelf) := by
  refine F.okX scShelf_find (fun vs H Q E h => ?_) (fun cdv A outer s H vs Q E hr h => ?_)
  · first
      | (obtain ⟨_, rfl, _⟩ := h; rfl)
      | (obtain ⟨_, _, rfl, _⟩ := h; rfl)
      | (obtain ⟨_, _, _, rfl, _⟩ := h; rfl)
      | (obtain ⟨_, _, _, _, rfl, _⟩ := h; rfl)
      | (obtain ⟨_, _, _, _, _, rfl, _⟩ := h; rfl)
      | (obtain ⟨_, _, _, _, _, _, rfl, _⟩ := h; rfl)
      | (obtain ⟨_, _, _, _, _, _, _, rfl, _⟩ := h; rfl)
      | (obtain ⟨_, _, _, _, _, _, _, _, rfl, _⟩ := h; rfl)
      | (obtain ⟨_, _, _, _, _, _, _, _, _, rfl, _⟩ := h; rfl)
      | (obtain ⟨_, _, _, _, _, _, _, _, _, _, rfl, _⟩ := h; rfl)
      | (obtain ⟨_, _, _, _, _, _, _, _, _, _, _, rfl, _⟩ := h; rfl)
      | (obtain ⟨_, _, _, _, _, _, _, _, _, _, _, _, rfl, _⟩ := h; rfl)
      | (obtain ⟨_, _, _, _, _, _, _, _, _, _, _, _, _, rfl, _⟩ := h; rfl)
      | (obtain ⟨_, _, _, _, _, _, _, _, _, _, _, _, _, _, rfl, _⟩ := h; rfl)
      | (obtain ⟨_, _, _, _, _, _, _, _, _, _, _, _, _, _, _, rfl, _⟩ := h; rfl)
      | (obtain ⟨_, _, _, _, _, _, _, _, _, _, _, _, _, _, _, _, rfl, _⟩ := h; rfl)
      | (obtain ⟨_, _, _, _, _, _, _, _, _, _, _, _, _, _, _, _, _, rfl, _⟩ := h; rfl)
  · obtain ⟨p, foot, s, z, told, rfl, hs, hz, hn, he⟩ := h
    obtain ⟨dx, sc, sq, lp, kp, e1, ef, n, e2, e3, e4, e5⟩ := hs.ob
    refine ⟨_, (pss_cons (ps_expr (pe_call Dneed_row.ok hr (by rfl) Dneed_row.g Dneed_row.kp Dneed_row.b .nil (passes_call (takes_of rfl rfl rfl rfl) (fun _ _ _ _ h => h)) (pa_cons (pv 1) (pa_cons (pe_fld (pv 0) rfl) pa_nil)))) pss_never), ?_⟩
    walk_at "vc"
    refine ⟨p, _, dx, _, _, rfl, e1, TShelf.cl, TShelf.n_letters, fl5_letters _ _ _ _ _, ?_⟩
    walk_at "vc"
    exact ⟨z, s.lets, rfl, hz, fun hg => (hn hg).elim, fun _ => he⟩


theorem oklane {f : Addr} {fd : FuncData} {aBadSeed : Addr} {fneed_seeds : Addr} {fdneed_seeds : FuncData} (F : Fun K "lane" "lane" slane f fd) (B : Bl mg) (Dneed_seeds : DnX P w K mg base "need_seeds" 2 ["seeds"] (spneed_seeds K aBadSeed) fneed_seeds fdneed_seeds) : FnOk P w K mg base (L2.CX P w) 3 f fd ["one", "other", "shift", "seeds", "scale", "told"] (splane K aBadSeed) := by
  refine F.okX sclane (fun vs H Q E h => ?_) (fun cdv A outer s H vs Q E hr h => ?_)
  · first
      | (obtain ⟨_, rfl, _⟩ := h; rfl)
      | (obtain ⟨_, _, rfl, _⟩ := h; rfl)
      | (obtain ⟨_, _, _, rfl, _⟩ := h; rfl)
      | (obtain ⟨_, _, _, _, rfl, _⟩ := h; rfl)
      | (obtain ⟨_, _, _, _, _, rfl, _⟩ := h; rfl)
      | (obtain ⟨_, _, _, _, _, _, rfl, _⟩ := h; rfl)
      | (obtain ⟨_, _, _, _, _, _, _, rfl, _⟩ := h; rfl)
      | (obtain ⟨_, _, _, _, _, _, _, _, rfl, _⟩ := h; rfl)
      | (obtain ⟨_, _, _, _, _, _, _, _, _, rfl, _⟩ := h; rfl)
      | (obtain ⟨_, _, _, _, _, _, _, _, _, _, rfl, _⟩ := h; rfl)
      | (obtain ⟨_, _, _, _, _, _, _, _, _, _, _, rfl, _⟩ := h; rfl)
      | (obtain ⟨_, _, _, _, _, _, _, _, _, _, _, _, rfl, _⟩ := h; rfl)
      | (obtain ⟨_, _, _, _, _, _, _, _, _, _, _, _, _, rfl, _⟩ := h; rfl)
      | (obtain ⟨_, _, _, _, _, _, _, _, _, _, _, _, _, _, rfl, _⟩ := h; rfl)
      | (obtain ⟨_, _, _, _, _, _, _, _, _, _, _, _, _, _, _, rfl, _⟩ := h; rfl)
      | (obtain ⟨_, _, _, _, _, _, _, _, _, _, _, _, _, _, _, _, rfl, _⟩ := h; rfl)
      | (obtain ⟨_, _, _, _, _, _, _, _, _, _, _, _, _, _, _, _, _, rfl, _⟩ := h; rfl)
  · obtain ⟨one, other, sc, sp, shift, told, sds, rfl, hsp, hsl, hn, he⟩ := h
    refine ⟨_, (pss_cons (ps_expr (pe_call Dneed_seeds.ok hr (by rfl) Dneed_seeds.g Dneed_seeds.kp Dneed_seeds.b .nil (passes_call (takes_of rfl rfl rfl rfl) (fun _ _ _ _ h => h)) (pa_cons (pv 3) pa_nil))) pss_never), ?_⟩
    walk_at "vc"
    exact ⟨sp, sds, rfl, hsp, hsl, fun hg => (hn hg).elim, fun _ => he⟩


theorem okshows {f : Addr} {fd : FuncData} {aBadSeed : Addr} {flane : Addr} {fdlane : FuncData} (F : Fun K "shows" "shows" sshows f fd) (B : Bl mg) (Dlane : DnX P w K mg base "lane" 3 ["one", "other", "shift", "seeds", "scale", "told"] (splane K aBadSeed) flane fdlane) : FnOk P w K mg base (L2.CX P w) 4 f fd ["one", "other", "shift", "seeds", "scale", "told", "paper"] (spshows K aBadSeed) := by
  refine F.okX scshows (fun vs H Q E h => ?_) (fun cdv A outer s H vs Q E hr h => ?_)
  · first
      | (obtain ⟨_, rfl, _⟩ := h; rfl)
      | (obtain ⟨_, _, rfl, _⟩ := h; rfl)
      | (obtain ⟨_, _, _, rfl, _⟩ := h; rfl)
      | (obtain ⟨_, _, _, _, rfl, _⟩ := h; rfl)
      | (obtain ⟨_, _, _, _, _, rfl, _⟩ := h; rfl)
      | (obtain ⟨_, _, _, _, _, _, rfl, _⟩ := h; rfl)
      | (obtain ⟨_, _, _, _, _, _, _, rfl, _⟩ := h; rfl)
      | (obtain ⟨_, _, _, _, _, _, _, _, rfl, _⟩ := h; rfl)
      | (obtain ⟨_, _, _, _, _, _, _, _, _, rfl, _⟩ := h; rfl)
      | (obtain ⟨_, _, _, _, _, _, _, _, _, _, rfl, _⟩ := h; rfl)
      | (obtain ⟨_, _, _, _, _, _, _, _, _, _, _, rfl, _⟩ := h; rfl)
      | (obtain ⟨_, _, _, _, _, _, _, _, _, _, _, _, rfl, _⟩ := h; rfl)
      | (obtain ⟨_, _, _, _, _, _, _, _, _, _, _, _, _, rfl, _⟩ := h; rfl)
      | (obtain ⟨_, _, _, _, _, _, _, _, _, _, _, _, _, _, rfl, _⟩ := h; rfl)
      | (obtain ⟨_, _, _, _, _, _, _, _, _, _, _, _, _, _, _, rfl, _⟩ := h; rfl)
      | (obtain ⟨_, _, _, _, _, _, _, _, _, _, _, _, _, _, _, _, rfl, _⟩ := h; rfl)
      | (obtain ⟨_, _, _, _, _, _, _, _, _, _, _, _, _, _, _, _, _, rfl, _⟩ := h; rfl)
  · obtain ⟨one, other, sc, pp, sp, shift, told, sds, rfl, hsp, hsl, hn, he⟩ := h
    refine ⟨_, (pss_cons (ps_asg (pe_call Dlane.ok hr (by rfl) Dlane.g Dlane.kp Dlane.b .nil (passes_call (takes_of rfl rfl rfl rfl) (fun _ _ _ _ h => h)) (pa_cons (pv 0) (pa_cons (pv 1) (pa_cons (pv 2) (pa_cons (pv 3) (pa_cons (pv 4) (pa_cons (pv 5) pa_nil))))))) (pg_tup rfl (pgs_cons (pg_name (i := 7) scshows.nd rfl (.inl rfl)) (pgs_cons (pg_name (i := 8) scshows.nd rfl (.inl rfl)) pgs_nil)))) pss_never), ?_⟩
    walk_at "vc"
    exact ⟨one, other, sc, sp, shift, told, sds, rfl, hsp, hsl, hn, he⟩


theorem ok_law_next {f : Addr} {fd : FuncData} (F : Fun K "_law_next" "_law_next" s_law_next f fd) (B : Bl mg) : FnOk P w K mg base CX0 1 f fd ["_law_h", "_law_many"] (sp_law_next K) := by
  refine F.ok sc_law_next (fun vs H Q E h => ?_) (fun cdv A outer s H vs Q E hr h => ?_)
  · first
      | (obtain ⟨_, rfl, _⟩ := h; rfl)
      | (obtain ⟨_, _, rfl, _⟩ := h; rfl)
      | (obtain ⟨_, _, _, rfl, _⟩ := h; rfl)
      | (obtain ⟨_, _, _, _, rfl, _⟩ := h; rfl)
      | (obtain ⟨_, _, _, _, _, rfl, _⟩ := h; rfl)
      | (obtain ⟨_, _, _, _, _, _, rfl, _⟩ := h; rfl)
      | (obtain ⟨_, _, _, _, _, _, _, rfl, _⟩ := h; rfl)
      | (obtain ⟨_, _, _, _, _, _, _, _, rfl, _⟩ := h; rfl)
      | (obtain ⟨_, _, _, _, _, _, _, _, _, rfl, _⟩ := h; rfl)
      | (obtain ⟨_, _, _, _, _, _, _, _, _, _, rfl, _⟩ := h; rfl)
      | (obtain ⟨_, _, _, _, _, _, _, _, _, _, _, rfl, _⟩ := h; rfl)
      | (obtain ⟨_, _, _, _, _, _, _, _, _, _, _, _, rfl, _⟩ := h; rfl)
      | (obtain ⟨_, _, _, _, _, _, _, _, _, _, _, _, _, rfl, _⟩ := h; rfl)
      | (obtain ⟨_, _, _, _, _, _, _, _, _, _, _, _, _, _, rfl, _⟩ := h; rfl)
      | (obtain ⟨_, _, _, _, _, _, _, _, _, _, _, _, _, _, _, rfl, _⟩ := h; rfl)
      | (obtain ⟨_, _, _, _, _, _, _, _, _, _, _, _, _, _, _, _, rfl, _⟩ := h; rfl)
      | (obtain ⟨_, _, _, _, _, _, _, _, _, _, _, _, _, _, _, _, _, rfl, _⟩ := h; rfl)
  · obtain ⟨a, b, m, rfl, ⟨nab, s0, i0, cs, ha, hb, hcs⟩, hm, hm2, q⟩ := h
    refine ⟨_, 
  (pss_cons (ps_set (i := 2) sc_law_next.nd rfl (.inl rfl) (pe_op op_mod (pe_ix ix_list (pv 0) pe_int (fun _ _ => rfl)) (pe_callB (call_max2 rfl) (by rfl) B.m_max (by decide +kernel) (pa_cons pe_int (pa_cons (pe_callB call_len_seq (by rfl) B.m_len PySem.boot_len (pa_cons (pe_ix ix_list (pv 0) pe_int (fun _ _ => rfl)) pa_nil)) pa_nil))))) 
  (pss_cons (ps_set (i := 3) sc_law_next.nd rfl (.inl rfl) (pe_ifExp (pt_cmpR (op_neD hr.units) (pe_ix ix_list (pv 0) pe_int (fun _ _ => rfl)) (pe_lst pa_nil) (nomark _)) (pe_ix ix_list (pe_ix ix_list (pv 0) pe_int (fun _ _ => rfl)) (pv 2) (fun _ _ => rfl)) pe_int)) 
  (pss_cons (ps_if (pt_cmpR op_ge (pv 3) (pe_op op_pow pe_int pe_int) (nomark _)) 
    (pss_cons (ps_asg (pe_op op_fdiv (pv 3) (pv 1)) (pg_sub (pe_ix ix_list (pv 0) pe_int (fun _ _ => rfl)) (pv 2) set_list)) 
    (pss_one (ps_ret (pe_op op_mod (pv 3) (pv 1))))) pss_nil) 
  (pss_cons (ps_asg (pe_op op_mod (pe_op op_add (pe_op op_add (pe_op op_mul (pe_ix ix_list (pv 0) pe_int (fun _ _ => rfl)) pe_int) (pe_op op_mul (pv 3) pe_int)) pe_int) pe_int) (pg_sub (pv 0) pe_int set_list)) 
  (pss_cons (ps_asg (pe_op op_add (pe_ix ix_list (pv 0) pe_int (fun _ _ => rfl)) pe_int) (pg_sub (pv 0) pe_int set_list)) 
  (pss_one (ps_ret (pe_op op_mod (pe_op op_fdiv (pe_ix ix_list (pv 0) pe_int (fun _ _ => rfl)) pe_int) (pv 1))))))))), ?_⟩
    walk_at "vc"
    refine ⟨by decide, fun p hp => ?_⟩
    have kp : Kp a b H (upd H p (.lst [])) := Kp.new hp
    have ha1 : upd H p (.lst []) a = some (HO.lst [V.int s0, V.ref b, V.int i0]) := by rw [upd_ne (ne_of_none ha hp)]; exact ha
    have hb1 : upd H p (.lst []) b = some (HO.lst (List.map V.int cs)) := by rw [upd_ne (ne_of_none hb hp)]; exact hb
    have hp1 : upd H p (.lst []) p = some (HO.lst []) := upd_same
    generalize upd H p (.lst []) = H1 at kp ha1 hb1 hp1
    refine ⟨.list (cs.map PyData.int), .list [], .lst (SqL.of hb1) (dp_ints cs), .lst (SqL.of hp1) .nil, shaped_ints cs, by decide +kernel, ?_⟩
    have hat : ∃ at_ : Int, (i0 % if ((cs.map V.int).length : Int) > 1 then ((cs.map V.int).length : Int) else 1) = at_ ∧ 0 ≤ at_ ∧ (cs ≠ [] → at_ < (cs.length : Int)) := by
      refine ⟨_, rfl, Int.emod_nonneg _ (by split <;> omega), fun hne => ?_⟩
      have hl : 0 < cs.length := List.length_pos_iff.mpr hne
      rw [List.length_map]
      by_cases h1 : (cs.length : Int) > 1
      · rw [if_pos h1]
        exact Int.emod_lt_of_pos _ (by omega)
      · rw [if_neg h1]
        have := Int.emod_lt_of_pos i0 (show (0 : Int) < 1 by omega)
        omega
    obtain ⟨at_, eat, hat0, hat1⟩ := hat
    rw [eat]
    rw [eqv_ints_nil]
    walk_at "vc"
    by_cases hne : cs = []
    · subst hne
      refine iteF ?_
      walk_at "vc"
      refine ite2 (fun e => absurd (of_decide_eq_true e) (by decide)) (fun e => ?_)
      walk_at "vc"
      refine q _ _ (Int.emod_nonneg _ (by omega)) (Int.emod_lt_of_pos _ hm) ⟨nab, _, _, [], upd_same, ?_, by decide⟩ (kp.trans (Kp.at_a.trans Kp.at_a))
      walk_at "hp"
    · have hb0 : (!cs.isEmpty) = true := by
        cases cs with
        | nil => exact absurd rfl hne
        | cons _ _ => rfl
      rw [hb0]
      refine iteT ?_
      have hl : at_.toNat < cs.length := by have := hat1 hne; omega
      have hix : atI (cs.map V.int) at_ = some (.int cs[at_.toNat]) := atI_of hat0 (ints_at hl)
      have hix2 : ixN (cs.map V.int).length at_ = some at_.toNat := ixN_of hat0 (by rw [List.length_map]; exact hat1 hne)
      walk_at "vc"
      refine ite2 (fun e => ?_) (fun e => ?_)
      · walk_at "vc"
        refine q _ _ (Int.emod_nonneg _ (by omega)) (Int.emod_lt_of_pos _ hm) ⟨nab, s0, i0, cs.set at_.toNat (cs[at_.toNat] / m), ?_, ?_, by rw [List.length_set]; exact hcs⟩ (kp.trans Kp.at_b)
        · walk_at "hp"
        · rw [← map_set_int]
          exact upd_same
      · walk_at "vc"
        refine q _ _ (Int.emod_nonneg _ (by omega)) (Int.emod_lt_of_pos _ hm) ⟨nab, _, _, cs, upd_same, ?_, hcs⟩ (kp.trans (Kp.at_a.trans Kp.at_a))
        walk_at "hp"


theorem ok_law_letters {f : Addr} {fd : FuncData} {f_law_next : Addr} {fd_law_next : FuncData} (F : Fun K "_law_letters" "_law_letters" s_law_letters f fd) (B : Bl mg) (D_law_next : Dn P w K mg base "_law_next" 1 ["_law_h", "_law_many"] (sp_law_next K) f_law_next fd_law_next) : FnOk P w K mg base CX0 2 f fd ["_law_h"] (sp_law_letters K) := by
  refine F.ok sc_law_letters (fun vs H Q E h => ?_) (fun cdv A outer s H vs Q E hr h => ?_)
  · first
      | (obtain ⟨_, rfl, _⟩ := h; rfl)
      | (obtain ⟨_, _, rfl, _⟩ := h; rfl)
      | (obtain ⟨_, _, _, rfl, _⟩ := h; rfl)
      | (obtain ⟨_, _, _, _, rfl, _⟩ := h; rfl)
      | (obtain ⟨_, _, _, _, _, rfl, _⟩ := h; rfl)
      | (obtain ⟨_, _, _, _, _, _, rfl, _⟩ := h; rfl)
      | (obtain ⟨_, _, _, _, _, _, _, rfl, _⟩ := h; rfl)
      | (obtain ⟨_, _, _, _, _, _, _, _, rfl, _⟩ := h; rfl)
      | (obtain ⟨_, _, _, _, _, _, _, _, _, rfl, _⟩ := h; rfl)
      | (obtain ⟨_, _, _, _, _, _, _, _, _, _, rfl, _⟩ := h; rfl)
      | (obtain ⟨_, _, _, _, _, _, _, _, _, _, _, rfl, _⟩ := h; rfl)
      | (obtain ⟨_, _, _, _, _, _, _, _, _, _, _, _, rfl, _⟩ := h; rfl)
      | (obtain ⟨_, _, _, _, _, _, _, _, _, _, _, _, _, rfl, _⟩ := h; rfl)
      | (obtain ⟨_, _, _, _, _, _, _, _, _, _, _, _, _, _, rfl, _⟩ := h; rfl)
      | (obtain ⟨_, _, _, _, _, _, _, _, _, _, _, _, _, _, _, rfl, _⟩ := h; rfl)
      | (obtain ⟨_, _, _, _, _, _, _, _, _, _, _, _, _, _, _, _, rfl, _⟩ := h; rfl)
      | (obtain ⟨_, _, _, _, _, _, _, _, _, _, _, _, _, _, _, _, _, rfl, _⟩ := h; rfl)
  · obtain ⟨a, b, rfl, hs, q⟩ := h
    refine ⟨_, 
  (pss_cons (ps_set (i := 1) sc_law_letters.nd rfl (.inr rfl) (pe_call D_law_next.ok hr (by rfl) D_law_next.g D_law_next.kp D_law_next.b .nil pass0 (pa_cons (pv 0) (pa_cons pe_int pa_nil)))) 
  (pss_one (ps_ret (pe_join pe_str (pe_lc (own := [("_law_k", 2)]) (g := gName 2) (tt := tYes) rfl sc_law_letters.nd (pi_range1 rfl B.m_range (pa_cons (pe_op op_add pe_int (pe_call D_law_next.ok hr (by rfl) D_law_next.g D_law_next.kp D_law_next.b .nil pass0 (pa_cons (pv 0) (pa_cons pe_int pa_nil)))) pa_nil)) (blkOk_by (N := n_law_letters) (sc := defScope s_law_letters) (by decide +kernel)) (fun _ _ _ _ _ => (pg_name (i := 2) sc_law_letters.nd rfl (.inl rfl))) (fun _ _ _ _ _ => pts_nil) (fun _ _ _ _ _ => (pe_ix ix_str pe_str (pe_op op_mod (pe_op op_add (pv 1) (pe_op op_mul pe_int (pv 2))) pe_int) (fun _ _ => rfl)))))))), ?_⟩
    walk_at "vc"
    refine ⟨a, b, 26, rfl, hs, by omega, by omega, fun r H1 r0 r1 hs1 k1 => ?_⟩
    walk_at "vc"
    refine ⟨a, b, 5, rfl, hs1, by omega, by omega, fun r' H2 r2 r3 hs2 k2 => ?_⟩
    walk_at "vc"
    intro D hD
    have hf : ∀ i, i < (2 + r').toNat → atI (("abcdefghijklmnopqrstuvwxyz" : Str).cps.toList) ((r + 7 * (0 + (i : Int))) % 26) = some (97 + (r.toNat + 7 * i) % 26) := fun i hi => by
      have e : (r + 7 * (0 + (i : Int))) % 26 = (((r.toNat + 7 * i) % 26 : Nat) : Int) := by omega
      rw [e]
      refine atI_nat ?_
      have h : (r.toNat + 7 * i) % 26 < 26 := Nat.mod_lt _ (by decide)
      generalize (r.toNat + 7 * i) % 26 = j at h
      have e2 : ("abcdefghijklmnopqrstuvwxyz" : Str).cps.toList = (List.range 26).map (97 + ·) := by decide +kernel
      rw [e2, List.getElem?_map, List.getElem?_range h]
      rfl
    refine lc_range (fun i H' => Same H2 H' ∧ H' D = some (.lst ((List.range i).map fun k => V.str (sg (97 + (r.toNat + 7 * k) % 26))))) ⟨same_upd hD, upd_same⟩ (fun i H' hi h => ?_) (fun H' h => ?_)
    · walk_at "vc"
      refine ⟨rfl, ?_⟩
      walk_at "vc"
      refine x_ixS (by decide +kernel) (hf i hi) ?_
      exact pv_step hD h.1 h.2 (by omega) rfl
    · refine join_end (cs := letL r.toNat (2 + r').toNat) ?_ (by rw [letL_len]; omega) ?_
      · rw [h.2]
        unfold letL
        rw [List.map_map]
        rfl
      · refine q r.toNat (2 + r').toNat H' (by omega) (by omega) (by omega) ?_ (k1.trans (k2.trans (Kp.of h.1)))
        obtain ⟨n, s, i, cs, h1, h2, h3⟩ := hs2
        exact ⟨n, s, i, cs, h.1 _ _ h1, h.1 _ _ h2, h3⟩


theorem ok_law_row {f : Addr} {fd : FuncData} {f_law_next : Addr} {fd_law_next : FuncData} (F : Fun K "_law_row" "_law_row" s_law_row f fd) (B : Bl mg) (D_law_next : Dn P w K mg base "_law_next" 1 ["_law_h", "_law_many"] (sp_law_next K) f_law_next fd_law_next) : FnOk P w K mg base CX0 2 f fd ["_law_h", "_law_letters_here", "_law_most"] (sp_law_row K) := by
  refine F.ok sc_law_row (fun vs H Q E h => ?_) (fun cdv A outer s H vs Q E hr h => ?_)
  · first
      | (obtain ⟨_, rfl, _⟩ := h; rfl)
      | (obtain ⟨_, _, rfl, _⟩ := h; rfl)
      | (obtain ⟨_, _, _, rfl, _⟩ := h; rfl)
      | (obtain ⟨_, _, _, _, rfl, _⟩ := h; rfl)
      | (obtain ⟨_, _, _, _, _, rfl, _⟩ := h; rfl)
      | (obtain ⟨_, _, _, _, _, _, rfl, _⟩ := h; rfl)
      | (obtain ⟨_, _, _, _, _, _, _, rfl, _⟩ := h; rfl)
      | (obtain ⟨_, _, _, _, _, _, _, _, rfl, _⟩ := h; rfl)
      | (obtain ⟨_, _, _, _, _, _, _, _, _, rfl, _⟩ := h; rfl)
      | (obtain ⟨_, _, _, _, _, _, _, _, _, _, rfl, _⟩ := h; rfl)
      | (obtain ⟨_, _, _, _, _, _, _, _, _, _, _, rfl, _⟩ := h; rfl)
      | (obtain ⟨_, _, _, _, _, _, _, _, _, _, _, _, rfl, _⟩ := h; rfl)
      | (obtain ⟨_, _, _, _, _, _, _, _, _, _, _, _, _, rfl, _⟩ := h; rfl)
      | (obtain ⟨_, _, _, _, _, _, _, _, _, _, _, _, _, _, rfl, _⟩ := h; rfl)
      | (obtain ⟨_, _, _, _, _, _, _, _, _, _, _, _, _, _, _, rfl, _⟩ := h; rfl)
      | (obtain ⟨_, _, _, _, _, _, _, _, _, _, _, _, _, _, _, _, rfl, _⟩ := h; rfl)
      | (obtain ⟨_, _, _, _, _, _, _, _, _, _, _, _, _, _, _, _, _, rfl, _⟩ := h; rfl)
  · obtain ⟨a, b, l, m, rfl, hs, hl0, hl1, hm0, hm1, q⟩ := h
    have el : (S l).length = l.length := len_S l
    have hl : (S l).length ≤ sizeLine := hp_sz (by omega)
    refine ⟨_, 
  (pss_one (ps_ret (pe_join pe_str (pe_lc (own := [("_law_k", 3)]) (g := gName 3) (tt := tYes) rfl sc_law_row.nd (pi_range1 rfl B.m_range (pa_cons (pe_call D_law_next.ok hr (by rfl) D_law_next.g D_law_next.kp D_law_next.b .nil pass0 (pa_cons (pv 0) (pa_cons (pe_op op_add (pv 2) pe_int) pa_nil))) pa_nil)) (blkOk_by (N := n_law_row) (sc := defScope s_law_row) (by decide +kernel)) (fun _ _ _ _ _ => (pg_name (i := 3) sc_law_row.nd rfl (.inl rfl))) (fun _ _ _ _ _ => pts_nil) (fun _ _ _ _ _ => (pe_ix ix_str (pv 1) (pe_call D_law_next.ok hr (by rfl) D_law_next.g D_law_next.kp D_law_next.b .nil pass0 (pa_cons (pv 0) (pa_cons (pe_callB call_len_str (by rfl) B.m_len PySem.boot_len (pa_cons (pv 1) pa_nil)) pa_nil))) (fun _ _ => rfl))))))), ?_⟩
    walk_at "vc"
    refine ⟨a, b, m + 1, rfl, hs, by omega, by omega, fun r H1 r0 r1 hs1 k1 => ?_⟩
    walk_at "vc"
    intro D hD
    refine lc_range (fun i H' => Dr a b H1 D (fun c => c ∈ l) i H') (Dr.start hs1 hD) (fun i H' hi h => ?_) (fun H' h => ?_)
    · walk_at "vc"
      refine ⟨rfl, ?_⟩
      walk_at "vc"
      have hsd : Src H' a b := by obtain ⟨_, _, _, x, _⟩ := h; exact x
      refine ⟨a, b, ((S l).length : Nat), rfl, hsd, by omega, by omega, fun r' H2 r2 r3 hs2 k2 => ?_⟩
      have hr' : r'.toNat < l.length := by omega
      refine x_ixS hl (atI_of r2 (List.getElem?_eq_getElem hr')) ?_
      exact h.step hD hs1 (by omega) hs2 k2 (List.getElem_mem hr')
    · obtain ⟨cs, hcl, hok, hsd, kd, hDd⟩ := h
      refine join_end (cs := cs) hDd (by omega) ?_
      exact q cs H' (by omega) hok hsd (k1.trans kd)


theorem ok_law_scale {f : Addr} {fd : FuncData} {f_law_next : Addr} {fd_law_next : FuncData} (F : Fun K "_law_scale" "_law_scale" s_law_scale f fd) (B : Bl mg) (D_law_next : Dn P w K mg base "_law_next" 1 ["_law_h", "_law_many"] (sp_law_next K) f_law_next fd_law_next) : FnOk P w K mg base CX0 2 f fd ["_law_h"] (sp_law_scale K) := by
  refine F.ok sc_law_scale (fun vs H Q E h => ?_) (fun cdv A outer s H vs Q E hr h => ?_)
  · first
      | (obtain ⟨_, rfl, _⟩ := h; rfl)
      | (obtain ⟨_, _, rfl, _⟩ := h; rfl)
      | (obtain ⟨_, _, _, rfl, _⟩ := h; rfl)
      | (obtain ⟨_, _, _, _, rfl, _⟩ := h; rfl)
      | (obtain ⟨_, _, _, _, _, rfl, _⟩ := h; rfl)
      | (obtain ⟨_, _, _, _, _, _, rfl, _⟩ := h; rfl)
      | (obtain ⟨_, _, _, _, _, _, _, rfl, _⟩ := h; rfl)
      | (obtain ⟨_, _, _, _, _, _, _, _, rfl, _⟩ := h; rfl)
      | (obtain ⟨_, _, _, _, _, _, _, _, _, rfl, _⟩ := h; rfl)
      | (obtain ⟨_, _, _, _, _, _, _, _, _, _, rfl, _⟩ := h; rfl)
      | (obtain ⟨_, _, _, _, _, _, _, _, _, _, _, rfl, _⟩ := h; rfl)
      | (obtain ⟨_, _, _, _, _, _, _, _, _, _, _, _, rfl, _⟩ := h; rfl)
      | (obtain ⟨_, _, _, _, _, _, _, _, _, _, _, _, _, rfl, _⟩ := h; rfl)
      | (obtain ⟨_, _, _, _, _, _, _, _, _, _, _, _, _, _, rfl, _⟩ := h; rfl)
      | (obtain ⟨_, _, _, _, _, _, _, _, _, _, _, _, _, _, _, rfl, _⟩ := h; rfl)
      | (obtain ⟨_, _, _, _, _, _, _, _, _, _, _, _, _, _, _, _, rfl, _⟩ := h; rfl)
      | (obtain ⟨_, _, _, _, _, _, _, _, _, _, _, _, _, _, _, _, _, rfl, _⟩ := h; rfl)
  · obtain ⟨a, b, rfl, hs, q⟩ := h
    refine ⟨_, 
  (pss_one (ps_ret (pe_tup (pa_cons (pe_op op_add pe_int (pe_call D_law_next.ok hr (by rfl) D_law_next.g D_law_next.kp D_law_next.b .nil pass0 (pa_cons (pv 0) (pa_cons (pe_ix ix_list (pe_lst (pa_cons pe_int (pa_cons pe_int pa_nil))) (pe_call D_law_next.ok hr (by rfl) D_law_next.g D_law_next.kp D_law_next.b .nil pass0 (pa_cons (pv 0) (pa_cons pe_int pa_nil))) (fun _ _ => rfl)) pa_nil)))) (pa_cons (pe_op op_add pe_int (pe_call D_law_next.ok hr (by rfl) D_law_next.g D_law_next.kp D_law_next.b .nil pass0 (pa_cons (pv 0) (pa_cons pe_int pa_nil)))) pa_nil))))), ?_⟩
    walk_at "vc"
    refine ⟨by decide, fun p hp => ?_⟩
    walk_at "vc"
    refine ⟨a, b, 2, rfl, hs.new hp, by omega, by omega, fun r H1 r0 r1 hs1 k1 => ?_⟩
    have hp1 : H1 p = some (.lst [.int 9, .int 3]) := k1 p _ (hs.ne_a hp) (hs.ne_b hp) upd_same
    have key : ∃ m : Int, atI [V.int 9, V.int 3] r = some (.int m) ∧ 0 < m ∧ m ≤ 9 := by
      have : r = 0 ∨ r = 1 := by omega
      rcases this with rfl | rfl
      · exact ⟨9, rfl, by omega, by omega⟩
      · exact ⟨3, rfl, by omega, by omega⟩
    obtain ⟨m, em, m0, m1⟩ := key
    walk_at "vc"
    refine ⟨a, b, m, rfl, hs1, by omega, by omega, fun r' H2 r2 r3 hs2 k2 => ?_⟩
    walk_at "vc"
    refine ⟨a, b, 9, rfl, hs2, by omega, by omega, fun r'' H3 r4 r5 hs3 k3 => ?_⟩
    walk_at "vc"
    refine ⟨show 2 ≤ sizeLine by decide, fun t ht => ?_⟩
    exact q _ _ t _ (by omega) (by omega) (by omega) (by omega) upd_same (hs3.ne_a ht) (hs3.ne_b ht) (hs3.new ht) ((Kp.new hp).trans (k1.trans (k2.trans (k3.trans (Kp.new ht)))))


theorem ok_law_seed {f : Addr} {fd : FuncData} {f_law_next : Addr} {fd_law_next : FuncData} (F : Fun K "_law_seed" "_law_seed" s_law_seed f fd) (B : Bl mg) (D_law_next : Dn P w K mg base "_law_next" 1 ["_law_h", "_law_many"] (sp_law_next K) f_law_next fd_law_next) : FnOk P w K mg base CX0 2 f fd ["_law_h", "_law_most"] (sp_law_seed K) := by
  refine F.ok sc_law_seed (fun vs H Q E h => ?_) (fun cdv A outer s H vs Q E hr h => ?_)
  · first
      | (obtain ⟨_, rfl, _⟩ := h; rfl)
      | (obtain ⟨_, _, rfl, _⟩ := h; rfl)
      | (obtain ⟨_, _, _, rfl, _⟩ := h; rfl)
      | (obtain ⟨_, _, _, _, rfl, _⟩ := h; rfl)
      | (obtain ⟨_, _, _, _, _, rfl, _⟩ := h; rfl)
      | (obtain ⟨_, _, _, _, _, _, rfl, _⟩ := h; rfl)
      | (obtain ⟨_, _, _, _, _, _, _, rfl, _⟩ := h; rfl)
      | (obtain ⟨_, _, _, _, _, _, _, _, rfl, _⟩ := h; rfl)
      | (obtain ⟨_, _, _, _, _, _, _, _, _, rfl, _⟩ := h; rfl)
      | (obtain ⟨_, _, _, _, _, _, _, _, _, _, rfl, _⟩ := h; rfl)
      | (obtain ⟨_, _, _, _, _, _, _, _, _, _, _, rfl, _⟩ := h; rfl)
      | (obtain ⟨_, _, _, _, _, _, _, _, _, _, _, _, rfl, _⟩ := h; rfl)
      | (obtain ⟨_, _, _, _, _, _, _, _, _, _, _, _, _, rfl, _⟩ := h; rfl)
      | (obtain ⟨_, _, _, _, _, _, _, _, _, _, _, _, _, _, rfl, _⟩ := h; rfl)
      | (obtain ⟨_, _, _, _, _, _, _, _, _, _, _, _, _, _, _, rfl, _⟩ := h; rfl)
      | (obtain ⟨_, _, _, _, _, _, _, _, _, _, _, _, _, _, _, _, rfl, _⟩ := h; rfl)
      | (obtain ⟨_, _, _, _, _, _, _, _, _, _, _, _, _, _, _, _, _, rfl, _⟩ := h; rfl)
  · obtain ⟨a, b, m, rfl, hs, hm0, hm1, q⟩ := h
    refine ⟨_, 
  (pss_cons (ps_set (i := 2) sc_law_seed.nd rfl (.inl rfl) (pe_op op_add pe_int (pe_call D_law_next.ok hr (by rfl) D_law_next.g D_law_next.kp D_law_next.b .nil pass0 (pa_cons (pv 0) (pa_cons (pv 1) pa_nil))))) 
  (pss_cons (ps_if (pt_cmpR op_eq (pv 2) pe_int (nomark _)) 
    (pss_one (ps_ret pe_str)) pss_nil) 
  (pss_one (ps_ret (pe_op op_add_str (pe_op op_add_str pe_str (pe_join pe_str (pe_lc (own := [("_law_k", 3)]) (g := gName 3) (tt := tYes) rfl sc_law_seed.nd (pi_range1 rfl B.m_range (pa_cons (pe_op op_sub (pv 2) pe_int) pa_nil)) (blkOk_by (N := n_law_seed) (sc := defScope s_law_seed) (by decide +kernel)) (fun _ _ _ _ _ => (pg_name (i := 3) sc_law_seed.nd rfl (.inl rfl))) (fun _ _ _ _ _ => pts_nil) (fun _ _ _ _ _ => (pe_ix ix_str pe_str (pe_call D_law_next.ok hr (by rfl) D_law_next.g D_law_next.kp D_law_next.b .nil pass0 (pa_cons (pv 0) (pa_cons pe_int pa_nil))) (fun _ _ => rfl)))))) pe_str))))), ?_⟩
    walk_at "vc"
    refine ⟨a, b, (m : Nat), rfl, hs, by omega, by omega, fun r H1 r0 r1 hs1 k1 => ?_⟩
    walk_at "vc"
    refine ite2 (fun e => ?_) (fun e => ?_)
    · walk_at "vc"
      exact q [35] H1 ⟨Nat.le_refl _, hm0, fun c hc => .inl (List.mem_singleton.mp hc), rfl, rfl⟩ hs1 k1
    · have e1 : 1 + r ≠ 1 := fun h => e (decide_eq_true (by rw [h]))
      walk_at "vc"
      intro D hD
      have en : (1 + r - 2).toNat = (r - 1).toNat := by omega
      rw [en]
      refine lc_range (fun i H' => Dr a b H1 D (fun c => c = 35 ∨ c = 45) i H') (Dr.start hs1 hD) (fun i H' hi h => ?_) (fun H' h => ?_)
      · have hsd : Src H' a b := by obtain ⟨_, _, _, x, _⟩ := h; exact x
        walk_at "vc"
        refine ⟨rfl, ?_⟩
        walk_at "vc"
        refine ⟨a, b, 2, rfl, hsd, by omega, by omega, fun r' H3 r2 r3 hs3 k3 => ?_⟩
        have key : ∃ c : Nat, atI ("#-" : Str).cps.toList r' = some c ∧ (c = 35 ∨ c = 45) := by
          have : r' = 0 ∨ r' = 1 := by omega
          rcases this with rfl | rfl
          · exact ⟨35, by decide +kernel, .inl rfl⟩
          · exact ⟨45, by decide +kernel, .inr rfl⟩
        obtain ⟨c, ec, hc⟩ := key
        refine x_ixS (by decide +kernel) ec ?_
        exact h.step (c := c) hD hs1 (by omega) hs3 k3 hc
      · obtain ⟨cs, hcl, hok, hsd, kd, hDd⟩ := h
        refine x_join (ys := cs.map sg) (SqL.of (by rw [lst_map_signs]; exact hDd)) (by have e := signs_len cs; show ((List.map sg cs).map (·.length)).sum + (cs.map sg).length * ("" : Str).length ≤ _; omega) ?_
        rw [show Txt.join (Str.ofString "") (cs.map sg) = S cs from join_signs _]
        have e1 : (Str.ofString "#") = S [35] := rfl
        rw [e1]
        refine ⟨S [35], S cs, rfl, rfl, hp_sz (by rw [len_S, len_S]; show 1 + cs.length ≤ _; omega), ?_⟩
        rw [S_app]
        walk_at "vc"
        refine ⟨S ([35] ++ cs), S [35], rfl, rfl, hp_sz (by rw [len_S, len_S, List.length_append]; show 1 + cs.length + 1 ≤ _; omega), ?_⟩
        rw [S_app]
        refine q ([35] ++ cs ++ [35]) H' ⟨?_, ?_, fun c hc => ?_, rfl, ?_⟩ hsd (k1.trans kd)
        · rw [List.length_append]
          show 1 ≤ _ + 1
          omega
        · rw [List.length_append, List.length_append]
          show 1 + cs.length + 1 ≤ m
          omega
        · rcases List.mem_append.mp hc with z | z
          · rcases List.mem_append.mp z with z | z
            · exact .inl (List.mem_singleton.mp z)
            · exact hok c z
          · exact .inl (List.mem_singleton.mp z)
        · rw [List.getElem?_append_right (by simp)]
          simp


theorem ok_law_seeds {f : Addr} {fd : FuncData} {f_law_seed : Addr} {fd_law_seed : FuncData} {f_law_next : Addr} {fd_law_next : FuncData} (F : Fun K "_law_seeds" "_law_seeds" s_law_seeds f fd) (B : Bl mg) (D_law_seed : Dn P w K mg base "_law_seed" 2 ["_law_h", "_law_most"] (sp_law_seed K) f_law_seed fd_law_seed) (D_law_next : Dn P w K mg base "_law_next" 1 ["_law_h", "_law_many"] (sp_law_next K) f_law_next fd_law_next) : FnOk P w K mg base CX0 3 f fd ["_law_h", "_law_most"] (sp_law_seeds K) := by
  refine F.ok sc_law_seeds (fun vs H Q E h => ?_) (fun cdv A outer s H vs Q E hr h => ?_)
  · first
      | (obtain ⟨_, rfl, _⟩ := h; rfl)
      | (obtain ⟨_, _, rfl, _⟩ := h; rfl)
      | (obtain ⟨_, _, _, rfl, _⟩ := h; rfl)
      | (obtain ⟨_, _, _, _, rfl, _⟩ := h; rfl)
      | (obtain ⟨_, _, _, _, _, rfl, _⟩ := h; rfl)
      | (obtain ⟨_, _, _, _, _, _, rfl, _⟩ := h; rfl)
      | (obtain ⟨_, _, _, _, _, _, _, rfl, _⟩ := h; rfl)
      | (obtain ⟨_, _, _, _, _, _, _, _, rfl, _⟩ := h; rfl)
      | (obtain ⟨_, _, _, _, _, _, _, _, _, rfl, _⟩ := h; rfl)
      | (obtain ⟨_, _, _, _, _, _, _, _, _, _, rfl, _⟩ := h; rfl)
      | (obtain ⟨_, _, _, _, _, _, _, _, _, _, _, rfl, _⟩ := h; rfl)
      | (obtain ⟨_, _, _, _, _, _, _, _, _, _, _, _, rfl, _⟩ := h; rfl)
      | (obtain ⟨_, _, _, _, _, _, _, _, _, _, _, _, _, rfl, _⟩ := h; rfl)
      | (obtain ⟨_, _, _, _, _, _, _, _, _, _, _, _, _, _, rfl, _⟩ := h; rfl)
      | (obtain ⟨_, _, _, _, _, _, _, _, _, _, _, _, _, _, _, rfl, _⟩ := h; rfl)
      | (obtain ⟨_, _, _, _, _, _, _, _, _, _, _, _, _, _, _, _, rfl, _⟩ := h; rfl)
      | (obtain ⟨_, _, _, _, _, _, _, _, _, _, _, _, _, _, _, _, _, rfl, _⟩ := h; rfl)
  · obtain ⟨a, b, m, rfl, hs, hm0, hm1, q⟩ := h
    refine ⟨_, 
  (pss_one (ps_ret (pe_lc (own := [("_law_k", 2)]) (g := gName 2) (tt := tYes) rfl sc_law_seeds.nd (pi_range1 rfl B.m_range (pa_cons (pe_op op_add pe_int (pe_call D_law_next.ok (hr.mono (by decide)) (by rfl) D_law_next.g D_law_next.kp D_law_next.b .nil pass0 (pa_cons (pv 0) (pa_cons pe_int pa_nil)))) pa_nil)) (blkOk_by (N := n_law_seeds) (sc := defScope s_law_seeds) (by decide +kernel)) (fun _ _ _ _ _ => (pg_name (i := 2) sc_law_seeds.nd rfl (.inl rfl))) (fun _ _ _ _ _ => pts_nil) (fun _ _ _ _ _ => (pe_call D_law_seed.ok hr (by rfl) D_law_seed.g D_law_seed.kp D_law_seed.b .nil pass0 (pa_cons (pv 0) (pa_cons (pv 1) pa_nil))))))), ?_⟩
    walk_at "vc"
    refine ⟨a, b, 3, rfl, hs, by omega, by omega, fun r H1 r0 r1 hs1 k1 => ?_⟩
    walk_at "vc"
    intro D hD
    have na := hs1.ne_a hD
    have nb := hs1.ne_b hD
    refine lc_range (fun i H' => ∃ sds : List (List Nat), sds.length = i ∧ (∀ sd ∈ sds, Sd m sd) ∧ Src H' a b ∧ Kp a b H1 H' ∧ H' D = some (.lst (sds.map strV))) ⟨[], rfl, (fun c h => nomatch h), hs1.new hD, Kp.new hD, upd_same⟩ (fun i H' hi h => ?_) (fun H' h => ?_)
    · obtain ⟨sds, hl, hok, hsd, kd, hDd⟩ := h
      walk_at "vc"
      refine ⟨rfl, ?_⟩
      walk_at "vc"
      refine ⟨a, b, m, rfl, hsd, hm0, hm1, fun sd H2 hsd2 hs2 k2 => ?_⟩
      refine ⟨_, k2 D _ na nb hDd, by rw [List.length_map, hl]; exact Nat.lt_of_le_of_lt (by omega : i ≤ 1000) (by decide), sds ++ [sd], by rw [List.length_append, hl]; rfl, fun s hs' => ?_, hs2.upd na nb, fun p o h1 h2 e => ?_, ?_⟩
      · rcases List.mem_append.mp hs' with z | z
        · exact hok s z
        · rw [List.mem_singleton.mp z]
          exact hsd2
      · rw [upd_ne (ne_of_none e hD)]
        exact k2 p o h1 h2 (kd p o h1 h2 e)
      · rw [upd_same, List.map_append]
        rfl
    · obtain ⟨sds, hl, hok, hsd, kd, hDd⟩ := h
      have hD0 : H D = none := by
        cases e : H D with
        | none => rfl
        | some o =>
          have := k1 D o na nb e
          rw [hD] at this
          cases this
      exact q D sds H' hok (by omega) (by omega) hDd hD0 na nb hsd (k1.trans kd)


theorem ok_law_kind {f : Addr} {fd : FuncData} {aBadRow : Addr} {aBadSeed : Addr} {aBadText : Addr} {aNoPlace : Addr} {aNoRow : Addr} {aReachError : Addr} {aTooLow : Addr} (F : Fun K "_law_kind" "_law_kind" s_law_kind f fd) (B : Bl mg) (XBadRow : XcN K mg "BadRow" aBadRow) (XBadSeed : XcN K mg "BadSeed" aBadSeed) (XBadText : XcN K mg "BadText" aBadText) (XNoPlace : XcN K mg "NoPlace" aNoPlace) (XNoRow : XcN K mg "NoRow" aNoRow) (XReachError : XcN K mg "ReachError" aReachError) (XTooLow : XcN K mg "TooLow" aTooLow) (M : XM K aBadRow aBadSeed aBadText aNoPlace aNoRow aReachError aTooLow) : LaX.KindOk P w K mg base "_law_kind" n_law_kind "_law_work" s_law_kind (TKind aBadRow aBadSeed) f fd := by
  obtain ⟨oc, od, kV, doc, pm, an, cdv, ct, osl, rfl, lk, hcd⟩ := F.ex
  refine ⟨oc, od, .none, kV, doc, pm, an, cdv, ct, osl, rfl, lk, hcd, fun A outer f' s H Q tl act h => ?_⟩
  obtain ⟨wd, aX, hk, h⟩ := h
  refine ⟨_, 
  (pss_cons (ps_try_as (i := 1) rfl rfl sc_law_kind.nd rfl rfl ⟨rfl, by decide, .inl XReachError.gP⟩ takes0 (fun W pn xe tk _ => 
    (pss_one (ps_expr (act W pn xe _ _ tk)))) (fun ae oe cls de pn hz hf => 
    (pss_cons (ps_set (i := 2) sc_law_kind.nd rfl (.inl rfl) (pe_lst (pa_cons (pe_callB (call_isC hz hf) (by rfl) B.m_isinstance (by decide +kernel) (pa_cons (pv 1) (pa_cons (pe_glob (v := .ref aBadRow) rfl XBadRow.gP rfl) pa_nil))) (pa_cons (pe_callB (call_isC hz hf) (by rfl) B.m_isinstance (by decide +kernel) (pa_cons (pv 1) (pa_cons (pe_glob (v := .ref aBadSeed) rfl XBadSeed.gP rfl) pa_nil))) pa_nil)))) 
    (pss_cons (ps_set (i := 3) sc_law_kind.nd rfl (.inl rfl) (pe_callB (call_isCT hz hf) (by rfl) B.m_isinstance (by decide +kernel) (pa_cons (pv 1) (pa_cons (pe_tup (pa_cons (pe_glob (v := .ref aBadText) rfl XBadText.gP rfl) (pa_cons (pe_glob (v := .ref aNoPlace) rfl XNoPlace.gP rfl) (pa_cons (pe_glob (v := .ref aNoRow) rfl XNoRow.gP rfl) (pa_cons (pe_glob (v := .ref aTooLow) rfl XTooLow.gP rfl) pa_nil))))) pa_nil)))) 
    (pss_cons (ps_if (PW.pt (pw_or (pt_val (pv 3)) (pw_or (pt_cmpR op_ne (pe_bmK (K := K) rfl PySem.F.plainAttrs_list PySem.F.slot_list_count PySem.F.type_list_count (show MtR _ _ (rCntF K) from mt_countF) (pv 2) (pa_cons pe_bl pa_nil)) pe_int (nomark _)) (pw_or1 (pt_not (pt_val (pe_callB (call_isC hz hf) (by rfl) B.m_isinstance (by decide +kernel) (pa_cons (pv 1) (pa_cons (pe_bltn (v := .ty "ValueError") (by rfl) B.m_ValueError (by decide +kernel) rfl) pa_nil))))))))) 
      (pss_one (ps_ret pe_str)) pss_nil) 
    (pss_one (ps_ret (pe_ix (show IxR _ (rIxL K) from ix_list) (pe_lst (pa_cons pe_str (pa_cons pe_str pa_nil))) (pe_bmK (K := K) rfl PySem.F.plainAttrs_list PySem.F.slot_list_index PySem.F.type_list_index (show MtR _ _ (rIndex K) from mt_index) (pv 2) (pa_cons pe_bl pa_nil)) (fun _ _ => rfl))))))))) 
  (pss_one (ps_ret pe_str))), ?_⟩
  walk_at "vc"
  refine ⟨rfl, h _ _ fun H1 hq => ?_⟩
  rcases hk with ⟨rfl, rfl⟩ | ⟨rfl, rfl⟩
  · refine ⟨true, PySem.W.exm_ref M.bs_ReachError M.hd_ReachError M.tp_ReachError M.s_BadRow_ReachError, fun _ a ha => ?_, fun h => nomatch h⟩
    walk_at "vc"
    refine x_isC ⟨rfl, M.ec_BadRow, .inl rfl⟩ (.own _) (kit_own M.hd_BadRow M.tp_BadRow M.s_BadRow_BadRow M.s_BadRow_BadRow) ?_
    walk_at "vc"
    refine x_isC ⟨rfl, M.ec_BadRow, .inl rfl⟩ (.own _) (kit_own M.hd_BadSeed M.tp_BadSeed M.s_BadRow_BadSeed M.s_BadRow_BadRow) ?_
    walk_at "vc"
    refine ⟨by decide, fun kp hkp => ?_⟩
    walk_at "vc"
    refine ⟨show 4 ≤ sizeLine by decide, fun tp htp => ?_⟩
    have tk : upd (upd H1 kp (.lst [.bl true, .bl false])) tp (.tup [.ref aBadText, .ref aNoPlace, .ref aNoRow, .ref aTooLow]) kp = some (.lst [.bl true, .bl false]) := (upd_ne (ne_of_none upd_same htp)).trans upd_same
    have sm : Same H1 (upd (upd H1 kp (.lst [.bl true, .bl false])) tp (.tup [.ref aBadText, .ref aNoPlace, .ref aNoRow, .ref aTooLow])) := (same_upd hkp).trans (same_upd htp)
    walk_at "vc"
    refine x_isCT ⟨rfl, M.ec_BadRow, .inl rfl⟩ upd_same (.cons (.own _) (.cons (.own _) (.cons (.own _) (.cons (.own _) .nil)))) (kitAny_cons (kit_own M.hd_BadText M.tp_BadText M.s_BadRow_BadText M.s_BadRow_BadRow) (fun _ => (kitAny_cons (kit_own M.hd_NoPlace M.tp_NoPlace M.s_BadRow_NoPlace M.s_BadRow_BadRow) (fun _ => (kitAny_cons (kit_own M.hd_NoRow M.tp_NoRow M.s_BadRow_NoRow M.s_BadRow_BadRow) (fun _ => (kitAny_cons (kit_own M.hd_TooLow M.tp_TooLow M.s_BadRow_TooLow M.s_BadRow_BadRow) (fun _ => kitAny_nil) (fun h => nomatch h))) (fun h => nomatch h))) (fun h => nomatch h))) (fun h => nomatch h)) ?_
    generalize upd (upd H1 kp (.lst [.bl true, .bl false])) tp (.tup [.ref aBadText, .ref aNoPlace, .ref aNoRow, .ref aTooLow]) = H2 at tk sm
    walk_at "vc"
    refine ⟨.inl ⟨rfl, _, SqL.of tk⟩, ?_⟩
    walk_at "vc"
    refine x_cntF (n := 1) (SqL.of tk) rfl rfl rfl ?_
    walk_at "vc"
    refine x_iteFe (by decide) ?_
    walk_at "vc"
    refine x_isC ⟨rfl, M.ec_BadRow, .inl rfl⟩ (.ty _) (kit_typ (by decide +kernel) M.v_BadRow) ?_
    walk_at "vc"
    refine ⟨by decide, fun wp hwp => ?_⟩
    have tk2 : upd H2 wp (.lst [.str "row", .str "seed"]) kp = some (.lst [.bl true, .bl false]) := (upd_ne (ne_of_none tk hwp)).trans tk
    walk_at "vc"
    refine ⟨.inl ⟨rfl, _, SqL.of tk2⟩, ?_⟩
    walk_at "vc"
    refine x_indexF (j := 0) (SqL.of tk2) rfl rfl rfl rfl (fun m z' hm hz' => ?_) ?_
    · match m, hm with
      | m, hm => omega
    refine x_ixL (xs := [.str "row", .str "seed"]) (v := .str "row") (SqL.of upd_same) rfl ?_
    exact hq _ (sm.trans (same_upd hwp))
  · refine ⟨true, PySem.W.exm_ref M.bs_ReachError M.hd_ReachError M.tp_ReachError M.s_BadSeed_ReachError, fun _ a ha => ?_, fun h => nomatch h⟩
    walk_at "vc"
    refine x_isC ⟨rfl, M.ec_BadSeed, .inl rfl⟩ (.own _) (kit_own M.hd_BadRow M.tp_BadRow M.s_BadSeed_BadRow M.s_BadSeed_BadSeed) ?_
    walk_at "vc"
    refine x_isC ⟨rfl, M.ec_BadSeed, .inl rfl⟩ (.own _) (kit_own M.hd_BadSeed M.tp_BadSeed M.s_BadSeed_BadSeed M.s_BadSeed_BadSeed) ?_
    walk_at "vc"
    refine ⟨by decide, fun kp hkp => ?_⟩
    walk_at "vc"
    refine ⟨show 4 ≤ sizeLine by decide, fun tp htp => ?_⟩
    have tk : upd (upd H1 kp (.lst [.bl false, .bl true])) tp (.tup [.ref aBadText, .ref aNoPlace, .ref aNoRow, .ref aTooLow]) kp = some (.lst [.bl false, .bl true]) := (upd_ne (ne_of_none upd_same htp)).trans upd_same
    have sm : Same H1 (upd (upd H1 kp (.lst [.bl false, .bl true])) tp (.tup [.ref aBadText, .ref aNoPlace, .ref aNoRow, .ref aTooLow])) := (same_upd hkp).trans (same_upd htp)
    walk_at "vc"
    refine x_isCT ⟨rfl, M.ec_BadSeed, .inl rfl⟩ upd_same (.cons (.own _) (.cons (.own _) (.cons (.own _) (.cons (.own _) .nil)))) (kitAny_cons (kit_own M.hd_BadText M.tp_BadText M.s_BadSeed_BadText M.s_BadSeed_BadSeed) (fun _ => (kitAny_cons (kit_own M.hd_NoPlace M.tp_NoPlace M.s_BadSeed_NoPlace M.s_BadSeed_BadSeed) (fun _ => (kitAny_cons (kit_own M.hd_NoRow M.tp_NoRow M.s_BadSeed_NoRow M.s_BadSeed_BadSeed) (fun _ => (kitAny_cons (kit_own M.hd_TooLow M.tp_TooLow M.s_BadSeed_TooLow M.s_BadSeed_BadSeed) (fun _ => kitAny_nil) (fun h => nomatch h))) (fun h => nomatch h))) (fun h => nomatch h))) (fun h => nomatch h)) ?_
    generalize upd (upd H1 kp (.lst [.bl false, .bl true])) tp (.tup [.ref aBadText, .ref aNoPlace, .ref aNoRow, .ref aTooLow]) = H2 at tk sm
    walk_at "vc"
    refine ⟨.inl ⟨rfl, _, SqL.of tk⟩, ?_⟩
    walk_at "vc"
    refine x_cntF (n := 1) (SqL.of tk) rfl rfl rfl ?_
    walk_at "vc"
    refine x_iteFe (by decide) ?_
    walk_at "vc"
    refine x_isC ⟨rfl, M.ec_BadSeed, .inl rfl⟩ (.ty _) (kit_typ (by decide +kernel) M.v_BadSeed) ?_
    walk_at "vc"
    refine ⟨by decide, fun wp hwp => ?_⟩
    have tk2 : upd H2 wp (.lst [.str "row", .str "seed"]) kp = some (.lst [.bl false, .bl true]) := (upd_ne (ne_of_none tk hwp)).trans tk
    walk_at "vc"
    refine ⟨.inl ⟨rfl, _, SqL.of tk2⟩, ?_⟩
    walk_at "vc"
    refine x_indexF (j := 1) (SqL.of tk2) rfl rfl rfl rfl (fun m z' hm hz' => ?_) ?_
    · match m, hm with
      | 0, _ => cases hz'; rfl
    refine x_ixL (xs := [.str "row", .str "seed"]) (v := .str "seed") (SqL.of upd_same) rfl ?_
    exact hq _ (sm.trans (same_upd hwp))

theorem x_addT {x y : Str} {R : Str → Str → Prop} (h : x.length + y.length ≤ 1000000) (q : R x y) : ∃ i j, V.str x = V.str i ∧ V.str y = V.str j ∧ i.length + j.length ≤ sizeLine ∧ R i j := ⟨x, y, rfl, rfl, hp_sz h, q⟩
theorem hd_at {lets : List Nat} (h : 2 ≤ lets.length) : ∃ c, lets[0]? = some c ∧ c ∈ lets := ⟨_, List.getElem?_eq_getElem (by omega), List.getElem_mem _⟩
theorem lst_at {lets : List Nat} (h : 2 ≤ lets.length) : ∃ c, lets[lets.length - 1]? = some c ∧ c ∈ lets := ⟨_, List.getElem?_eq_getElem (by omega), List.getElem_mem _⟩
theorem cutS_some (z : List Nat) (lo hi : Option Int) : ∃ w, cutS (S z) lo hi = S w ∧ w.length ≤ z.length := by
  refine ⟨_, rfl, ?_⟩
  rw [List.length_take, List.length_drop, show (S z).cps.toList = z from tl_S z]
  omega
theorem cnt_le_one {c : Nat} {m : List Nat} (h : m.Nodup) : m.length ≤ (m.filter fun x => decide (x ≠ c)).length + 1 := by
  induction m with
  | nil => simp
  | cons d m ih =>
    obtain ⟨hd, hm⟩ := List.nodup_cons.mp h
    by_cases e : d = c
    · subst e
      rw [List.filter_cons_of_neg (by simp), List.length_cons]
      have : m.filter (fun x => decide (x ≠ d)) = m := List.filter_eq_self.mpr fun x hx => by
        rw [decide_eq_true_eq]
        intro z
        exact hd (z ▸ hx)
      rw [this]
      omega
    · rw [List.filter_cons_of_pos (by simpa using e), List.length_cons, List.length_cons]
      have := ih hm
      omega
theorem out_len : ∀ (lets m : List Nat), m.Nodup → m.length ≤ (m.filter fun x => decide (x ∉ lets)).length + lets.length
  | [], m, _ => by
    rw [List.filter_eq_self.mpr (fun x _ => by simp)]
    simp
  | c :: cs, m, h => by
    have e : (m.filter fun x => decide (x ∉ c :: cs)) = (m.filter fun x => decide (x ≠ c)).filter fun x => decide (x ∉ cs) := by
      rw [List.filter_filter]
      apply List.filter_congr
      intro x _
      rw [Bool.eq_iff_iff]
      simp [not_or, and_comm]
    have h1 := cnt_le_one (c := c) h
    have h2 := out_len cs (m.filter fun x => decide (x ≠ c)) (h.filter _)
    rw [e, List.length_cons]
    omega
def alph : List Nat := (List.range 26).map (97 + ·)
theorem alph_nd : alph.Nodup := by decide +kernel
theorem alph_len : alph.length = 26 := by decide +kernel
theorem alph_S : ("abcdefghijklmnopqrstuvwxyz" : Str).cps.toList = alph := by decide +kernel
/-- the signs of the alphabet that are no letters here -/
def outs (lets : List Nat) : List Nat := alph.filter fun x => decide (x ∉ lets)
theorem outs_len {lets : List Nat} (h : LetG lets) : 20 ≤ (outs lets).length := by
  have := out_len lets alph alph_nd
  rw [alph_len] at this
  have := h.2.1
  unfold outs
  omega
theorem outs_no {lets : List Nat} {c : Nat} (h : c ∈ outs lets) : c ∉ lets := of_decide_eq_true (List.mem_filter.mp h).2
theorem row_bad {lets z : List Nat} {c : Nat} (h : c ∈ z) (n : c ∉ lets) : ¬ RowOk z lets := fun r => n (r.2 c h)
theorem seeds_bad {sds : List (List Nat)} {sd : List Nat} (h : sd ∈ sds) (n : ¬ Sd 8 sd) : ¬ SdsG sds := fun r => n (r.1 sd h)
theorem sd_bad {sd : List Nat} {c : Nat} (h : c ∈ sd) (n1 : c ≠ 35) (n2 : c ≠ 45) : ¬ Sd 8 sd := fun r => by
  rcases r.all c h with e | e
  · exact n1 e
  · exact n2 e
structure Rz (a b rp sp : Addr) (rws sds : List (List Nat)) (H0 H : Hp) : Prop where
  src : Src H a b
  kp : Kp a b H0 H
  rp_ : H rp = some (.lst (rws.map strV))
  sp_ : H sp = some (.lst (sds.map strV))
theorem Rz.same {a b rp sp : Addr} {rws sds : List (List Nat)} {H0 H H' : Hp} (h : Rz a b rp sp rws sds H0 H) (e : Same H H') : Rz a b rp sp rws sds H0 H' := ⟨Src_same h.src e, h.kp.trans (Kp.of e), e _ _ h.rp_, e _ _ h.sp_⟩
theorem Rz.step {a b rp sp : Addr} {rws sds : List (List Nat)} {H0 H H' : Hp} (n1 : rp ≠ a) (n2 : rp ≠ b) (n3 : sp ≠ a) (n4 : sp ≠ b) (h : Rz a b rp sp rws sds H0 H) (s : Src H' a b) (k : Kp a b H H') : Rz a b rp sp rws sds H0 H' := ⟨s, h.kp.trans k, k _ _ n1 n2 h.rp_, k _ _ n3 n4 h.sp_⟩
def Scs (H : Hp) (ts : List (Addr × Int × Int)) : Prop := ∀ t ∈ ts, H t.1 = some (.tup [.int t.2.1, .int t.2.2])
theorem Scs.nil {H : Hp} : Scs H [] := fun _ h => nomatch h
theorem Scs.add {H : Hp} {ts : List (Addr × Int × Int)} {p : Addr} {g l : Int} (h : Scs H ts) (n : H p = none) : Scs (upd H p (.tup [.int g, .int l])) (ts ++ [(p, g, l)]) := fun t ht => by
  rcases List.mem_append.mp ht with e | e
  · exact same_upd n _ _ (h t e)
  · rw [List.mem_singleton.mp e]; exact upd_same
theorem Scs.same {H H' : Hp} {ts : List (Addr × Int × Int)} (h : Scs H ts) (e : Same H H') : Scs H' ts := fun t ht => e _ _ (h t ht)
theorem Scs.kp {a b : Addr} {H H' : Hp} {ts : List (Addr × Int × Int)} (h : Scs H ts) (s : Src H a b) (k : Kp a b H H') : Scs H' ts := fun t ht => k.tups s (h t ht)
def Ls (a b : Addr) (H : Hp) (ls : List (Addr × List (List Nat))) : Prop := ∀ t ∈ ls, H t.1 = some (.lst (t.2.map strV)) ∧ t.1 ≠ a ∧ t.1 ≠ b
structure Pz (a b rp sp cp : Addr) (rws sds : List (List Nat)) (ts : List (Addr × Int × Int)) (ls : List (Addr × List (List Nat))) (H0 H : Hp) : Prop where
  r : Rz a b rp sp rws sds H0 H
  z : Scs H ts
  c : H cp = some (.lst (ts.map fun t => V.ref t.1))
  l : Ls a b H ls
structure Ne6 (a b rp sp cp : Addr) : Prop where
  n1 : rp ≠ a
  n2 : rp ≠ b
  n3 : sp ≠ a
  n4 : sp ≠ b
  n5 : cp ≠ a
  n6 : cp ≠ b
section
variable {a b rp sp cp p : Addr} {rws sds w : List (List Nat)} {ts : List (Addr × Int × Int)} {ls : List (Addr × List (List Nat))} {H0 H H' : Hp}
theorem Pz.same (h : Pz a b rp sp cp rws sds ts ls H0 H) (e : Same H H') : Pz a b rp sp cp rws sds ts ls H0 H' := ⟨h.r.same e, h.z.same e, e _ _ h.c, fun t ht => ⟨e _ _ (h.l t ht).1, (h.l t ht).2⟩⟩
theorem Pz.new (h : Pz a b rp sp cp rws sds ts ls H0 H) (n : H p = none) : Pz a b rp sp cp rws sds ts (ls ++ [(p, w)]) H0 (upd H p (.lst (w.map strV))) := by
  have s := h.same (same_upd (o := .lst (w.map strV)) n)
  refine ⟨s.r, s.z, s.c, fun t ht => ?_⟩
  rcases List.mem_append.mp ht with e | e
  · exact s.l t e
  · rw [List.mem_singleton.mp e]
    exact ⟨upd_same, h.r.src.ne_a n, h.r.src.ne_b n⟩
theorem Pz.step (N : Ne6 a b rp sp cp) (h : Pz a b rp sp cp rws sds ts ls H0 H) (s : Src H' a b) (k : Kp a b H H') : Pz a b rp sp cp rws sds ts ls H0 H' :=
  ⟨h.r.step N.n1 N.n2 N.n3 N.n4 s k, h.z.kp h.r.src k, k _ _ N.n5 N.n6 h.c, fun t ht => ⟨k _ _ (h.l t ht).2.1 (h.l t ht).2.2 (h.l t ht).1, (h.l t ht).2⟩⟩
theorem Pz.at (h : Pz a b rp sp cp rws sds ts ls H0 H) {t : Addr × List (List Nat)} (m : t ∈ ls) : H t.1 = some (.lst (t.2.map strV)) := (h.l t m).1
end
theorem bds_bad {lets : List Nat} {c0 cl : Nat} (h : LetG lets) (ml : cl ∈ lets) : ∀ w ∈ ([[c0], lets ++ [97, 98, 99, 100, 101, 102, 103], lets ++ [cl], lets ++ [65], [], [97, 32, 98]] : List (List Nat)), w.length ≤ 1000 ∧ ¬ LetG w := by
  have h6 := h.2.1
  have h2 := h.1
  intro w hw
  simp only [List.mem_cons, List.not_mem_nil, or_false] at hw
  rcases hw with rfl | rfl | rfl | rfl | rfl | rfl
  · exact ⟨by simp, fun g => by have := g.1; simp at this⟩
  · exact ⟨by simp; omega, fun g => by have := g.2.1; simp at this⟩
  · exact ⟨by simp; omega, fun g => (List.nodup_append.mp g.2.2.2).2.2 cl ml cl (by simp) rfl⟩
  · exact ⟨by simp; omega, fun g => by have := g.2.2.1 65 (by simp); omega⟩
  · exact ⟨by simp, fun g => by have := g.1; simp at this⟩
  · exact ⟨by simp, fun g => by have := g.2.2.1 32 (by simp); omega⟩
theorem rws_bad {lets u1 u2 : List Nat} {c0 o : Nat} (hl : ∀ c ∈ lets, 97 ≤ c ∧ c ≤ 122) (h1 : u1.length ≤ 60) (h2 : u2.length ≤ 60) (ho : o ∉ lets) : ∀ w ∈ ([u1 ++ [o] ++ u2, List.replicate 61 c0, u1 ++ [65] ++ u2, [61]] : List (List Nat)), w.length ≤ 1000 ∧ ¬ RowOk w lets := by
  intro w hw
  simp only [List.mem_cons, List.not_mem_nil, or_false] at hw
  rcases hw with rfl | rfl | rfl | rfl
  · exact ⟨by simp; omega, row_bad (c := o) (by simp) ho⟩
  · exact ⟨by simp, fun g => by have := g.1; simp at this⟩
  · exact ⟨by simp; omega, row_bad (c := 65) (by simp) fun h => by have := hl _ h; omega⟩
  · exact ⟨by simp, row_bad (c := 61) (by simp) fun h => by have := hl _ h; omega⟩
theorem sq_bad {w : List Nat} {cx : Nat} (h : cx ∈ w) (n1 : cx ≠ 35) (n2 : cx ≠ 45) (hl : w.length ≤ 1000) : ∀ v ∈ ([[], [35, 35, 35, 35, 35, 35, 35, 35, 35], [45, 35], [35, 45], [45], [35, 120, 35], [35, 32, 35], [35, 35, 45], w, w] : List (List Nat)), v.length ≤ 1000 ∧ ¬ Sd 8 v := by
  have no : ∀ {v : List Nat}, sdB v = false → ¬ Sd 8 v := fun {v} e g => by
    rw [sdB_iff.mpr g] at e
    cases e
  intro v hv
  simp only [List.mem_cons, List.not_mem_nil, or_false] at hv
  rcases hv with rfl | rfl | rfl | rfl | rfl | rfl | rfl | rfl | rfl | rfl
  · exact ⟨by decide, no (by decide)⟩
  · exact ⟨by decide, no (by decide)⟩
  · exact ⟨by decide, no (by decide)⟩
  · exact ⟨by decide, no (by decide)⟩
  · exact ⟨by decide, no (by decide)⟩
  · exact ⟨by decide, no (by decide)⟩
  · exact ⟨by decide, no (by decide)⟩
  · exact ⟨by decide, no (by decide)⟩
  · exact ⟨hl, sd_bad h n1 n2⟩
  · exact ⟨hl, sd_bad h n1 n2⟩
theorem ok_law_bad {f : Addr} {fd : FuncData} {f_law_next : Addr} {fd_law_next : FuncData} (F : Fun K "_law_bad" "_law_bad" s_law_bad f fd) (B : Bl mg) (D_law_next : Dn P w K mg base "_law_next" 1 ["_law_h", "_law_many"] (sp_law_next K) f_law_next fd_law_next) : FnOk P w K mg base CX0 2 f fd ["_law_h", "_law_letters_here", "_law_row_here", "_law_seeds_here"] (sp_law_bad K) := by
  refine F.ok sc_law_bad (fun vs H Q E h => ?_) (fun cdv A outer s H vs Q E hr h => ?_)
  · first
      | (obtain ⟨_, rfl, _⟩ := h; rfl)
      | (obtain ⟨_, _, rfl, _⟩ := h; rfl)
      | (obtain ⟨_, _, _, rfl, _⟩ := h; rfl)
      | (obtain ⟨_, _, _, _, rfl, _⟩ := h; rfl)
      | (obtain ⟨_, _, _, _, _, rfl, _⟩ := h; rfl)
      | (obtain ⟨_, _, _, _, _, _, rfl, _⟩ := h; rfl)
      | (obtain ⟨_, _, _, _, _, _, _, rfl, _⟩ := h; rfl)
      | (obtain ⟨_, _, _, _, _, _, _, _, rfl, _⟩ := h; rfl)
      | (obtain ⟨_, _, _, _, _, _, _, _, _, rfl, _⟩ := h; rfl)
      | (obtain ⟨_, _, _, _, _, _, _, _, _, _, rfl, _⟩ := h; rfl)
      | (obtain ⟨_, _, _, _, _, _, _, _, _, _, _, rfl, _⟩ := h; rfl)
      | (obtain ⟨_, _, _, _, _, _, _, _, _, _, _, _, rfl, _⟩ := h; rfl)
      | (obtain ⟨_, _, _, _, _, _, _, _, _, _, _, _, _, rfl, _⟩ := h; rfl)
      | (obtain ⟨_, _, _, _, _, _, _, _, _, _, _, _, _, _, rfl, _⟩ := h; rfl)
      | (obtain ⟨_, _, _, _, _, _, _, _, _, _, _, _, _, _, _, rfl, _⟩ := h; rfl)
      | (obtain ⟨_, _, _, _, _, _, _, _, _, _, _, _, _, _, _, _, rfl, _⟩ := h; rfl)
      | (obtain ⟨_, _, _, _, _, _, _, _, _, _, _, _, _, _, _, _, _, rfl, _⟩ := h; rfl)
  · obtain ⟨a, b, sp, lets, z, sds, rfl, hS, hlg, hz, hsp, npa, npb, hdg, q⟩ := h
    have hlc : ∀ c ∈ lets, 97 ≤ c ∧ c ≤ 122 := hlg.2.2.1
    have hl2 : 2 ≤ lets.length := hlg.1
    have hl6 : lets.length ≤ 6 := hlg.2.1
    have hnd := hlg.2.2.2
    have h20 := outs_len hlg
    refine ⟨_, 
  (pss_cons (ps_set (i := 4) sc_law_bad.nd rfl (.inl rfl) (pe_ix ix_list (pe_lc (own := [("_law_sign", 14)]) (g := gName 14) rfl sc_law_bad.nd (pi_str pe_str) (blkOk_by (N := n_law_bad) (sc := defScope s_law_bad) (by decide +kernel)) (fun _ _ _ _ _ => (pg_name (i := 14) sc_law_bad.nd rfl (.inl rfl))) (fun _ _ _ _ _ => pts_one (pt_cmpR op_notIn_sign (pv 14) (pv 1) (by rfl))) (fun _ _ _ _ _ => (pv 14))) (pe_call D_law_next.ok hr (by rfl) D_law_next.g D_law_next.kp D_law_next.b .nil pass0 (pa_cons (pv 0) (pa_cons pe_int pa_nil))) (fun _ _ => rfl))) 
  (pss_cons (ps_set (i := 5) sc_law_bad.nd rfl (.inl rfl) (pe_call D_law_next.ok hr (by rfl) D_law_next.g D_law_next.kp D_law_next.b .nil pass0 (pa_cons (pv 0) (pa_cons (pe_op op_add (pe_callB call_len_str (by rfl) B.m_len PySem.boot_len (pa_cons (pv 2) pa_nil)) pe_int) pa_nil)))) 
  (pss_cons (ps_set (i := 6) sc_law_bad.nd rfl (.inl rfl) (pe_lst (pa_cons (pe_op op_add_str (pe_op op_add_str (pe_slice sl_str (pv 2) po_none (po_some (pv 5))) (pv 4)) (pe_slice sl_str (pv 2) (po_some (pv 5)) (po_some pe_int))) (pa_cons (pe_op op_mulS (pe_ix ix_str (pv 1) pe_int (fun _ _ => rfl)) pe_int) (pa_cons (pe_op op_add_str (pe_op op_add_str (pe_slice sl_str (pv 2) po_none (po_some (pv 5))) pe_str) (pe_slice sl_str (pv 2) (po_some (pv 5)) (po_some pe_int))) (pa_cons pe_str pa_nil)))))) 
  (pss_cons (ps_set (i := 7) sc_law_bad.nd rfl (.inl rfl) (pe_ix ix_list (pe_lst (pa_cons (pe_ix ix_str (pv 1) pe_int (fun _ _ => rfl)) (pa_cons (pe_op op_add_str (pv 1) pe_str) (pa_cons (pe_op op_add_str (pv 1) (pe_ix ix_str (pv 1) (pe_un un_neg pe_int) (fun _ _ => rfl))) (pa_cons (pe_op op_add_str (pv 1) pe_str) (pa_cons pe_str (pa_cons pe_str pa_nil))))))) (pe_call D_law_next.ok hr (by rfl) D_law_next.g D_law_next.kp D_law_next.b .nil pass0 (pa_cons (pv 0) (pa_cons pe_int pa_nil))) (fun _ _ => rfl))) 
  (pss_cons (ps_set (i := 8) sc_law_bad.nd rfl (.inl rfl) (pe_lst (pa_cons (pe_tup (pa_cons pe_int (pa_cons pe_int pa_nil))) (pa_cons (pe_tup (pa_cons pe_int (pa_cons pe_int pa_nil))) (pa_cons (pe_tup (pa_cons pe_int (pa_cons pe_int pa_nil))) (pa_cons (pe_tup (pa_cons pe_int (pa_cons pe_int pa_nil))) (pa_cons (pe_tup (pa_cons pe_int (pa_cons (pe_un un_neg pe_int) pa_nil))) (pa_cons (pe_tup (pa_cons pe_int (pa_cons pe_int pa_nil))) (pa_cons (pe_tup (pa_cons pe_int (pa_cons pe_int pa_nil))) (pa_cons (pe_tup (pa_cons (pe_un un_neg pe_int) (pa_cons pe_int pa_nil))) pa_nil)))))))))) 
  (pss_cons (ps_set (i := 9) sc_law_bad.nd rfl (.inl rfl) (pe_op op_add_str (pe_op op_add_str pe_str (pe_join pe_str (pe_lc (own := [("_law_k", 15)]) (g := gName 15) (tt := tYes) rfl sc_law_bad.nd (pi_range1 rfl B.m_range (pa_cons (pe_op op_add pe_int (pe_call D_law_next.ok hr (by rfl) D_law_next.g D_law_next.kp D_law_next.b .nil pass0 (pa_cons (pv 0) (pa_cons pe_int pa_nil)))) pa_nil)) (blkOk_by (N := n_law_bad) (sc := defScope s_law_bad) (by decide +kernel)) (fun _ _ _ _ _ => (pg_name (i := 15) sc_law_bad.nd rfl (.inl rfl))) (fun _ _ _ _ _ => pts_nil) (fun _ _ _ _ _ => (pe_ix ix_str pe_str (pe_call D_law_next.ok hr (by rfl) D_law_next.g D_law_next.kp D_law_next.b .nil pass0 (pa_cons (pv 0) (pa_cons pe_int pa_nil))) (fun _ _ => rfl)))))) pe_str)) 
  (pss_cons (ps_set (i := 10) sc_law_bad.nd rfl (.inl rfl) (pe_call D_law_next.ok hr (by rfl) D_law_next.g D_law_next.kp D_law_next.b .nil pass0 (pa_cons (pv 0) (pa_cons (pe_callB call_len_str (by rfl) B.m_len PySem.boot_len (pa_cons (pv 9) pa_nil)) pa_nil)))) 
  (pss_cons (ps_set (i := 9) sc_law_bad.nd rfl (.inl rfl) (pe_op op_add_str (pe_op op_add_str (pe_slice sl_str (pv 9) po_none (po_some (pv 10))) (pe_ix ix_str pe_str (pe_call D_law_next.ok hr (by rfl) D_law_next.g D_law_next.kp D_law_next.b .nil pass0 (pa_cons (pv 0) (pa_cons pe_int pa_nil))) (fun _ _ => rfl))) (pe_slice sl_str (pv 9) (po_some (pe_op op_add (pv 10) pe_int)) po_none))) 
  (pss_cons (ps_set (i := 11) sc_law_bad.nd rfl (.inl rfl) (pe_ix ix_list (pe_lst (pa_cons pe_str (pa_cons pe_str (pa_cons pe_str (pa_cons pe_str (pa_cons pe_str (pa_cons pe_str (pa_cons pe_str (pa_cons pe_str (pa_cons (pv 9) (pa_cons (pv 9) pa_nil))))))))))) (pe_call D_law_next.ok hr (by rfl) D_law_next.g D_law_next.kp D_law_next.b .nil pass0 (pa_cons (pv 0) (pa_cons pe_int pa_nil))) (fun _ _ => rfl))) 
  (pss_cons (ps_set (i := 12) sc_law_bad.nd rfl (.inl rfl) (pe_ix ix_list (pe_lst (pa_cons (pe_op op_cat (pe_slice sl_list (pv 3) po_none (po_some pe_int)) (pe_lst (pa_cons (pv 11) pa_nil))) (pa_cons (pe_lst (pa_cons (pv 11) pa_nil)) (pa_cons (pe_op op_cat (pe_lst (pa_cons (pv 11) pa_nil)) (pe_slice sl_list (pv 3) po_none (po_some pe_int))) pa_nil)))) (pe_call D_law_next.ok hr (by rfl) D_law_next.g D_law_next.kp D_law_next.b .nil pass0 (pa_cons (pv 0) (pa_cons pe_int pa_nil))) (fun _ _ => rfl))) 
  (pss_cons (ps_set (i := 13) sc_law_bad.nd rfl (.inl rfl) (pe_ix ix_list (pe_lst (pa_cons (pe_lst pa_nil) (pa_cons (pe_lst (pa_cons pe_str (pa_cons pe_str (pa_cons pe_str (pa_cons pe_str pa_nil))))) (pa_cons (pv 12) pa_nil)))) (pe_call D_law_next.ok hr (by rfl) D_law_next.g D_law_next.kp D_law_next.b .nil pass0 (pa_cons (pv 0) (pa_cons pe_int pa_nil))) (fun _ _ => rfl))) 
  (pss_one (ps_ret (pe_tup (pa_cons (pv 7) (pa_cons (pe_ix ix_list (pv 6) (pe_call D_law_next.ok hr (by rfl) D_law_next.g D_law_next.kp D_law_next.b .nil pass0 (pa_cons (pv 0) (pa_cons pe_int pa_nil))) (fun _ _ => rfl)) (pa_cons (pe_ix ix_list (pv 8) (pe_call D_law_next.ok hr (by rfl) D_law_next.g D_law_next.kp D_law_next.b .nil pass0 (pa_cons (pv 0) (pa_cons pe_int pa_nil))) (fun _ _ => rfl)) (pa_cons (pv 13) pa_nil)))))))))))))))))), ?_⟩
    walk_at "vc"
    intro D hD
    refine lc_it (walk_str (z := Str.ofString "abcdefghijklmnopqrstuvwxyz")) (fun i H' => Same H H' ∧ H' D = some (.lst (((alph.take i).filter fun x => decide (x ∉ lets)).map fun c => V.str (sg c)))) ⟨same_upd hD, by rw [upd_same]; rfl⟩ (fun _ _ _ _ => trivial) ?_ ?_
    · rintro i x H1 H2 hi ⟨sm, hDi⟩ ⟨rfl, c, hci, rfl⟩
      have hci : alph[i]? = some c := by rw [← alph_S, Array.getElem?_toList]; exact hci
      walk_at "vc"
      refine ⟨rfl, ?_⟩
      walk_at "vc"
      refine ⟨c, S lets, rfl, rfl, ?_⟩
      walk_at "vc"
      rw [List.take_add_one, hci, Option.toList_some, List.filter_append]
      by_cases hm : c ∈ lets
      · rw [show decide (c ∈ (S lets).cps.toList) = true from decide_eq_true (by rw [show (S lets).cps.toList = lets from tl_S lets]; exact hm), if_neg (by decide)]
        rw [show ([c].filter fun x => decide (x ∉ lets)) = [] by simp [hm], List.append_nil]
        exact ⟨sm, hDi⟩
      · rw [show decide (c ∈ (S lets).cps.toList) = false from decide_eq_false (by rw [show (S lets).cps.toList = lets from tl_S lets]; exact hm), if_pos (by decide)]
        rw [show ([c].filter fun x => decide (x ∉ lets)) = [c] by simp [hm]]
        walk_at "vc"
        refine ⟨_, hDi, ?_, sm.putN hD, by rw [upd_same, List.map_append]; rfl⟩
        rw [List.length_map]
        exact Nat.lt_of_le_of_lt (Nat.le_trans (List.length_filter_le _ _) (Nat.le_trans (List.length_take_le' _ _) (Nat.le_of_eq alph_len))) (by decide)
    rintro H1 ⟨sm1, hD1⟩
    rw [show (Str.ofString "abcdefghijklmnopqrstuvwxyz").cps.size = alph.length by decide +kernel, List.take_length] at hD1
    have hD1 : H1 D = some (.lst ((outs lets).map fun c => V.str (sg c))) := hD1
    have hS1 := Src_same hS sm1
    have nDa := hS.ne_a hD
    have nDb := hS.ne_b hD
    walk_at "vc"
    refine ⟨a, b, 20, rfl, hS1, by omega, by omega, fun r1 H2 r10 r11 hS2 k2 => ?_⟩
    have hD2 := k2 _ _ nDa nDb hD1
    obtain ⟨n1, rfl⟩ : ∃ k : Nat, r1 = (k : Int) := ⟨r1.toNat, by omega⟩
    have hn1 : n1 < (outs lets).length := by omega
    obtain ⟨o, ho⟩ : ∃ o, (outs lets)[n1]? = some o := ⟨_, List.getElem?_eq_getElem hn1⟩
    have hon := outs_no (List.mem_of_getElem? ho)
    refine x_ixL (xs := (outs lets).map fun c => V.str (sg c)) (v := .str (S [o])) (SqL.of hD2) (atI_nat (j := n1) (by rw [List.getElem?_map, ho]; rfl)) ?_
    have k02 : Kp a b H H2 := (Kp.of sm1).trans k2
    have hsp2 := k02 _ _ npa npb hsp
    clear hD2 hD1 sm1 k2 hS1 hD nDa nDb
    walk_at "vc"
    refine ⟨hp_sz (by rw [len_S]; omega), ?_⟩
    walk_at "vc"
    refine ⟨a, b, _, rfl, hS2, by omega, by rw [len_S]; omega, fun r2 H3 r20 r21 hS3 k3 => ?_⟩
    obtain ⟨at_, rfl⟩ : ∃ k : Nat, r2 = (k : Int) := ⟨r2.toNat, by omega⟩
    have hat : at_ ≤ z.length := by rw [len_S] at r21; omega
    have k03 := k02.trans k3
    have hsp3 := k3 _ _ npa npb hsp2
    clear k02 k3 hsp2
    walk_at "vc"
    have zsz : (S z).length ≤ sizeLine := hp_sz (by rw [len_S]; omega)
    obtain ⟨u1, eu1, lu1⟩ := cutS_some z none (some (at_ : Int))
    obtain ⟨u2, eu2, lu2⟩ := cutS_some z (some (at_ : Int)) (some 59)
    refine x_slS zsz ?_
    rw [eu1]
    walk_at "vc"
    refine x_addT (by rw [len_S, len_S]; show _ + 1 ≤ _; omega) ?_
    rw [S_app]
    walk_at "vc"
    refine x_slS zsz ?_
    rw [eu2]
    walk_at "vc"
    refine x_addT (by rw [len_S, len_S, List.length_append]; show _ + 1 + _ ≤ _; omega) ?_
    rw [S_app]
    obtain ⟨c0, hc0, mc0⟩ := hd_at hl2
    have ix0 : ∀ {H : Hp} {Q : VK}, Q (.str (S [c0])) H → rIxS (.str (S lets)) (.int 0) H Q := fun {H Q} qq => x_ixS (c := c0) (hp_sz (by rw [len_S]; omega)) (atI_nat (j := 0) (by rw [show (S lets).cps.toList = lets from tl_S lets]; exact hc0)) qq
    walk_at "vc"
    refine ix0 ?_
    walk_at "vc"
    refine x_mul1 c0 61 rfl (by decide) (by decide) ?_
    walk_at "vc"
    refine x_slS zsz ?_
    rw [eu1]
    walk_at "vc"
    rw [show (Str.ofString "A") = S [65] from rfl]
    refine x_addT (by rw [len_S, len_S]; show _ + 1 ≤ _; omega) ?_
    rw [S_app]
    walk_at "vc"
    refine x_slS zsz ?_
    rw [eu2]
    walk_at "vc"
    refine x_addT (by rw [len_S, len_S, List.length_append]; show _ + 1 + _ ≤ _; omega) ?_
    rw [S_app]
    walk_at "vc"
    refine ⟨show 4 ≤ sizeLine by decide, fun rp hrp => ?_⟩
    have n1 := hS3.ne_a hrp
    have n2 := hS3.ne_b hrp
    have hrws := rws_bad (c0 := c0) hlc (Nat.le_trans lu1 hz) (Nat.le_trans lu2 hz) hon
    have Rr : Rz a b rp sp [u1 ++ [o] ++ u2, List.replicate 61 c0, u1 ++ [65] ++ u2, [61]] sds H (upd H3 rp (.lst [V.str (S (u1 ++ [o] ++ u2)), V.str (S (List.replicate 61 c0)), V.str (S (u1 ++ [65] ++ u2)), V.str (Str.ofString "=")])) :=
      ⟨Src_same hS3 (same_upd hrp), k03.trans (Kp.of (same_upd hrp)), upd_same, same_upd hrp _ _ hsp3⟩
    have hrl : ([u1 ++ [o] ++ u2, List.replicate 61 c0, u1 ++ [65] ++ u2, [61]] : List (List Nat)).length = 4 := rfl
    generalize ([u1 ++ [o] ++ u2, List.replicate 61 c0, u1 ++ [65] ++ u2, [61]] : List (List Nat)) = rws at hrws Rr hrl
    generalize upd H3 rp (.lst [V.str (S (u1 ++ [o] ++ u2)), V.str (S (List.replicate 61 c0)), V.str (S (u1 ++ [65] ++ u2)), V.str (Str.ofString "=")]) = H4 at Rr
    clear hS3 k03 hsp3 hrp
    obtain ⟨cl, hcl, mcl⟩ := lst_at hl2
    walk_at "vc"
    refine ix0 ?_
    walk_at "vc"
    rw [show (Str.ofString "abcdefg") = S [97, 98, 99, 100, 101, 102, 103] from by decide +kernel]
    refine x_addT (by rw [len_S, len_S]; show _ + 7 ≤ _; omega) ?_
    rw [S_app]
    walk_at "vc"
    refine x_ixS (c := cl) (hp_sz (by rw [len_S]; omega)) (by
      unfold atI ixN
      rw [show (S lets).cps.toList = lets from tl_S lets, if_neg (by omega), if_pos (by omega), show (-1 + (lets.length : Int)).toNat = lets.length - 1 by omega]
      exact hcl) ?_
    rw [show (⟨#[cl]⟩ : Str) = S [cl] from rfl]
    refine x_addT (by rw [len_S, len_S]; show _ + 1 ≤ _; omega) ?_
    rw [S_app]
    walk_at "vc"
    refine x_addT (by rw [len_S, len_S]; show _ + 1 ≤ _; omega) ?_
    rw [S_app]
    walk_at "vc"
    refine ⟨show 6 ≤ sizeLine by decide, fun bp hbp => ?_⟩
    have hbds := bds_bad (c0 := c0) hlg mcl
    have nba := Rr.src.ne_a hbp
    have nbb := Rr.src.ne_b hbp
    have Rb := Rr.same (same_upd (o := .lst [V.str (S [c0]), V.str (S (lets ++ [97, 98, 99, 100, 101, 102, 103])), V.str (S (lets ++ [cl])), V.str (S (lets ++ [65])), V.str (Str.ofString ""), V.str (Str.ofString "a b")]) hbp)
    have hb5 : upd H4 bp (.lst [V.str (S [c0]), V.str (S (lets ++ [97, 98, 99, 100, 101, 102, 103])), V.str (S (lets ++ [cl])), V.str (S (lets ++ [65])), V.str (Str.ofString ""), V.str (Str.ofString "a b")]) bp = some (.lst (([[c0], lets ++ [97, 98, 99, 100, 101, 102, 103], lets ++ [cl], lets ++ [65], [], [97, 32, 98]] : List (List Nat)).map strV)) := upd_same
    have hbl : ([[c0], lets ++ [97, 98, 99, 100, 101, 102, 103], lets ++ [cl], lets ++ [65], [], [97, 32, 98]] : List (List Nat)).length = 6 := rfl
    generalize ([[c0], lets ++ [97, 98, 99, 100, 101, 102, 103], lets ++ [cl], lets ++ [65], [], [97, 32, 98]] : List (List Nat)) = bds at hbds hb5 hbl
    generalize upd H4 bp (.lst [V.str (S [c0]), V.str (S (lets ++ [97, 98, 99, 100, 101, 102, 103])), V.str (S (lets ++ [cl])), V.str (S (lets ++ [65])), V.str (Str.ofString ""), V.str (Str.ofString "a b")]) = H5 at Rb hb5
    clear Rr hbp
    walk_at "vc"
    refine ⟨a, b, 6, rfl, Rb.src, by omega, by omega, fun r3 H6 r30 r31 hS6 k6 => ?_⟩
    obtain ⟨n3, rfl⟩ : ∃ k : Nat, r3 = (k : Int) := ⟨r3.toNat, by omega⟩
    have hn3 : n3 < bds.length := by omega
    obtain ⟨bad, hbad⟩ : ∃ w, bds[n3]? = some w := ⟨_, List.getElem?_eq_getElem hn3⟩
    obtain ⟨bad1, bad2⟩ := hbds bad (List.mem_of_getElem? hbad)
    refine x_ixL (xs := bds.map strV) (v := .str (S bad)) (SqL.of (k6 _ _ nba nbb hb5)) (atI_nat (j := n3) (by rw [List.getElem?_map, hbad]; rfl)) ?_
    have R0 := Rb.step n1 n2 npa npb hS6 k6
    have z0 : Scs H6 [] := Scs.nil
    clear Rb hb5 hbds hbad k6 hS6 nba nbb hn3 r30 r31
    walk_at "vc"
    refine ⟨show 2 ≤ sizeLine by decide, fun t1 ht1 => ?_⟩
    have z1 := z0.add (g := 0) (l := 1) ht1
    have R1 := R0.same (same_upd (o := .tup [.int 0, .int 1]) ht1)
    generalize upd H6 t1 (.tup [.int 0, .int 1]) = X1 at z1 R1
    clear z0 R0 ht1
    walk_at "vc"
    refine ⟨show 2 ≤ sizeLine by decide, fun t2 ht2 => ?_⟩
    have z2 := z1.add (g := 1) (l := 0) ht2
    have R2 := R1.same (same_upd (o := .tup [.int 1, .int 0]) ht2)
    generalize upd X1 t2 (.tup [.int 1, .int 0]) = X2 at z2 R2
    clear z1 R1 ht2
    walk_at "vc"
    refine ⟨show 2 ≤ sizeLine by decide, fun t3 ht3 => ?_⟩
    have z3 := z2.add (g := 10) (l := 1) ht3
    have R3 := R2.same (same_upd (o := .tup [.int 10, .int 1]) ht3)
    generalize upd X2 t3 (.tup [.int 10, .int 1]) = X3 at z3 R3
    clear z2 R2 ht3
    walk_at "vc"
    refine ⟨show 2 ≤ sizeLine by decide, fun t4 ht4 => ?_⟩
    have z4 := z3.add (g := 1) (l := 10) ht4
    have R4 := R3.same (same_upd (o := .tup [.int 1, .int 10]) ht4)
    generalize upd X3 t4 (.tup [.int 1, .int 10]) = X4 at z4 R4
    clear z3 R3 ht4
    walk_at "vc"
    refine ⟨show 2 ≤ sizeLine by decide, fun t5 ht5 => ?_⟩
    have z5 := z4.add (g := 5) (l := (-1)) ht5
    have R5 := R4.same (same_upd (o := .tup [.int 5, .int (-1)]) ht5)
    generalize upd X4 t5 (.tup [.int 5, .int (-1)]) = X5 at z5 R5
    clear z4 R4 ht5
    walk_at "vc"
    refine ⟨show 2 ≤ sizeLine by decide, fun t6 ht6 => ?_⟩
    have z6 := z5.add (g := 0) (l := 0) ht6
    have R6 := R5.same (same_upd (o := .tup [.int 0, .int 0]) ht6)
    generalize upd X5 t6 (.tup [.int 0, .int 0]) = X6 at z6 R6
    clear z5 R5 ht6
    walk_at "vc"
    refine ⟨show 2 ≤ sizeLine by decide, fun t7 ht7 => ?_⟩
    have z7 := z6.add (g := 99) (l := 3) ht7
    have R7 := R6.same (same_upd (o := .tup [.int 99, .int 3]) ht7)
    generalize upd X6 t7 (.tup [.int 99, .int 3]) = X7 at z7 R7
    clear z6 R6 ht7
    walk_at "vc"
    refine ⟨show 2 ≤ sizeLine by decide, fun t8 ht8 => ?_⟩
    have z8 := z7.add (g := (-1)) (l := 5) ht8
    have R8 := R7.same (same_upd (o := .tup [.int (-1), .int 5]) ht8)
    generalize upd X7 t8 (.tup [.int (-1), .int 5]) = X8 at z8 R8
    clear z7 R7 ht8
    walk_at "vc"
    refine ⟨show 8 ≤ sizeLine by decide, fun cp hcp => ?_⟩
    have nca := R8.src.ne_a hcp
    have ncb := R8.src.ne_b hcp
    have R9 := R8.same (same_upd (o := .lst [V.ref t1, V.ref t2, V.ref t3, V.ref t4, V.ref t5, V.ref t6, V.ref t7, V.ref t8]) hcp)
    have z9 := z8.same (same_upd (o := .lst [V.ref t1, V.ref t2, V.ref t3, V.ref t4, V.ref t5, V.ref t6, V.ref t7, V.ref t8]) hcp)
    have hts : ∀ t ∈ ([] ++ [(t1, 0, 1)] ++ [(t2, 1, 0)] ++ [(t3, 10, 1)] ++ [(t4, 1, 10)] ++ [(t5, 5, (-1))] ++ [(t6, 0, 0)] ++ [(t7, 99, 3)] ++ [(t8, (-1), 5)] : List (Addr × Int × Int)), ¬ ScG t.2.1 t.2.2 := fun t ht => by
      simp only [List.nil_append, List.cons_append, List.mem_cons, List.not_mem_nil, or_false] at ht
      unfold ScG
      rcases ht with rfl | rfl | rfl | rfl | rfl | rfl | rfl | rfl <;> simp
    have htl : ([] ++ [(t1, 0, 1)] ++ [(t2, 1, 0)] ++ [(t3, 10, 1)] ++ [(t4, 1, 10)] ++ [(t5, 5, (-1))] ++ [(t6, 0, 0)] ++ [(t7, 99, 3)] ++ [(t8, (-1), 5)] : List (Addr × Int × Int)).length = 8 := rfl
    have hc9 : upd X8 cp (.lst [V.ref t1, V.ref t2, V.ref t3, V.ref t4, V.ref t5, V.ref t6, V.ref t7, V.ref t8]) cp = some (.lst (([] ++ [(t1, 0, 1)] ++ [(t2, 1, 0)] ++ [(t3, 10, 1)] ++ [(t4, 1, 10)] ++ [(t5, 5, (-1))] ++ [(t6, 0, 0)] ++ [(t7, 99, 3)] ++ [(t8, (-1), 5)] : List (Addr × Int × Int)).map fun t => V.ref t.1)) := upd_same
    generalize ([] ++ [(t1, 0, 1)] ++ [(t2, 1, 0)] ++ [(t3, 10, 1)] ++ [(t4, 1, 10)] ++ [(t5, 5, (-1))] ++ [(t6, 0, 0)] ++ [(t7, 99, 3)] ++ [(t8, (-1), 5)] : List (Addr × Int × Int)) = ts at hts z9 htl hc9
    generalize upd X8 cp (.lst [V.ref t1, V.ref t2, V.ref t3, V.ref t4, V.ref t5, V.ref t6, V.ref t7, V.ref t8]) = H9 at R9 z9 hc9
    clear R8 z8 hcp
    walk_at "vc"
    refine ⟨a, b, 6, rfl, R9.src, by omega, by omega, fun r4 HA r40 r41 hSA kA => ?_⟩
    have RA := R9.step n1 n2 npa npb hSA kA
    have zA := z9.kp R9.src kA
    have hcA := kA _ _ nca ncb hc9
    clear R9 z9 hc9 kA hSA
    walk_at "vc"
    intro D2 hD2
    have en : (1 + r4).toNat ≤ 6 := by omega
    generalize (1 + r4).toNat = nn at en
    refine lc_range (fun i H' => Dr a b HA D2 (fun c => c = 35 ∨ c = 45) i H') (Dr.start RA.src hD2) (fun i H' hi h => ?_) (fun H' h => ?_)
    · have hsd : Src H' a b := by obtain ⟨_, _, _, x, _⟩ := h; exact x
      walk_at "vc"
      refine ⟨rfl, ?_⟩
      walk_at "vc"
      refine ⟨a, b, 2, rfl, hsd, by omega, by omega, fun r' H3' r2' r3' hs3 k3' => ?_⟩
      have key : ∃ c : Nat, atI ("#-" : Str).cps.toList r' = some c ∧ (c = 35 ∨ c = 45) := by
        have : r' = 0 ∨ r' = 1 := by omega
        rcases this with rfl | rfl
        · exact ⟨35, by decide +kernel, .inl rfl⟩
        · exact ⟨45, by decide +kernel, .inr rfl⟩
      obtain ⟨c, ec, hc⟩ := key
      refine x_ixS (by decide +kernel) ec ?_
      exact h.step (c := c) hD2 RA.src (by omega) hs3 k3' hc
    obtain ⟨cs, hcl', hok, hsd, kd, hDd⟩ := h
    have csl : cs.length ≤ 6 := by omega
    have RB := RA.step n1 n2 npa npb hsd kd
    have zB := zA.kp RA.src kd
    have hcB := kd _ _ nca ncb hcA
    refine ⟨Str.ofString "", D2, cs.map sg, rfl, rfl, .inl (SqL.of (by rw [lst_map_signs]; exact hDd)), (by have e := signs_len cs; show ((List.map sg cs).map (·.length)).sum + (cs.map sg).length * ("" : Str).length ≤ _; omega), ?_⟩
    rw [show Txt.join (Str.ofString "") (cs.map sg) = S cs from join_signs _, show (Str.ofString "#") = S [35] from rfl]
    refine ⟨S [35], S cs, rfl, rfl, hp_sz (by rw [len_S, len_S]; show 1 + cs.length ≤ _; omega), ?_⟩
    rw [S_app]
    walk_at "vc"
    refine ⟨S ([35] ++ cs), S [35], rfl, rfl, hp_sz (by rw [len_S, len_S, List.length_append]; show 1 + cs.length + 1 ≤ _; omega), ?_⟩
    rw [S_app]
    have ol : ([35] ++ cs ++ [35]).length ≤ 8 := by simp; omega
    have ol2 : 2 ≤ ([35] ++ cs ++ [35]).length := by simp
    generalize [35] ++ cs ++ [35] = od at ol ol2
    clear RA zA hcA hD2 hDd hok hsd kd hcl' csl
    have ozl : (S od).length ≤ sizeLine := hp_sz (by rw [len_S]; omega)
    walk_at "vc"
    refine ⟨a, b, _, rfl, RB.src, by rw [len_S]; omega, by rw [len_S]; omega, fun r5 HC r50 r51 hSC kC => ?_⟩
    have RC := RB.step n1 n2 npa npb hSC kC
    have zC := zB.kp RB.src kC
    have hcC := kC _ _ nca ncb hcB
    obtain ⟨n5, rfl⟩ : ∃ k : Nat, r5 = (k : Int) := ⟨r5.toNat, by omega⟩
    clear RB zB hcB kC hSC
    obtain ⟨v1, ev1, lv1⟩ := cutS_some od none (some (n5 : Int))
    walk_at "vc"
    refine x_slS ozl ?_
    rw [ev1]
    walk_at "vc"
    refine ⟨a, b, 4, rfl, RC.src, by omega, by omega, fun r6 HD r60 r61 hSD kD => ?_⟩
    have RD := RC.step n1 n2 npa npb hSD kD
    have zD := zC.kp RC.src kD
    have hcD := kD _ _ nca ncb hcC
    clear RC zC hcC kD hSD
    have key : ∃ c : Nat, atI ("x _=" : Str).cps.toList r6 = some c ∧ c ≠ 35 ∧ c ≠ 45 := by
      have : r6 = 0 ∨ r6 = 1 ∨ r6 = 2 ∨ r6 = 3 := by omega
      rcases this with rfl | rfl | rfl | rfl
      · exact ⟨120, by decide +kernel, by decide, by decide⟩
      · exact ⟨32, by decide +kernel, by decide, by decide⟩
      · exact ⟨95, by decide +kernel, by decide, by decide⟩
      · exact ⟨61, by decide +kernel, by decide, by decide⟩
    obtain ⟨cx, ecx, cx1, cx2⟩ := key
    refine x_ixS (by decide +kernel) ecx ?_
    rw [show (⟨#[cx]⟩ : Str) = S [cx] from rfl]
    refine x_addT (by rw [len_S, len_S]; show _ + 1 ≤ _; omega) ?_
    rw [S_app]
    walk_at "vc"
    obtain ⟨v2, ev2, lv2⟩ := cutS_some od (some ((n5 : Int) + 1)) none
    refine x_slS ozl ?_
    rw [ev2]
    refine x_addT (by rw [len_S, len_S, List.length_append]; show _ + 1 + _ ≤ _; omega) ?_
    rw [S_app]
    walk_at "vc"
    refine ⟨show 10 ≤ sizeLine by decide, fun qp hqp => ?_⟩
    have hsq := sq_bad (w := v1 ++ [cx] ++ v2) (cx := cx) (by simp) cx1 cx2 (by simp; omega)
    have nqa := RD.src.ne_a hqp
    have nqb := RD.src.ne_b hqp
    have RE := RD.same (same_upd (o := .lst [V.str (Str.ofString ""), V.str (Str.ofString "#########"), V.str (Str.ofString "-#"), V.str (Str.ofString "#-"), V.str (Str.ofString "-"), V.str (Str.ofString "#x#"), V.str (Str.ofString "# #"), V.str (Str.ofString "##-"), V.str (S (v1 ++ [cx] ++ v2)), V.str (S (v1 ++ [cx] ++ v2))]) hqp)
    have zE := zD.same (same_upd (o := .lst [V.str (Str.ofString ""), V.str (Str.ofString "#########"), V.str (Str.ofString "-#"), V.str (Str.ofString "#-"), V.str (Str.ofString "-"), V.str (Str.ofString "#x#"), V.str (Str.ofString "# #"), V.str (Str.ofString "##-"), V.str (S (v1 ++ [cx] ++ v2)), V.str (S (v1 ++ [cx] ++ v2))]) hqp)
    have hcE := same_upd (o := .lst [V.str (Str.ofString ""), V.str (Str.ofString "#########"), V.str (Str.ofString "-#"), V.str (Str.ofString "#-"), V.str (Str.ofString "-"), V.str (Str.ofString "#x#"), V.str (Str.ofString "# #"), V.str (Str.ofString "##-"), V.str (S (v1 ++ [cx] ++ v2)), V.str (S (v1 ++ [cx] ++ v2))]) hqp _ _ hcD
    have hqE : upd HD qp (.lst [V.str (Str.ofString ""), V.str (Str.ofString "#########"), V.str (Str.ofString "-#"), V.str (Str.ofString "#-"), V.str (Str.ofString "-"), V.str (Str.ofString "#x#"), V.str (Str.ofString "# #"), V.str (Str.ofString "##-"), V.str (S (v1 ++ [cx] ++ v2)), V.str (S (v1 ++ [cx] ++ v2))]) qp = some (.lst (([[], [35, 35, 35, 35, 35, 35, 35, 35, 35], [45, 35], [35, 45], [45], [35, 120, 35], [35, 32, 35], [35, 35, 45], v1 ++ [cx] ++ v2, v1 ++ [cx] ++ v2] : List (List Nat)).map strV)) := upd_same
    have hql : ([[], [35, 35, 35, 35, 35, 35, 35, 35, 35], [45, 35], [35, 45], [45], [35, 120, 35], [35, 32, 35], [35, 35, 45], v1 ++ [cx] ++ v2, v1 ++ [cx] ++ v2] : List (List Nat)).length = 10 := rfl
    generalize ([[], [35, 35, 35, 35, 35, 35, 35, 35, 35], [45, 35], [35, 45], [45], [35, 120, 35], [35, 32, 35], [35, 35, 45], v1 ++ [cx] ++ v2, v1 ++ [cx] ++ v2] : List (List Nat)) = sq at hsq hqE hql
    generalize upd HD qp (.lst [V.str (Str.ofString ""), V.str (Str.ofString "#########"), V.str (Str.ofString "-#"), V.str (Str.ofString "#-"), V.str (Str.ofString "-"), V.str (Str.ofString "#x#"), V.str (Str.ofString "# #"), V.str (Str.ofString "##-"), V.str (S (v1 ++ [cx] ++ v2)), V.str (S (v1 ++ [cx] ++ v2))]) = HE at RE zE hcE hqE
    clear RD zD hcD hqp
    walk_at "vc"
    refine ⟨a, b, 10, rfl, RE.src, by omega, by omega, fun r7 HF r70 r71 hSF kF => ?_⟩
    obtain ⟨n7, rfl⟩ : ∃ k : Nat, r7 = (k : Int) := ⟨r7.toNat, by omega⟩
    obtain ⟨sd, hsd7⟩ : ∃ w, sq[n7]? = some w := ⟨_, List.getElem?_eq_getElem (by omega)⟩
    obtain ⟨sd1, sd2⟩ := hsq sd (List.mem_of_getElem? hsd7)
    refine x_ixL (xs := sq.map strV) (v := .str (S sd)) (SqL.of (kF _ _ nqa nqb hqE)) (atI_nat (j := n7) (by rw [List.getElem?_map, hsd7]; rfl)) ?_
    have RF := RE.step n1 n2 npa npb hSF kF
    have zF := zE.kp RE.src kF
    have hcF := kF _ _ nca ncb hcE
    clear RE zE hcE hqE hsq hsd7 kF hSF nqa nqb
    walk_at "vc"
    have NN : Ne6 a b rp sp cp := ⟨n1, n2, npa, npb, nca, ncb⟩
    have G0 : Pz a b rp sp cp rws sds ts [] H HF := ⟨RF, zF, hcF, fun t h => nomatch h⟩
    clear RF zF hcF n1 n2 npa npb nca ncb
    have ecut : cutV (sds.map strV) none (some 1) = (sds.take 1).map strV := by rw [show (some (1 : Int)) = some ((1 : Nat) : Int) from rfl, cutV_take, List.map_take]
    generalize hT1 : sds.take 1 = T1 at ecut
    have hT1l : T1.length ≤ 1 := by rw [← hT1]; exact List.length_take_le _ _
    have hT1m : ∀ v ∈ T1, v.length ≤ 1000 := fun v hv => by
      rw [← hT1] at hv
      have := (hdg.1 v (List.mem_of_mem_take hv)).most
      omega
    refine ⟨sp, sds.map strV, rfl, SqL.of G0.r.sp_, fun p1 hp1 => ?_⟩
    rw [ecut]
    have G1 := G0.new (w := T1) hp1
    generalize upd HF p1 (.lst (T1.map strV)) = Y1 at G1
    clear G0 hp1
    walk_at "vc"
    refine ⟨show 1 ≤ sizeLine by decide, fun p2 hp2 => ?_⟩
    have G2 : Pz a b rp sp cp rws sds ts ([] ++ [(p1, T1)] ++ [(p2, [sd])]) H (upd Y1 p2 (.lst [V.str (S sd)])) := G1.new (w := [sd]) hp2
    generalize upd Y1 p2 (.lst [V.str (S sd)]) = Y2 at G2
    clear G1 hp2
    refine ⟨p1, p2, T1.map strV, [sd].map strV, rfl, rfl, G2.at (t := (p1, T1)) (by simp), G2.at (t := (p2, [sd])) (by simp), ?_, fun p3 hp3 => ?_⟩
    · rw [List.length_map, List.length_map]
      exact Nat.le_trans (Nat.add_le_add_right hT1l _) (show 1 + 1 ≤ sizeLine by decide)
    rw [← List.map_append]
    have G3 := G2.new (w := T1 ++ [sd]) hp3
    generalize upd Y2 p3 (.lst ((T1 ++ [sd]).map strV)) = Y3 at G3
    clear G2 hp3
    walk_at "vc"
    refine ⟨show 1 ≤ sizeLine by decide, fun p4 hp4 => ?_⟩
    have G4 : Pz a b rp sp cp rws sds ts _ H (upd Y3 p4 (.lst [V.str (S sd)])) := G3.new (w := [sd]) hp4
    generalize upd Y3 p4 (.lst [V.str (S sd)]) = Y4 at G4
    clear G3 hp4
    walk_at "vc"
    refine ⟨show 1 ≤ sizeLine by decide, fun p5 hp5 => ?_⟩
    have G5 : Pz a b rp sp cp rws sds ts _ H (upd Y4 p5 (.lst [V.str (S sd)])) := G4.new (w := [sd]) hp5
    generalize upd Y4 p5 (.lst [V.str (S sd)]) = Y5 at G5
    clear G4 hp5
    walk_at "vc"
    refine ⟨sp, sds.map strV, rfl, SqL.of G5.r.sp_, fun p6 hp6 => ?_⟩
    rw [ecut]
    have G6 := G5.new (w := T1) hp6
    generalize upd Y5 p6 (.lst (T1.map strV)) = Y6 at G6
    clear G5 hp6
    refine ⟨p5, p6, [sd].map strV, T1.map strV, rfl, rfl, G6.at (t := (p5, [sd])) (by simp), G6.at (t := (p6, T1)) (by simp), ?_, fun p7 hp7 => ?_⟩
    · rw [List.length_map, List.length_map]
      exact Nat.le_trans (Nat.add_le_add_left hT1l _) (show 1 + 1 ≤ sizeLine by decide)
    rw [← List.map_append]
    have G7 := G6.new (w := [sd] ++ T1) hp7
    generalize upd Y6 p7 (.lst (([sd] ++ T1).map strV)) = Y7 at G7
    clear G6 hp7
    walk_at "vc"
    refine ⟨show 3 ≤ sizeLine by decide, fun p8 hp8 => ?_⟩
    have G8 := G7.same (same_upd (o := .lst [V.ref p3, V.ref p4, V.ref p7]) hp8)
    have h8 : upd Y7 p8 (.lst [V.ref p3, V.ref p4, V.ref p7]) p8 = some (.lst [V.ref p3, V.ref p4, V.ref p7]) := upd_same
    have n8a := G7.r.src.ne_a hp8
    have n8b := G7.r.src.ne_b hp8
    generalize upd Y7 p8 (.lst [V.ref p3, V.ref p4, V.ref p7]) = Y8 at G8 h8
    clear G7 hp8
    walk_at "vc"
    refine ⟨a, b, 3, rfl, G8.r.src, by omega, by omega, fun r8 Y9 r80 r81 hS9 kY9 => ?_⟩
    have G9 := G8.step NN hS9 kY9
    obtain ⟨n8, rfl⟩ : ∃ k : Nat, r8 = (k : Int) := ⟨r8.toNat, by omega⟩
    obtain ⟨so, W, hso, hWm, hWs, hWl⟩ : ∃ (so : Addr) (W : List (List Nat)), ([V.ref p3, V.ref p4, V.ref p7] : List V)[n8]? = some (.ref so) ∧ (so, W) ∈ ([] ++ [(p1, T1)] ++ [(p2, [sd])] ++ [(p3, T1 ++ [sd])] ++ [(p4, [sd])] ++ [(p5, [sd])] ++ [(p6, T1)] ++ [(p7, [sd] ++ T1)] : List (Addr × List (List Nat))) ∧ sd ∈ W ∧ ∀ v ∈ W, v.length ≤ 1000 := by
      have : n8 = 0 ∨ n8 = 1 ∨ n8 = 2 := by omega
      rcases this with rfl | rfl | rfl
      · exact ⟨p3, T1 ++ [sd], rfl, by simp, by simp, fun v hv => by
          rcases List.mem_append.mp hv with e | e
          · exact hT1m v e
          · rw [List.mem_singleton.mp e]; exact sd1⟩
      · exact ⟨p4, [sd], rfl, by simp, by simp, fun v hv => by rw [List.mem_singleton.mp hv]; exact sd1⟩
      · exact ⟨p7, [sd] ++ T1, rfl, by simp, by simp, fun v hv => by
          rcases List.mem_append.mp hv with e | e
          · rw [List.mem_singleton.mp e]; exact sd1
          · exact hT1m v e⟩
    refine x_ixL (xs := [V.ref p3, V.ref p4, V.ref p7]) (v := .ref so) (SqL.of (kY9 _ _ n8a n8b h8)) (atI_nat (j := n8) hso) ?_
    have hWY := G9.l _ hWm
    have GA : Pz a b rp sp cp rws sds ts [(so, W)] H Y9 := ⟨G9.r, G9.z, G9.c, fun t ht => by rw [List.mem_singleton.mp ht]; exact hWY⟩
    clear G8 G9 h8 kY9 hS9 hWm hWY hso n8a n8b
    walk_at "vc"
    refine ⟨show 0 ≤ sizeLine by decide, fun p9 hp9 => ?_⟩
    have GB : Pz a b rp sp cp rws sds ts _ H (upd Y9 p9 (.lst [])) := GA.new (w := []) hp9
    generalize upd Y9 p9 (.lst []) = YB at GB
    clear GA hp9
    walk_at "vc"
    refine ⟨show 4 ≤ sizeLine by decide, fun pA hpA => ?_⟩
    have GC : Pz a b rp sp cp rws sds ts ([(so, W)] ++ [(p9, [])] ++ [(pA, [[35], [35, 35], [35, 35, 35], [35]])]) H (upd YB pA (.lst [V.str (S [35]), V.str (Str.ofString "##"), V.str (Str.ofString "###"), V.str (S [35])])) := GB.new (w := [[35], [35, 35], [35, 35, 35], [35]]) hpA
    generalize upd YB pA (.lst [V.str (S [35]), V.str (Str.ofString "##"), V.str (Str.ofString "###"), V.str (S [35])]) = YC at GC
    clear GB hpA
    walk_at "vc"
    refine ⟨show 3 ≤ sizeLine by decide, fun pB hpB => ?_⟩
    have GD := GC.same (same_upd (o := .lst [V.ref p9, V.ref pA, V.ref so]) hpB)
    have hB : upd YC pB (.lst [V.ref p9, V.ref pA, V.ref so]) pB = some (.lst [V.ref p9, V.ref pA, V.ref so]) := upd_same
    have nBa := GC.r.src.ne_a hpB
    have nBb := GC.r.src.ne_b hpB
    generalize upd YC pB (.lst [V.ref p9, V.ref pA, V.ref so]) = YD at GD hB
    clear GC hpB
    walk_at "vc"
    refine ⟨a, b, 3, rfl, GD.r.src, by omega, by omega, fun r9 YE r90 r91 hSE kYE => ?_⟩
    have GE := GD.step NN hSE kYE
    obtain ⟨n9, rfl⟩ : ∃ k : Nat, r9 = (k : Int) := ⟨r9.toNat, by omega⟩
    obtain ⟨wr, wrong, hwr, hwm, hwb, hwl⟩ : ∃ (wr : Addr) (wrong : List (List Nat)), ([V.ref p9, V.ref pA, V.ref so] : List V)[n9]? = some (.ref wr) ∧ (wr, wrong) ∈ ([(so, W)] ++ [(p9, [])] ++ [(pA, [[35], [35, 35], [35, 35, 35], [35]])] : List (Addr × List (List Nat))) ∧ ¬ SdsG wrong ∧ ∀ v ∈ wrong, v.length ≤ 1000 := by
      have : n9 = 0 ∨ n9 = 1 ∨ n9 = 2 := by omega
      rcases this with rfl | rfl | rfl
      · exact ⟨p9, [], rfl, by simp, fun g => by have := g.2.1; simp at this, fun v hv => nomatch hv⟩
      · exact ⟨pA, [[35], [35, 35], [35, 35, 35], [35]], rfl, by simp, fun g => by have := g.2.2; simp at this, fun v hv => by
          simp only [List.mem_cons, List.not_mem_nil, or_false] at hv
          rcases hv with rfl | rfl | rfl | rfl <;> decide⟩
      · exact ⟨so, W, rfl, by simp, seeds_bad hWs sd2, hWl⟩
    refine x_ixL (xs := [V.ref p9, V.ref pA, V.ref so]) (v := .ref wr) (SqL.of (kYE _ _ nBa nBb hB)) (atI_nat (j := n9) hwr) ?_
    have hwY := GE.l _ hwm
    have GF : Pz a b rp sp cp rws sds ts [(wr, wrong)] H YE := ⟨GE.r, GE.z, GE.c, fun t ht => by rw [List.mem_singleton.mp ht]; exact hwY⟩
    clear GD GE hB kYE hSE hwm hwY hwr nBa nBb
    walk_at "vc"
    refine ⟨a, b, 4, rfl, GF.r.src, by omega, by omega, fun rA YG rA0 rA1 hSG kG => ?_⟩
    have GG := GF.step NN hSG kG
    obtain ⟨nA, rfl⟩ : ∃ k : Nat, rA = (k : Int) := ⟨rA.toNat, by omega⟩
    obtain ⟨one, hone⟩ : ∃ w, rws[nA]? = some w := ⟨_, List.getElem?_eq_getElem (by omega)⟩
    obtain ⟨one1, one2⟩ := hrws one (List.mem_of_getElem? hone)
    refine x_ixL (xs := rws.map strV) (v := .str (S one)) (SqL.of GG.r.rp_) (atI_nat (j := nA) (by rw [List.getElem?_map, hone]; rfl)) ?_
    clear GF kG hSG
    walk_at "vc"
    refine ⟨a, b, 8, rfl, GG.r.src, by omega, by omega, fun rB YH rB0 rB1 hSH kH => ?_⟩
    have GH := GG.step NN hSH kH
    obtain ⟨nB, rfl⟩ : ∃ k : Nat, rB = (k : Int) := ⟨rB.toNat, by omega⟩
    obtain ⟨t, ht⟩ : ∃ t, ts[nB]? = some t := ⟨_, List.getElem?_eq_getElem (by omega)⟩
    refine x_ixL (xs := ts.map fun t => V.ref t.1) (v := .ref t.1) (SqL.of GH.c) (atI_nat (j := nB) (by rw [List.getElem?_map, ht]; rfl)) ?_
    walk_at "vc"
    refine ⟨show 4 ≤ sizeLine by decide, fun p hp => ?_⟩
    exact q p t.1 wr bad one t.2.1 t.2.2 wrong _ bad1 bad2 one1 one2 (same_upd hp _ _ (GH.z t (List.mem_of_getElem? ht))) (hts t (List.mem_of_getElem? ht)) (same_upd hp _ _ (GH.at (t := (wr, wrong)) (by simp))) hwl hwb upd_same (GH.r.kp.trans (Kp.of (same_upd hp))) (Src_same GH.r.src (same_upd hp))


/-- what is known of the law's things before the shelf is made -/
structure B6 (PT PT2 ps sp kp two wr : Addr) (g l tg tl : Int) (sds wrong : List (List Nat)) (H : Hp) : Prop where
  ps_ : H ps = some (.tup [.int g, .int l])
  sp_ : H sp = some (.lst (sds.map strV))
  kp_ : H kp = some (.lst (sds.map strV))
  two_ : H two = some (.tup [.int tg, .int tl])
  wr_ : H wr = some (.lst (wrong.map strV))
  tab : LamX.TabS H PT qL
  tab2 : LamX.TabS H PT2 qB
theorem B6.sm1 {PT PT2 ps sp kp two wr : Addr} {g l tg tl : Int} {sds wrong : List (List Nat)} {H H' : Hp} (n : PT2 ≠ PT) (h : B6 PT PT2 ps sp kp two wr g l tg tl sds wrong H) (e : SmT PT qL H H') : B6 PT PT2 ps sp kp two wr g l tg tl sds wrong H' :=
  ⟨e.tup h.ps_, e.lst h.sp_, e.lst h.kp_, e.tup h.two_, e.lst h.wr_, e.t h.tab, LaX.tab_over n e h.tab2⟩
theorem B6.sm2 {PT PT2 ps sp kp two wr : Addr} {g l tg tl : Int} {sds wrong : List (List Nat)} {H H' : Hp} (n : PT2 ≠ PT) (h : B6 PT PT2 ps sp kp two wr g l tg tl sds wrong H) (e : SmT PT2 qB H H') : B6 PT PT2 ps sp kp two wr g l tg tl sds wrong H' :=
  ⟨e.tup h.ps_, e.lst h.sp_, e.lst h.kp_, e.tup h.two_, e.lst h.wr_, LaX.tab_over n.symm e h.tab, e.t h.tab2⟩
theorem B6.same {PT PT2 ps sp kp two wr : Addr} {g l tg tl : Int} {sds wrong : List (List Nat)} {H H' : Hp} (h : B6 PT PT2 ps sp kp two wr g l tg tl sds wrong H) (e : Same H H') : B6 PT PT2 ps sp kp two wr g l tg tl sds wrong H' :=
  ⟨e _ _ h.ps_, e _ _ h.sp_, e _ _ h.kp_, e _ _ h.two_, e _ _ h.wr_, h.tab.ext e, h.tab2.ext e⟩
/-- the list of lambdas -/
structure Wk (wp : Addr) (fs : List (Addr × LaX.LA)) (H : Hp) : Prop where
  w : H wp = some (.lst (fs.map fun p => V.ref p.1))
  o : ∀ p ∈ fs, H p.1 = some (LaX.LaO p.1 p.2) ∧ H p.2.c = some (LamX.CodeO p.2.c qB)
theorem Wk.add {PT2 wp f : Addr} {F : LaX.LA} {fs : List (Addr × LaX.LA)} {H H' : Hp} (W : Wk wp fs H) (s : SmT PT2 qB H H') (hf : H' f = some (LaX.LaO f F)) (hc : H' F.c = some (LamX.CodeO F.c qB)) : Wk wp (fs ++ [(f, F)]) (upd H' wp (.lst ((fs.map fun p => V.ref p.1) ++ [.ref f]))) := by
  have w' := s.lst W.w
  have nl : ∀ {b : Addr} {F : LaX.LA} {d : Addr}, H' b = some (LaX.LaO d F) → b ≠ wp := fun {b F d} e z => by
    rw [z, w'] at e
    unfold LaX.LaO at e
    cases e
  have nc : ∀ {b d : Addr} {q : Str}, H' b = some (LamX.CodeO d q) → b ≠ wp := fun {b d q} e z => by
    rw [z, w'] at e
    unfold LamX.CodeO at e
    cases e
  refine ⟨by rw [upd_same, List.map_append]; rfl, fun p hp => ?_⟩
  rcases List.mem_append.mp hp with h | h
  · have h1 := LaX.SmT.la s (W.o p h).1
    have h2 := LaX.SmT.co s (W.o p h).2
    exact ⟨(upd_ne (nl h1)).trans h1, (upd_ne (nc h2)).trans h2⟩
  · rw [List.mem_singleton.mp h]
    exact ⟨(upd_ne (nl hf)).trans hf, (upd_ne (nc hc)).trans hc⟩
theorem Wk.same {wp : Addr} {fs : List (Addr × LaX.LA)} {H H' : Hp} (W : Wk wp fs H) (s : Same H H') : Wk wp fs H' := ⟨s _ _ W.w, fun p hp => ⟨s _ _ (W.o p hp).1, s _ _ (W.o p hp).2⟩⟩
theorem Wk.one {wp f : Addr} {F : LaX.LA} {H : Hp} (hn : H wp = none) (hf : H f = some (LaX.LaO f F)) (hc : H F.c = some (LamX.CodeO F.c qB)) : Wk wp [(f, F)] (upd H wp (.lst [.ref f])) :=
  ⟨upd_same, fun p hp => by
    rw [List.mem_singleton.mp hp]
    exact ⟨(upd_ne (ne_of_none hf hn)).trans hf, (upd_ne (ne_of_none hc hn)).trans hc⟩⟩
theorem kd_mk {X : Cx} {k iw : Nat} {aR aS : Addr} {σX σb : L2.St} {Hb : Hp} {Q : VK} {f : Addr} {F : LaX.LA} {params : Arguments} {body : Expr} {scope : Scope} {t : XK → TE} {wd : Str} {aX : Addr} (hs : σb[iw]? = some (some (.ref f))) (ho : Hb f = some (LaX.LaO f F)) (hc : Hb F.c = some (LamX.CodeO F.c (X.env.qual ++ "<lambda>"))) (hF : LaX.LaF X F params body scope) (ls : LamX.LamS X.env.scope scope)
    (bind : ∀ (q : Str) (cl : List (Str × Addr)) (pm cv ctv : Value), bindArgs (PySem.W.kla_fn "<lambda>" q params body scope cl pm cv ctv) ⟨[], []⟩ = pure [])
    (run : ∀ (A : Around) (outer : List Env) (s : Shared) (H : Hp) (E : XK) (f c' : Addr), Room k (A.deeper (LamX.lamEnv X scope s.heap.objs.size f c')) → PE (LamX.lamCx X A outer s H E scope f c') body (t E))
    (hk : (wd = "row" ∧ aX = aR) ∨ (wd = "seed" ∧ aX = aS)) (h : ∀ (E : XK) (Q' : VK), (∀ H', (∀ H'', Same H' H'' → Q (.str wd) H'') → E (.ref aX) none H') → t E σX Hb Q') : LaX.tKd X k iw (TKind aR aS) σX σb Hb Q := by
  obtain ⟨q, p, b, sc, cl, c⟩ := F
  have e := hF.e
  injection e with e1 e2 e3 e4 e5 e6
  subst e1 e2 e3 e4 e5
  exact ⟨f, _, p, b, sc, t, hs, ho, hc, hF, ⟨ls, fun pm ctv => bind _ _ _ _ _, fun A outer s H E f hr => run A outer s H E f c hr⟩, wd, aX, hk, fun E Q' hE => ⟨ho, hc, h E Q' hE⟩⟩
theorem kd_of {X : Cx} {k iw : Nat} {TT : (XK → Hp → VK → Prop) → Hp → VK → Prop} {σX σb : L2.St} {H : Hp} {Q : VK} (wd : Str) (hq : ∀ H'', Same H H'' → Q (.str wd) H'') (h : ∀ Q, (∀ H'', Same H H'' → Q (.str wd) H'') → LaX.tKd X k iw TT σX σb H Q) : LaX.tKd X k iw TT σX σb H Q := h Q hq
theorem nonN : (!decide (V.non = V.non)) = false := by simp
theorem eq_strs_same' {K : PySem.W.Frag} {H : Hp} {a b : Addr} {l : List (List Nat)} (hl : Cd l) (ha : SqL K H a (l.map strV)) (hb : SqL K H b (l.map strV)) {Q : VK} (q : Q (.bl true) H) : rEqD K (.ref a) (.ref b) H Q :=
  ⟨.list (l.map strD), .list (l.map strD), .lst ha (dp_strs l), .lst hb (dp_strs l), shaped_strs hl, shaped_strs hl, by rw [eqv_strs_same hl]; exact q⟩
theorem ne_strs_same' {K : PySem.W.Frag} {H : Hp} {a b : Addr} {l : List (List Nat)} (hl : Cd l) (ha : SqL K H a (l.map strV)) (hb : SqL K H b (l.map strV)) {Q : VK} (q : Q (.bl false) H) : rNeD K (.ref a) (.ref b) H Q :=
  ⟨.list (l.map strD), .list (l.map strD), .lst ha (dp_strs l), .lst hb (dp_strs l), shaped_strs hl, shaped_strs hl, by rw [eqv_strs_same hl]; exact q⟩
theorem zeroN : (!decide (V.int (((([] : List (List Nat)).length : Nat)) : Int) = V.int 0)) = false := by simp
set_option maxHeartbeats 0 in
theorem oklaw {f cc PT : Addr} {oc kV doc pm ct : Value} {od an : Option Addr} {osl : Array (Option Value)} {cShelf fiShelf : Addr} {f_law_letters : Addr} {fd_law_letters : FuncData} {f_law_row : Addr} {fd_law_row : FuncData} {f_law_scale : Addr} {fd_law_scale : FuncData} {f_law_seeds : Addr} {fd_law_seeds : FuncData} {f_law_bad : Addr} {fd_law_bad : FuncData} {fdShelf___init__ : FuncData} {fneed_letters : Addr} {fdneed_letters : FuncData} {fneed_row : Addr} {fdneed_row : FuncData} {fneed_scale : Addr} {fdneed_scale : FuncData} {fneed_seeds : Addr} {fdneed_seeds : FuncData} {flane : Addr} {fdlane : FuncData} {fshows : Addr} {fdshows : FuncData} {f_law_kind : Addr} {fd_law_kind : FuncData} {fShelf_lay : Addr} {fdShelf_lay : FuncData} {fShelf_find : Addr} {fdShelf_find : FuncData} {fShelf_rows : Addr} {fdShelf_rows : FuncData} {PT2 aBadRow aBadSeed : Addr} (lk : K.lookup f = some ⟨oc, od, .func (PySem.W.fnOf "law" "law" (defArgs slaw) (defBody slaw) (defScope slaw) .none kV doc pm an (.ref cc) ct), osl⟩) (hcd : PySem.W.codeIn K (.ref cc) "law" = true) (TB : LamX.TabB base mg cc PT2) (B : Bl mg) (TShelf : KlShelf K mg cShelf fiShelf) (D_law_letters : Dn P w K mg base "_law_letters" 2 ["_law_h"] (sp_law_letters K) f_law_letters fd_law_letters) (D_law_row : Dn P w K mg base "_law_row" 2 ["_law_h", "_law_letters_here", "_law_most"] (sp_law_row K) f_law_row fd_law_row) (D_law_scale : Dn P w K mg base "_law_scale" 2 ["_law_h"] (sp_law_scale K) f_law_scale fd_law_scale) (D_law_seeds : Dn P w K mg base "_law_seeds" 3 ["_law_h", "_law_most"] (sp_law_seeds K) f_law_seeds fd_law_seeds) (D_law_bad : Dn P w K mg base "_law_bad" 2 ["_law_h", "_law_letters_here", "_law_row_here", "_law_seeds_here"] (sp_law_bad K) f_law_bad fd_law_bad) (DShelf___init__ : DmX P w K mg base cShelf "__init__" 6 ["self", "letters", "scale", "seeds"] (spShelf___init__ K PT aBadRow aBadSeed cShelf) fiShelf fdShelf___init__) (Dneed_letters : DnX P w K mg base "need_letters" 1 ["letters"] (spneed_letters K aBadRow) fneed_letters fdneed_letters) (Dneed_row : DnX P w K mg base "need_row" 1 ["row", "letters"] (spneed_row K aBadRow) fneed_row fdneed_row) (Dneed_scale : DnX P w K mg base "need_scale" 1 ["scale"] (spneed_scale K aBadRow) fneed_scale fdneed_scale) (Dneed_seeds : DnX P w K mg base "need_seeds" 2 ["seeds"] (spneed_seeds K aBadSeed) fneed_seeds fdneed_seeds) (Dlane : DnX P w K mg base "lane" 3 ["one", "other", "shift", "seeds", "scale", "told"] (splane K aBadSeed) flane fdlane) (Dshows : DnX P w K mg base "shows" 4 ["one", "other", "shift", "seeds", "scale", "told", "paper"] (spshows K aBadSeed) fshows fdshows) (D_law_kind : LaX.DnK P w K mg base "_law_kind" n_law_kind "_law_work" s_law_kind (TKind aBadRow aBadSeed) f_law_kind fd_law_kind) (DShelf_lay : DmX P w K mg base cShelf "lay" 2 ["self", "row"] (spShelf_lay K aBadRow cShelf) fShelf_lay fdShelf_lay) (DShelf_find : DmX P w K mg base cShelf "find" 2 ["self", "row", "told"] (spShelf_find K aBadRow cShelf) fShelf_find fdShelf_find) (DShelf_rows : Dm P w K mg base cShelf "rows" 1 ["self"] (spShelf_rows K cShelf) fShelf_rows fdShelf_rows) : FnOk P w K mg base CX0 12 f (PySem.W.fnOf "law" "law" (defArgs slaw) (defBody slaw) (defScope slaw) .none kV doc pm an (.ref cc) ct) ["_law_script"] (splaw K PT PT2) := by
  refine fn_okL lk hcd sclaw (fun vs H Q E h => ?_) (fun A outer s H vs Q E hr h => ?_)
  · first
      | (obtain ⟨_, rfl, _⟩ := h; rfl)
      | (obtain ⟨_, _, rfl, _⟩ := h; rfl)
      | (obtain ⟨_, _, _, rfl, _⟩ := h; rfl)
      | (obtain ⟨_, _, _, _, rfl, _⟩ := h; rfl)
      | (obtain ⟨_, _, _, _, _, rfl, _⟩ := h; rfl)
      | (obtain ⟨_, _, _, _, _, _, rfl, _⟩ := h; rfl)
      | (obtain ⟨_, _, _, _, _, _, _, rfl, _⟩ := h; rfl)
      | (obtain ⟨_, _, _, _, _, _, _, _, rfl, _⟩ := h; rfl)
      | (obtain ⟨_, _, _, _, _, _, _, _, _, rfl, _⟩ := h; rfl)
      | (obtain ⟨_, _, _, _, _, _, _, _, _, _, rfl, _⟩ := h; rfl)
      | (obtain ⟨_, _, _, _, _, _, _, _, _, _, _, rfl, _⟩ := h; rfl)
      | (obtain ⟨_, _, _, _, _, _, _, _, _, _, _, _, rfl, _⟩ := h; rfl)
      | (obtain ⟨_, _, _, _, _, _, _, _, _, _, _, _, _, rfl, _⟩ := h; rfl)
      | (obtain ⟨_, _, _, _, _, _, _, _, _, _, _, _, _, _, rfl, _⟩ := h; rfl)
      | (obtain ⟨_, _, _, _, _, _, _, _, _, _, _, _, _, _, _, rfl, _⟩ := h; rfl)
      | (obtain ⟨_, _, _, _, _, _, _, _, _, _, _, _, _, _, _, _, rfl, _⟩ := h; rfl)
      | (obtain ⟨_, _, _, _, _, _, _, _, _, _, _, _, _, _, _, _, _, rfl, _⟩ := h; rfl)
  · obtain ⟨a0, ns, rfl, hS, hlen, hT, hT2, nPP, q⟩ := h
    obtain ⟨oc', od', dV', kV', doc', pm', an', cdv', ct', osl', rfl, klk, khc, khG⟩ := D_law_kind.ok.ex
    have khb := D_law_kind.b
    refine ⟨_, 
  (pss_cons (ps_set (i := 1) sclaw.nd rfl (.inl rfl) (pe_lst (pa_cons pe_int (pa_cons (pe_callTy call_list_of (by rfl) B.m_list (by decide +kernel) (pa_cons (pv 0) pa_nil)) (pa_cons pe_int pa_nil))))) 
  (pss_cons (ps_set (i := 2) sclaw.nd rfl (.inr rfl) (pe_call D_law_letters.ok (hr.mono (by decide)) (by rfl) D_law_letters.g D_law_letters.kp D_law_letters.b .nil pass0 (pa_cons (pv 1) pa_nil))) 
  (pss_cons (ps_set (i := 3) sclaw.nd rfl (.inr rfl) (pe_call D_law_row.ok (hr.mono (by decide)) (by rfl) D_law_row.g D_law_row.kp D_law_row.b .nil pass0 (pa_cons (pv 1) (pa_cons (pv 2) (pa_cons pe_int pa_nil))))) 
  (pss_cons (ps_set (i := 4) sclaw.nd rfl (.inr rfl) (pe_call D_law_scale.ok (hr.mono (by decide)) (by rfl) D_law_scale.g D_law_scale.kp D_law_scale.b .nil pass0 (pa_cons (pv 1) pa_nil))) 
  (pss_cons (ps_set (i := 5) sclaw.nd rfl (.inr rfl) (pe_call D_law_seeds.ok (hr.mono (by decide)) (by rfl) D_law_seeds.g D_law_seeds.kp D_law_seeds.b .nil pass0 (pa_cons (pv 1) (pa_cons pe_int pa_nil)))) 
  (pss_cons (ps_set (i := 6) sclaw.nd rfl (.inl rfl) (pe_callTy call_list_of (by rfl) B.m_list (by decide +kernel) (pa_cons (pv 5) pa_nil))) 
  (pss_cons (ps_asg (pe_call D_law_bad.ok (hr.mono (by decide)) (by rfl) D_law_bad.g D_law_bad.kp D_law_bad.b .nil pass0 (pa_cons (pv 1) (pa_cons (pv 2) (pa_cons (pv 3) (pa_cons (pv 5) pa_nil))))) (pg_tup rfl (pgs_cons (pg_name (i := 7) sclaw.nd rfl (.inr rfl)) (pgs_cons (pg_name (i := 8) sclaw.nd rfl (.inr rfl)) (pgs_cons (pg_name (i := 9) sclaw.nd rfl (.inr rfl)) (pgs_cons (pg_name (i := 10) sclaw.nd rfl (.inr rfl)) pgs_nil)))))) 
  (pss_cons (ps_set (i := 11) sclaw.nd rfl (.inr rfl) (pe_make TShelf.make DShelf___init__.ok (hr.mono (by decide)) (by rfl) TShelf.mg DShelf___init__.b .nil passL (pa_cons (pv 2) (pa_cons (pv 4) (pa_cons (pv 5) pa_nil))))) 
  (pss_cons (ps_if (PW.pt (pw_or (pt_cmpR op_notN (pe_call Dneed_letters.ok (hr.mono (by decide)) (by rfl) Dneed_letters.g Dneed_letters.kp Dneed_letters.b .nil passL (pa_cons (pv 2) pa_nil)) pe_non (nomark _)) (pw_or (pt_cmpR op_notN (pe_call Dneed_row.ok (hr.mono (by decide)) (by rfl) Dneed_row.g Dneed_row.kp Dneed_row.b .nil passL (pa_cons (pv 3) (pa_cons (pv 2) pa_nil))) pe_non (nomark _)) (pw_or1 (pt_cmpR op_notN (pe_call Dneed_scale.ok (hr.mono (by decide)) (by rfl) Dneed_scale.g Dneed_scale.kp Dneed_scale.b .nil passL (pa_cons (pv 4) pa_nil)) pe_non (nomark _)))))) 
    (pss_one (ps_ret pe_bl)) pss_nil) 
  (pss_cons (ps_if (PW.pt (pw_or (pt_cmpR op_notN (pe_call Dneed_seeds.ok (hr.mono (by decide)) (by rfl) Dneed_seeds.g Dneed_seeds.kp Dneed_seeds.b .nil passL (pa_cons (pv 5) pa_nil)) pe_non (nomark _)) (pw_or (pt_cmpR op_ne (pe_meth (pv 11) TShelf.cl DShelf_lay.mt DShelf_lay.ok (hr.mono (by decide)) DShelf_lay.b .nil passL (pa_cons (pv 3) pa_nil)) pe_int (nomark _)) (pw_or1 (pt_cmpR (op_neD hr.units) (pv 5) (pv 6) (nomark _)))))) 
    (pss_one (ps_ret pe_bl)) pss_nil) 
  (pss_cons (ps_set (i := 12) sclaw.nd rfl (.inl rfl) (pe_lst (pa_cons (LaX.pe_la TB rfl (LamX.lamS_by (sc := defScope slaw) (by decide +kernel)) rfl) pa_nil))) 
  (pss_cons (ps_expr (pe_bm PySem.F.plainAttrs_list PySem.F.slot_list_append PySem.F.type_list_append mt_append (pv 12) (pa_cons (LaX.pe_la TB rfl (LamX.lamS_by (sc := defScope slaw) (by decide +kernel)) rfl) pa_nil))) 
  (pss_cons (ps_expr (pe_bm PySem.F.plainAttrs_list PySem.F.slot_list_append PySem.F.type_list_append mt_append (pv 12) (pa_cons (LaX.pe_la TB rfl (LamX.lamS_by (sc := defScope slaw) (by decide +kernel)) rfl) pa_nil))) 
  (pss_cons (ps_expr (pe_bm PySem.F.plainAttrs_list PySem.F.slot_list_append PySem.F.type_list_append mt_append (pv 12) (pa_cons (LaX.pe_la TB rfl (LamX.lamS_by (sc := defScope slaw) (by decide +kernel)) rfl) pa_nil))) 
  (pss_cons (ps_expr (pe_bm PySem.F.plainAttrs_list PySem.F.slot_list_append PySem.F.type_list_append mt_append (pv 12) (pa_cons (LaX.pe_la TB rfl (LamX.lamS_by (sc := defScope slaw) (by decide +kernel)) rfl) pa_nil))) 
  (pss_cons (ps_expr (pe_bm PySem.F.plainAttrs_list PySem.F.slot_list_append PySem.F.type_list_append mt_append (pv 12) (pa_cons (LaX.pe_la TB rfl (LamX.lamS_by (sc := defScope slaw) (by decide +kernel)) rfl) pa_nil))) 
  (pss_cons (ps_expr (pe_bm PySem.F.plainAttrs_list PySem.F.slot_list_append PySem.F.type_list_append mt_append (pv 12) (pa_cons (LaX.pe_la TB rfl (LamX.lamS_by (sc := defScope slaw) (by decide +kernel)) rfl) pa_nil))) 
  (pss_cons (ps_if (pt_cmpR (op_neD hr.units) (LaX.pe_no (own := [("_law_work", 13)]) (g := gName 13) rfl sclaw.nd (pi_list (pv 12)) (blkOk_by (N := nlaw) (sc := defScope slaw) (by decide +kernel)) (fun _ _ _ _ _ => (pg_name (i := 13) sclaw.nd rfl (.inl rfl))) (fun pins σ s H C cl fp IX fpo => pts_one (pt_cmpR op_ne (LaX.pe_kind IX fpo hr (by rfl) D_law_kind.g D_law_kind.kp klk khc khb sc_law_kind rfl (.inl rfl) (khG _ _) (iw := 13) rfl (.inl rfl)) pe_str (nomark _)))) (pe_lst pa_nil) (nomark _)) 
    (pss_one (ps_ret pe_bl)) pss_nil) 
  (pss_cons (ps_set (i := 12) sclaw.nd rfl (.inl rfl) (pe_lst (pa_cons (LaX.pe_la TB rfl (LamX.lamS_by (sc := defScope slaw) (by decide +kernel)) rfl) pa_nil))) 
  (pss_cons (ps_expr (pe_bm PySem.F.plainAttrs_list PySem.F.slot_list_append PySem.F.type_list_append mt_append (pv 12) (pa_cons (LaX.pe_la TB rfl (LamX.lamS_by (sc := defScope slaw) (by decide +kernel)) rfl) pa_nil))) 
  (pss_cons (ps_expr (pe_bm PySem.F.plainAttrs_list PySem.F.slot_list_append PySem.F.type_list_append mt_append (pv 12) (pa_cons (LaX.pe_la TB rfl (LamX.lamS_by (sc := defScope slaw) (by decide +kernel)) rfl) pa_nil))) 
  (pss_cons (ps_expr (pe_bm PySem.F.plainAttrs_list PySem.F.slot_list_append PySem.F.type_list_append mt_append (pv 12) (pa_cons (LaX.pe_la TB rfl (LamX.lamS_by (sc := defScope slaw) (by decide +kernel)) rfl) pa_nil))) 
  (pss_one (ps_ret (pe_and (pe_cmpR (op_eqD hr.units) (LaX.pe_no (own := [("_law_work", 13)]) (g := gName 13) rfl sclaw.nd (pi_list (pv 12)) (blkOk_by (N := nlaw) (sc := defScope slaw) (by decide +kernel)) (fun _ _ _ _ _ => (pg_name (i := 13) sclaw.nd rfl (.inl rfl))) (fun pins σ s H C cl fp IX fpo => pts_one (pt_cmpR op_ne (LaX.pe_kind IX fpo hr (by rfl) D_law_kind.g D_law_kind.kp klk khc khb sc_law_kind rfl (.inl rfl) (khG _ _) (iw := 13) rfl (.inl rfl)) pe_str (nomark _)))) (pe_lst pa_nil) (nomark _)) (pe_one (pe_cmpR (op_eqD hr.units) (pe_meth0 (pv 11) TShelf.cl DShelf_rows.mt DShelf_rows.ok (hr.mono (by decide)) DShelf_rows.b .nil pass0) (pe_lst (pa_cons (pv 3) pa_nil)) (nomark _)))))))))))))))))))))))))))), ?_⟩
    walk_at "vc"
    intro b hb
    walk_at "vc"
    refine ⟨show 3 ≤ sizeLine by decide, fun a ha => ?_⟩
    have nab : a ≠ b := fun e => by
      rw [e, upd_same] at ha
      cases ha
    have hs0 : Src (upd (upd H b (.lst (ns.map V.int))) a (.lst [.int 29, .ref b, .int 0])) a b := ⟨nab, 29, 0, ns, upd_same, by rw [upd_ne nab.symm, upd_same], hlen⟩
    have hT0 : LamX.TabS (upd (upd H b (.lst (ns.map V.int))) a (.lst [.int 29, .ref b, .int 0])) PT qL := (hT.ext (same_upd hb)).ext (same_upd ha)
    have hU0 : LamX.TabS (upd (upd H b (.lst (ns.map V.int))) a (.lst [.int 29, .ref b, .int 0])) PT2 qB := (hT2.ext (same_upd hb)).ext (same_upd ha)
    generalize upd (upd H b (.lst (ns.map V.int))) a (.lst [.int 29, .ref b, .int 0]) = H0 at hs0 hT0 hU0
    walk_at "vc"
    refine ⟨a, b, rfl, hs0, fun t n H1 ht26 hn2 hn6 hs1 k1 => ?_⟩
    have hT1 := k1.tab hs0 hT0
    have hU1 := k1.tab hs0 hU0
    have hlets : Lets (letL t n) := ⟨t, n, rfl, ht26, hn2, hn6⟩
    have hlg := hlets.g
    generalize letL t n = lets at hlets hlg
    have hlc := hlg.2.2.1
    have hl2 : 2 ≤ lets.length := hlg.1
    have hl6 : lets.length ≤ 6 := hlg.2.1
    walk_at "vc"
    refine ⟨a, b, lets, 60, rfl, hs1, by omega, by omega, by omega, by omega, fun r H2 hr60 hrl hs2 k2 => ?_⟩
    have hT2' := k2.tab hs1 hT1
    have hU2 := k2.tab hs1 hU1
    have hr60' : r.length ≤ 60 := by omega
    have hrok : RowOk r lets := ⟨hr60', hrl⟩
    walk_at "vc"
    refine ⟨a, b, rfl, hs2, fun g l ps H3 g1 g9 l1 l9 hps npa npb hs3 k3 => ?_⟩
    have hT3 := k3.tab hs2 hT2'
    have hU3 := k3.tab hs2 hU2
    have hsg : ScG g l := ⟨g1, g9, l1, l9⟩
    walk_at "vc"
    refine ⟨a, b, 8, rfl, hs3, by omega, by omega, fun sp sds H4 hsd h1 h3 hsp hsp0 nsa nsb hs4 k4 => ?_⟩
    have hT4 := k4.tab hs3 hT3
    have hU4 := k4.tab hs3 hU3
    have hps4 := k4 _ _ npa npb hps
    have hdg : SdsG sds := ⟨hsd, h1, h3⟩
    clear hs0 hT0 hU0 hs1 hT1 hU1 hs2 hT2' hU2 hs3 hT3 hU3 k1 k2 k3 k4 hps hsp0
    walk_at "vc"
    intro kp hkp
    have hkp5 : upd H4 kp (.lst (sds.map strV)) kp = some (.lst (sds.map strV)) := upd_same
    have sm5 : Same H4 (upd H4 kp (.lst (sds.map strV))) := same_upd hkp
    have nka := hs4.ne_a hkp
    have nkb := hs4.ne_b hkp
    generalize upd H4 kp (.lst (sds.map strV)) = H5 at hkp5 sm5
    have hs5 := Src_same hs4 sm5
    have hT5 := hT4.ext sm5
    have hU5 := hU4.ext sm5
    have hps5 := sm5 _ _ hps4
    have hsp5 := sm5 _ _ hsp
    clear sm5 hkp hs4 hT4 hU4 hps4 hsp
    walk_at "vc"
    refine ⟨a, b, sp, lets, r, sds, rfl, hs5, hlg, hr60', hsp5, nsa, nsb, hdg, fun tp two wr bad one tg tl wrong H6 hbl hbn hol hon htwo htn hwr hwl hwn htp k6 hs6 => ?_⟩
    have B : B6 PT PT2 ps sp kp two wr g l tg tl sds wrong H6 := ⟨k6 _ _ npa npb hps5, k6 _ _ nsa nsb hsp5, k6 _ _ nka nkb hkp5, htwo, hwr, k6.tab hs5 hT5, k6.tab hs5 hU5⟩
    clear hs5 hT5 hU5 hps5 hsp5 hkp5 nka nkb npa npb nsa nsb k6 hs6 htwo hwr
    walk_at "vc"
    intro x dx hx hdx nxd
    have smI : Same H6 (upd (upd H6 dx (HO.own x)) x (HO.ins cShelf dx [])) := (same_upd hdx).trans (same_upd (by rw [upd_ne nxd.symm]; exact hx))
    have hin : upd (upd H6 dx (HO.own x)) x (HO.ins cShelf dx []) x = some (HO.ins cShelf dx []) := upd_same
    generalize upd (upd H6 dx (HO.own x)) x (HO.ins cShelf dx []) = H6' at smI hin
    have BI := B.same smI
    have hsdl : ∀ sd ∈ sds, sd.length ≤ 1000 := fun sd h => by have := (hsd sd h).most; omega
    refine ⟨x, dx, ps, sp, lets, g, l, sds, rfl, hin, by omega, BI.ps_, BI.sp_, hsdl, BI.tab, fun h => (h ⟨hlg, hsg⟩).elim, fun _ _ h => (h hdg).elim, fun _ _ _ foot H7 sh hfoot sx => ⟨rfl, ?_⟩⟩
    have e67 : SmT PT qL H6 H7 := sx.to hx smI
    have hff : ∀ c ∈ foot, H6 c = none := fun c hc => by
      rcases hfoot c hc with e | e
      · rw [e]; exact hx
      · cases h : H6 c with
        | none => rfl
        | some o => rw [smI _ _ h] at e; cases e
    have B7 := B.sm1 nPP e67
    clear smI hin BI hfoot sx hx hdx nxd
    walk_at "vc"
    rw [show (((((((((((List.set (L2.start nlaw [V.ref a0]) 1 (some (V.ref a))).set 2 (some (V.str (S lets)))).set 3 (some (V.str (S r)))).set 4 (some (V.ref ps))).set 5 (some (V.ref sp))).set 6 (some (V.ref kp))).set 7 (some (V.str (S bad)))).set 8 (some (V.str (S one)))).set 9 (some (V.ref two))).set 10 (some (V.ref wr))).set 11 (some (V.ref x))) = ([some (V.ref a0), some (V.ref a), some (V.str (S lets)), some (V.str (S r)), some (V.ref ps), some (V.ref sp), some (V.ref kp), some (V.str (S bad)), some (V.str (S one)), some (V.ref two), some (V.ref wr), some (V.ref x), none, none] : L2.St) from rfl]
    refine ⟨lets, rfl, by omega, fun _ => ?_, fun h => (h hlg).elim⟩
    walk_at "vc"
    refine ⟨rfl, ?_⟩
    walk_at "vc"
    rw [nonN]
    walk_at "vc"
    refine ⟨r, lets, rfl, by omega, fun _ => ?_, fun h => (h hrok).elim⟩
    walk_at "vc"
    refine ⟨rfl, ?_⟩
    walk_at "vc"
    rw [nonN]
    walk_at "vc"
    refine ⟨ps, g, l, rfl, SqT.of B7.ps_, fun _ H8 s8 => ?_, fun h => (h hsg).elim⟩
    have B8 := B7.same s8
    have sh8 := sh.same (fun c _ o e => s8 c o e) fun c xs e => s8 c _ e
    have e68 : SmT PT qL H6 H8 := e67.trans (SmT.of s8)
    clear s8 e67 B7 sh
    walk_at "vc"
    refine ⟨rfl, ?_⟩
    walk_at "vc"
    rw [nonN]
    walk_at "vc"
    refine ⟨sp, sds, rfl, SqL.of B8.sp_, hsdl, fun _ => ?_, fun h => (h hdg).elim⟩
    walk_at "vc"
    refine ⟨rfl, ?_⟩
    walk_at "vc"
    rw [nonN]
    walk_at "vc"
    obtain ⟨dx8, fs8, hi8, hlay8, _⟩ := sh8.ins
    refine ⟨x, dx8, fs8, rfl, hi8, hlay8, ?_⟩
    walk_at "vc"
    refine ⟨x, foot, _, r, rfl, sh8, by simp, by omega, fun h => (h hrok).elim, fun _ foot9 H9 sh9 fr9 gr9 => ?_⟩
    have e69 : SmT PT qL H6 H9 := sh8.smFr e68 fr9 hff
    have B9 := B.sm1 nPP e69
    clear hi8 hlay8 fr9 gr9 e68 e69 sh8 B8 hff B
    walk_at "vc"
    rw [show ({ lets := lets, g := g, l := l, sds := sds, rows := [] } : ShS).rows = [] from rfl, zeroN]
    walk_at "vc"
    have hcd : Cd sds := fun z hz c hc => by
      rcases (hsd z hz).all c hc with e | e <;> omega
    refine ne_strs_same' hcd (SqL.of B9.sp_) (SqL.of B9.kp_) ?_
    walk_at "vc"
    refine ⟨B9.tab2, fun f1 F1 H10 hF1 (s10 : SmT PT2 qB H9 H10) hn1 hf1 (hc1 : H10 F1.c = some (LamX.CodeO F1.c qB)) => ?_⟩
    walk_at "vc"
    refine ⟨show 1 ≤ sizeLine by decide, fun wp hwp => ?_⟩
    have wp0 : H9 wp = none := s10.free B9.tab2 hwp
    have W1 := Wk.one hwp hf1 hc1
    have E1 := s10.trans (SmT.of (same_upd (o := .lst [.ref f1]) hwp))
    generalize upd H10 wp (.lst [.ref f1]) = K1 at W1 E1
    clear s10 hn1 hf1 hc1 hwp
    walk_at "vc"
    refine ⟨.inl ⟨rfl, _, SqL.of W1.w⟩, ?_⟩
    walk_at "vc"
    refine ⟨E1.t B9.tab2, fun f2 F2 J2 hF2 (s2 : SmT PT2 qB K1 J2) hn2 hf2 (hc2 : J2 F2.c = some (LamX.CodeO F2.c qB)) => ?_⟩
    walk_at "vc"
    refine x_append (s2.lst W1.w) (show 1 < sizeLine by decide) ?_
    have W2 : Wk wp [(f1, F1), (f2, F2)] (upd J2 wp (.lst (List.map (fun p => V.ref p.1) ([(f1, F1)] : List (Addr × LaX.LA)) ++ [V.ref f2]))) := W1.add s2 hf2 hc2
    have E2 := ((E1).trans s2).putL (o := .lst (List.map (fun p => V.ref p.1) ([(f1, F1)] : List (Addr × LaX.LA)) ++ [V.ref f2])) wp0 (s2.lst W1.w)
    generalize upd J2 wp (.lst (List.map (fun p => V.ref p.1) ([(f1, F1)] : List (Addr × LaX.LA)) ++ [V.ref f2])) = K2 at W2 E2
    clear W1 E1 s2 hn2 hf2 hc2
    walk_at "vc"
    refine ⟨.inl ⟨rfl, _, SqL.of W2.w⟩, ?_⟩
    walk_at "vc"
    refine ⟨E2.t B9.tab2, fun f3 F3 J3 hF3 (s3 : SmT PT2 qB K2 J3) hn3 hf3 (hc3 : J3 F3.c = some (LamX.CodeO F3.c qB)) => ?_⟩
    walk_at "vc"
    refine x_append (s3.lst W2.w) (show 2 < sizeLine by decide) ?_
    have W3 : Wk wp [(f1, F1), (f2, F2), (f3, F3)] (upd J3 wp (.lst (List.map (fun p => V.ref p.1) ([(f1, F1), (f2, F2)] : List (Addr × LaX.LA)) ++ [V.ref f3]))) := W2.add s3 hf3 hc3
    have E3 := ((E2).trans s3).putL (o := .lst (List.map (fun p => V.ref p.1) ([(f1, F1), (f2, F2)] : List (Addr × LaX.LA)) ++ [V.ref f3])) wp0 (s3.lst W2.w)
    generalize upd J3 wp (.lst (List.map (fun p => V.ref p.1) ([(f1, F1), (f2, F2)] : List (Addr × LaX.LA)) ++ [V.ref f3])) = K3 at W3 E3
    clear W2 E2 s3 hn3 hf3 hc3
    walk_at "vc"
    refine ⟨.inl ⟨rfl, _, SqL.of W3.w⟩, ?_⟩
    walk_at "vc"
    refine ⟨E3.t B9.tab2, fun f4 F4 J4 hF4 (s4 : SmT PT2 qB K3 J4) hn4 hf4 (hc4 : J4 F4.c = some (LamX.CodeO F4.c qB)) => ?_⟩
    walk_at "vc"
    refine x_append (s4.lst W3.w) (show 3 < sizeLine by decide) ?_
    have W4 : Wk wp [(f1, F1), (f2, F2), (f3, F3), (f4, F4)] (upd J4 wp (.lst (List.map (fun p => V.ref p.1) ([(f1, F1), (f2, F2), (f3, F3)] : List (Addr × LaX.LA)) ++ [V.ref f4]))) := W3.add s4 hf4 hc4
    have E4 := ((E3).trans s4).putL (o := .lst (List.map (fun p => V.ref p.1) ([(f1, F1), (f2, F2), (f3, F3)] : List (Addr × LaX.LA)) ++ [V.ref f4])) wp0 (s4.lst W3.w)
    generalize upd J4 wp (.lst (List.map (fun p => V.ref p.1) ([(f1, F1), (f2, F2), (f3, F3)] : List (Addr × LaX.LA)) ++ [V.ref f4])) = K4 at W4 E4
    clear W3 E3 s4 hn4 hf4 hc4
    walk_at "vc"
    refine ⟨.inl ⟨rfl, _, SqL.of W4.w⟩, ?_⟩
    walk_at "vc"
    refine ⟨E4.t B9.tab2, fun f5 F5 J5 hF5 (s5 : SmT PT2 qB K4 J5) hn5 hf5 (hc5 : J5 F5.c = some (LamX.CodeO F5.c qB)) => ?_⟩
    walk_at "vc"
    refine x_append (s5.lst W4.w) (show 4 < sizeLine by decide) ?_
    have W5 : Wk wp [(f1, F1), (f2, F2), (f3, F3), (f4, F4), (f5, F5)] (upd J5 wp (.lst (List.map (fun p => V.ref p.1) ([(f1, F1), (f2, F2), (f3, F3), (f4, F4)] : List (Addr × LaX.LA)) ++ [V.ref f5]))) := W4.add s5 hf5 hc5
    have E5 := ((E4).trans s5).putL (o := .lst (List.map (fun p => V.ref p.1) ([(f1, F1), (f2, F2), (f3, F3), (f4, F4)] : List (Addr × LaX.LA)) ++ [V.ref f5])) wp0 (s5.lst W4.w)
    generalize upd J5 wp (.lst (List.map (fun p => V.ref p.1) ([(f1, F1), (f2, F2), (f3, F3), (f4, F4)] : List (Addr × LaX.LA)) ++ [V.ref f5])) = K5 at W5 E5
    clear W4 E4 s5 hn5 hf5 hc5
    walk_at "vc"
    refine ⟨.inl ⟨rfl, _, SqL.of W5.w⟩, ?_⟩
    walk_at "vc"
    refine ⟨E5.t B9.tab2, fun f6 F6 J6 hF6 (s6 : SmT PT2 qB K5 J6) hn6 hf6 (hc6 : J6 F6.c = some (LamX.CodeO F6.c qB)) => ?_⟩
    walk_at "vc"
    refine x_append (s6.lst W5.w) (show 5 < sizeLine by decide) ?_
    have W6 : Wk wp [(f1, F1), (f2, F2), (f3, F3), (f4, F4), (f5, F5), (f6, F6)] (upd J6 wp (.lst (List.map (fun p => V.ref p.1) ([(f1, F1), (f2, F2), (f3, F3), (f4, F4), (f5, F5)] : List (Addr × LaX.LA)) ++ [V.ref f6]))) := W5.add s6 hf6 hc6
    have E6 := ((E5).trans s6).putL (o := .lst (List.map (fun p => V.ref p.1) ([(f1, F1), (f2, F2), (f3, F3), (f4, F4), (f5, F5)] : List (Addr × LaX.LA)) ++ [V.ref f6])) wp0 (s6.lst W5.w)
    generalize upd J6 wp (.lst (List.map (fun p => V.ref p.1) ([(f1, F1), (f2, F2), (f3, F3), (f4, F4), (f5, F5)] : List (Addr × LaX.LA)) ++ [V.ref f6])) = K6 at W6 E6
    clear W5 E5 s6 hn6 hf6 hc6
    walk_at "vc"
    refine ⟨.inl ⟨rfl, _, SqL.of W6.w⟩, ?_⟩
    walk_at "vc"
    refine ⟨E6.t B9.tab2, fun f7 F7 J7 hF7 (s7 : SmT PT2 qB K6 J7) hn7 hf7 (hc7 : J7 F7.c = some (LamX.CodeO F7.c qB)) => ?_⟩
    walk_at "vc"
    refine x_append (s7.lst W6.w) (show 6 < sizeLine by decide) ?_
    have W7 : Wk wp [(f1, F1), (f2, F2), (f3, F3), (f4, F4), (f5, F5), (f6, F6), (f7, F7)] (upd J7 wp (.lst (List.map (fun p => V.ref p.1) ([(f1, F1), (f2, F2), (f3, F3), (f4, F4), (f5, F5), (f6, F6)] : List (Addr × LaX.LA)) ++ [V.ref f7]))) := W6.add s7 hf7 hc7
    have E7 := ((E6).trans s7).putL (o := .lst (List.map (fun p => V.ref p.1) ([(f1, F1), (f2, F2), (f3, F3), (f4, F4), (f5, F5), (f6, F6)] : List (Addr × LaX.LA)) ++ [V.ref f7])) wp0 (s7.lst W6.w)
    generalize upd J7 wp (.lst (List.map (fun p => V.ref p.1) ([(f1, F1), (f2, F2), (f3, F3), (f4, F4), (f5, F5), (f6, F6)] : List (Addr × LaX.LA)) ++ [V.ref f7])) = K7 at W7 E7
    clear W6 E6 s7 hn7 hf7 hc7
    walk_at "vc"
    have BK := B9.sm2 nPP E7
    have shK := sh9.smT E7
    clear E7 B9 sh9 wp0
    refine x_iListi (SqL.of W7.w) ?_
    intro D hD
    refine lc_list (K := K) (a := wp) (xs := List.map (fun p => V.ref p.1) ([(f1, F1), (f2, F2), (f3, F3), (f4, F4), (f5, F5), (f6, F6), (f7, F7)] : List (Addr × LaX.LA))) (fun i H' => Same K7 H' ∧ H' D = some (.lst [])) ⟨same_upd hD, upd_same⟩ (fun i H' _ h => SqL.of (h.1 _ _ W7.w)) ?_ ?_
    · rintro i v Hj hx ⟨smj, hDj⟩
      obtain ⟨p, hp, rfl⟩ : ∃ p ∈ ([(f1, F1), (f2, F2), (f3, F3), (f4, F4), (f5, F5), (f6, F6), (f7, F7)] : List (Addr × LaX.LA)), v = V.ref p.1 := by
        obtain ⟨p, hp, e⟩ := List.mem_map.mp (List.mem_of_getElem? hx)
        exact ⟨p, hp, e.symm⟩
      obtain ⟨ho, hc⟩ := (W7.same smj).o p hp
      have BJ := BK.same smj
      have shJ := shK.same (fun c _ o e => smj c o e) fun c xs e => smj c _ e
      walk_at "vc"
      refine ⟨rfl, ?_⟩
      walk_at "vc"
      refine kd_of "row" (fun H'' s'' => ?_) (fun Q hq => ?_)
      · walk_at "vc"
        rw [if_neg (by simp)]
        exact ⟨smj.trans s'', s'' _ _ hDj⟩
      simp only [List.mem_cons, List.not_mem_nil, or_false] at hp
      rcases hp with rfl | rfl | rfl | rfl | rfl | rfl | rfl
      · refine kd_mk (wd := "row") (by rfl) ho hc hF1 (LamX.lamS_by (sc := defScope slaw) (by decide +kernel)) (fun _ _ _ _ _ => rfl) (fun A outer s H E f c' hrl => (pe_call Dneed_letters.ok (hrl.mono (by decide)) (by rfl) Dneed_letters.g Dneed_letters.kp Dneed_letters.b .nil (passes_call (takes_of rfl rfl rfl rfl) (fun _ _ _ _ h => h)) (pa_cons (pv 7) pa_nil))) (.inl ⟨rfl, rfl⟩) fun E Q' hE => ?_
        walk_at "vc"
        exact ⟨bad, rfl, hbl, fun h => (hbn h).elim, fun _ => hE _ hq⟩
      · refine kd_mk (wd := "row") (by rfl) ho hc hF2 (LamX.lamS_by (sc := defScope slaw) (by decide +kernel)) (fun _ _ _ _ _ => rfl) (fun A outer s H E f c' hrl => (pe_call Dneed_row.ok (hrl.mono (by decide)) (by rfl) Dneed_row.g Dneed_row.kp Dneed_row.b .nil (passes_call (takes_of rfl rfl rfl rfl) (fun _ _ _ _ h => h)) (pa_cons (pv 8) (pa_cons (pv 2) pa_nil)))) (.inl ⟨rfl, rfl⟩) fun E Q' hE => ?_
        walk_at "vc"
        exact ⟨one, lets, rfl, hol, fun h => (hon h).elim, fun _ => hE _ hq⟩
      · refine kd_mk (wd := "row") (by rfl) ho hc hF3 (LamX.lamS_by (sc := defScope slaw) (by decide +kernel)) (fun _ _ _ _ _ => rfl) (fun A outer s H E f c' hrl => (pe_call Dneed_scale.ok (hrl.mono (by decide)) (by rfl) Dneed_scale.g Dneed_scale.kp Dneed_scale.b .nil (passes_call (takes_of rfl rfl rfl rfl) (fun _ _ _ _ h => h)) (pa_cons (pv 9) pa_nil))) (.inl ⟨rfl, rfl⟩) fun E Q' hE => ?_
        walk_at "vc"
        exact ⟨two, tg, tl, rfl, SqT.of BJ.two_, fun h => (htn h).elim, fun _ H' s' => hE _ fun H'' s'' => hq _ (s'.trans s'')⟩
      · refine kd_mk (wd := "row") (by rfl) ho hc hF4 (LamX.lamS_by (sc := defScope slaw) (by decide +kernel)) (fun _ _ _ _ _ => rfl) (fun A outer s H E f c' hrl => (pe_make TShelf.make DShelf___init__.ok (hrl.mono (by decide)) (by rfl) TShelf.mg DShelf___init__.b .nil (passes_call (takes_of rfl rfl rfl rfl) (fun _ _ _ _ h => h)) (pa_cons (pv 7) (pa_cons (pv 4) (pa_cons (pv 5) pa_nil))))) (.inl ⟨rfl, rfl⟩) fun E Q' hE => ?_
        walk_at "vc"
        intro y dy hy hdy nyd
        have smI : Same Hj (upd (upd Hj dy (HO.own y)) y (HO.ins cShelf dy [])) := (same_upd hdy).trans (same_upd (by rw [upd_ne nyd.symm]; exact hy))
        have hin : upd (upd Hj dy (HO.own y)) y (HO.ins cShelf dy []) y = some (HO.ins cShelf dy []) := upd_same
        generalize upd (upd Hj dy (HO.own y)) y (HO.ins cShelf dy []) = HI at smI hin
        have BI := BJ.same smI
        exact ⟨y, dy, ps, sp, bad, g, l, sds, rfl, hin, hbl, BI.ps_, BI.sp_, hsdl, BI.tab, fun _ H' s' => hE _ fun H'' s'' => hq _ ((smI.trans s').trans s''), fun h => (hbn h).elim, fun h => (hbn h).elim⟩
      · refine kd_mk (wd := "row") (by rfl) ho hc hF5 (LamX.lamS_by (sc := defScope slaw) (by decide +kernel)) (fun _ _ _ _ _ => rfl) (fun A outer s H E f c' hrl => (pe_make TShelf.make DShelf___init__.ok (hrl.mono (by decide)) (by rfl) TShelf.mg DShelf___init__.b .nil (passes_call (takes_of rfl rfl rfl rfl) (fun _ _ _ _ h => h)) (pa_cons (pv 2) (pa_cons (pv 9) (pa_cons (pv 5) pa_nil))))) (.inl ⟨rfl, rfl⟩) fun E Q' hE => ?_
        walk_at "vc"
        intro y dy hy hdy nyd
        have smI : Same Hj (upd (upd Hj dy (HO.own y)) y (HO.ins cShelf dy [])) := (same_upd hdy).trans (same_upd (by rw [upd_ne nyd.symm]; exact hy))
        have hin : upd (upd Hj dy (HO.own y)) y (HO.ins cShelf dy []) y = some (HO.ins cShelf dy []) := upd_same
        generalize upd (upd Hj dy (HO.own y)) y (HO.ins cShelf dy []) = HI at smI hin
        have BI := BJ.same smI
        exact ⟨y, dy, two, sp, lets, tg, tl, sds, rfl, hin, by omega, BI.two_, BI.sp_, hsdl, BI.tab, fun _ H' s' => hE _ fun H'' s'' => hq _ ((smI.trans s').trans s''), fun _ h => (htn h).elim, fun _ h => (htn h).elim⟩
      · refine kd_mk (wd := "row") (by rfl) ho hc hF6 (LamX.lamS_by (sc := defScope slaw) (by decide +kernel)) (fun _ _ _ _ _ => rfl) (fun A outer s H E f c' hrl => (pe_meth (pv 11) TShelf.cl DShelf_lay.mt DShelf_lay.ok (hrl.mono (by decide)) DShelf_lay.b .nil (passes_call (takes_of rfl rfl rfl rfl) (fun _ _ _ _ h => h)) (pa_cons (pv 8) pa_nil))) (.inl ⟨rfl, rfl⟩) fun E Q' hE => ?_
        walk_at "vc"
        obtain ⟨dx9, fs9, hi9, hlay9, _⟩ := shJ.ins
        refine ⟨x, dx9, fs9, rfl, hi9, hlay9, ?_⟩
        walk_at "vc"
        exact ⟨x, foot9, _, one, rfl, shJ, by simp, hol, fun _ => hE _ hq, fun h => (hon h).elim⟩
      · refine kd_mk (wd := "row") (by rfl) ho hc hF7 (LamX.lamS_by (sc := defScope slaw) (by decide +kernel)) (fun _ _ _ _ _ => rfl) (fun A outer s H E f c' hrl => (pe_meth (pv 11) TShelf.cl DShelf_find.mt DShelf_find.ok (hrl.mono (by decide)) DShelf_find.b .nil (passes_call (takes_of rfl rfl rfl rfl) (fun _ _ _ _ h => h)) (pa_cons (pv 8) (pa_cons pe_int pa_nil)))) (.inl ⟨rfl, rfl⟩) fun E Q' hE => ?_
        walk_at "vc"
        obtain ⟨dx9, fs9, hi9, _, _, _, hfi9, _⟩ := shJ.ins
        refine ⟨x, dx9, fs9, rfl, hi9, hfi9, ?_⟩
        walk_at "vc"
        exact ⟨x, foot9, _, one, 1000, rfl, shJ, hol, hon, hE _ hq⟩
    rintro HA ⟨smA, hDA⟩
    walk_at "vc"
    refine ⟨show 0 ≤ sizeLine by decide, fun ep hep => ?_⟩
    have smB : Same K7 (upd HA ep (.lst [])) := smA.trans (same_upd hep)
    have hDB : upd HA ep (.lst []) D = some (.lst []) := same_upd hep _ _ hDA
    have hep1 : upd HA ep (.lst []) ep = some (.lst []) := upd_same
    generalize upd HA ep (.lst []) = HB at smB hDB hep1
    refine neD_nil (cs := []) hDB hep1 ?_
    have BB := BK.same smB
    have shB := shK.same (fun c _ o e => smB c o e) fun c xs e => smB c _ e
    clear smB hDB hep1 smA hDA hep BK shK W7 hD
    clear hF1 hF2 hF3 hF4 hF5 hF6 hF7
    walk_at "vc"
    refine ⟨BB.tab2, fun g1 G1 HX hG1 (s10 : SmT PT2 qB HB HX) hn1 hg1 (hc1 : HX G1.c = some (LamX.CodeO G1.c qB)) => ?_⟩
    walk_at "vc"
    refine ⟨show 1 ≤ sizeLine by decide, fun vp hvp => ?_⟩
    have vp0 : HB vp = none := s10.free BB.tab2 hvp
    have V1 := Wk.one hvp hg1 hc1
    have D1 := s10.trans (SmT.of (same_upd (o := .lst [.ref g1]) hvp))
    generalize upd HX vp (.lst [.ref g1]) = L1 at V1 D1
    clear s10 hn1 hg1 hc1 hvp
    walk_at "vc"
    refine ⟨.inl ⟨rfl, _, SqL.of V1.w⟩, ?_⟩
    walk_at "vc"
    refine ⟨D1.t BB.tab2, fun g2 G2 J2 hG2 (s2 : SmT PT2 qB L1 J2) hn2 hg2 (hc2 : J2 G2.c = some (LamX.CodeO G2.c qB)) => ?_⟩
    walk_at "vc"
    refine x_append (s2.lst V1.w) (show 1 < sizeLine by decide) ?_
    have V2 : Wk vp [(g1, G1), (g2, G2)] (upd J2 vp (.lst (List.map (fun p => V.ref p.1) ([(g1, G1)] : List (Addr × LaX.LA)) ++ [V.ref g2]))) := V1.add s2 hg2 hc2
    have D2 := ((D1).trans s2).putL (o := .lst (List.map (fun p => V.ref p.1) ([(g1, G1)] : List (Addr × LaX.LA)) ++ [V.ref g2])) vp0 (s2.lst V1.w)
    generalize upd J2 vp (.lst (List.map (fun p => V.ref p.1) ([(g1, G1)] : List (Addr × LaX.LA)) ++ [V.ref g2])) = L2 at V2 D2
    clear V1 D1 s2 hn2 hg2 hc2
    walk_at "vc"
    refine ⟨.inl ⟨rfl, _, SqL.of V2.w⟩, ?_⟩
    walk_at "vc"
    refine ⟨D2.t BB.tab2, fun g3 G3 J3 hG3 (s3 : SmT PT2 qB L2 J3) hn3 hg3 (hc3 : J3 G3.c = some (LamX.CodeO G3.c qB)) => ?_⟩
    walk_at "vc"
    refine x_append (s3.lst V2.w) (show 2 < sizeLine by decide) ?_
    have V3 : Wk vp [(g1, G1), (g2, G2), (g3, G3)] (upd J3 vp (.lst (List.map (fun p => V.ref p.1) ([(g1, G1), (g2, G2)] : List (Addr × LaX.LA)) ++ [V.ref g3]))) := V2.add s3 hg3 hc3
    have D3 := ((D2).trans s3).putL (o := .lst (List.map (fun p => V.ref p.1) ([(g1, G1), (g2, G2)] : List (Addr × LaX.LA)) ++ [V.ref g3])) vp0 (s3.lst V2.w)
    generalize upd J3 vp (.lst (List.map (fun p => V.ref p.1) ([(g1, G1), (g2, G2)] : List (Addr × LaX.LA)) ++ [V.ref g3])) = L3 at V3 D3
    clear V2 D2 s3 hn3 hg3 hc3
    walk_at "vc"
    refine ⟨.inl ⟨rfl, _, SqL.of V3.w⟩, ?_⟩
    walk_at "vc"
    refine ⟨D3.t BB.tab2, fun g4 G4 J4 hG4 (s4 : SmT PT2 qB L3 J4) hn4 hg4 (hc4 : J4 G4.c = some (LamX.CodeO G4.c qB)) => ?_⟩
    walk_at "vc"
    refine x_append (s4.lst V3.w) (show 3 < sizeLine by decide) ?_
    have V4 : Wk vp [(g1, G1), (g2, G2), (g3, G3), (g4, G4)] (upd J4 vp (.lst (List.map (fun p => V.ref p.1) ([(g1, G1), (g2, G2), (g3, G3)] : List (Addr × LaX.LA)) ++ [V.ref g4]))) := V3.add s4 hg4 hc4
    have D4 := ((D3).trans s4).putL (o := .lst (List.map (fun p => V.ref p.1) ([(g1, G1), (g2, G2), (g3, G3)] : List (Addr × LaX.LA)) ++ [V.ref g4])) vp0 (s4.lst V3.w)
    generalize upd J4 vp (.lst (List.map (fun p => V.ref p.1) ([(g1, G1), (g2, G2), (g3, G3)] : List (Addr × LaX.LA)) ++ [V.ref g4])) = L4 at V4 D4
    clear V3 D3 s4 hn4 hg4 hc4
    walk_at "vc"
    have BK := BB.sm2 nPP D4
    have shK := shB.smT D4
    clear D4 BB shB vp0
    refine x_iListi (SqL.of V4.w) ?_
    intro D hD
    refine lc_list (K := K) (a := vp) (xs := List.map (fun p => V.ref p.1) ([(g1, G1), (g2, G2), (g3, G3), (g4, G4)] : List (Addr × LaX.LA))) (fun i H' => Same L4 H' ∧ H' D = some (.lst [])) ⟨same_upd hD, upd_same⟩ (fun i H' _ h => SqL.of (h.1 _ _ V4.w)) ?_ ?_
    · rintro i v Hj hx ⟨smj, hDj⟩
      obtain ⟨p, hp, rfl⟩ : ∃ p ∈ ([(g1, G1), (g2, G2), (g3, G3), (g4, G4)] : List (Addr × LaX.LA)), v = V.ref p.1 := by
        obtain ⟨p, hp, e⟩ := List.mem_map.mp (List.mem_of_getElem? hx)
        exact ⟨p, hp, e.symm⟩
      obtain ⟨ho, hc⟩ := (V4.same smj).o p hp
      have BJ := BK.same smj
      have shJ := shK.same (fun c _ o e => smj c o e) fun c xs e => smj c _ e
      walk_at "vc"
      refine ⟨rfl, ?_⟩
      walk_at "vc"
      refine kd_of "seed" (fun H'' s'' => ?_) (fun Q hq => ?_)
      · walk_at "vc"
        rw [if_neg (by simp)]
        exact ⟨smj.trans s'', s'' _ _ hDj⟩
      simp only [List.mem_cons, List.not_mem_nil, or_false] at hp
      rcases hp with rfl | rfl | rfl | rfl
      · refine kd_mk (wd := "seed") (by rfl) ho hc hG1 (LamX.lamS_by (sc := defScope slaw) (by decide +kernel)) (fun _ _ _ _ _ => rfl) (fun A outer s H E f c' hrl => (pe_call Dneed_seeds.ok (hrl.mono (by decide)) (by rfl) Dneed_seeds.g Dneed_seeds.kp Dneed_seeds.b .nil (passes_call (takes_of rfl rfl rfl rfl) (fun _ _ _ _ h => h)) (pa_cons (pv 10) pa_nil))) (.inr ⟨rfl, rfl⟩) fun E Q' hE => ?_
        walk_at "vc"
        exact ⟨wr, wrong, rfl, SqL.of BJ.wr_, hwl, fun h => (hwn h).elim, fun _ => hE _ hq⟩
      · refine kd_mk (wd := "seed") (by rfl) ho hc hG2 (LamX.lamS_by (sc := defScope slaw) (by decide +kernel)) (fun _ _ _ _ _ => rfl) (fun A outer s H E f c' hrl => (pe_make TShelf.make DShelf___init__.ok (hrl.mono (by decide)) (by rfl) TShelf.mg DShelf___init__.b .nil (passes_call (takes_of rfl rfl rfl rfl) (fun _ _ _ _ h => h)) (pa_cons (pv 2) (pa_cons (pv 4) (pa_cons (pv 10) pa_nil))))) (.inr ⟨rfl, rfl⟩) fun E Q' hE => ?_
        walk_at "vc"
        intro y dy hy hdy nyd
        have smI : Same Hj (upd (upd Hj dy (HO.own y)) y (HO.ins cShelf dy [])) := (same_upd hdy).trans (same_upd (by rw [upd_ne nyd.symm]; exact hy))
        have hin : upd (upd Hj dy (HO.own y)) y (HO.ins cShelf dy []) y = some (HO.ins cShelf dy []) := upd_same
        generalize upd (upd Hj dy (HO.own y)) y (HO.ins cShelf dy []) = HI at smI hin
        have BI := BJ.same smI
        exact ⟨y, dy, ps, wr, lets, g, l, wrong, rfl, hin, by omega, BI.ps_, BI.wr_, hwl, BI.tab, fun h => (h ⟨hlg, hsg⟩).elim, fun _ _ _ H' s' => hE _ fun H'' s'' => hq _ ((smI.trans s').trans s''), fun _ _ h => (hwn h).elim⟩
      · refine kd_mk (wd := "seed") (by rfl) ho hc hG3 (LamX.lamS_by (sc := defScope slaw) (by decide +kernel)) (fun _ _ _ _ _ => rfl) (fun A outer s H E f c' hrl => (pe_call Dlane.ok (hrl.mono (by decide)) (by rfl) Dlane.g Dlane.kp Dlane.b .nil (passes_call (takes_of rfl rfl rfl rfl) (fun _ _ _ _ h => h)) (pa_cons (pv 3) (pa_cons (pv 3) (pa_cons pe_int (pa_cons (pv 10) (pa_cons (pv 4) (pa_cons pe_int pa_nil)))))))) (.inr ⟨rfl, rfl⟩) fun E Q' hE => ?_
        walk_at "vc"
        exact ⟨_, _, _, wr, 0, 9, wrong, rfl, SqL.of BJ.wr_, hwl, hwn, hE _ hq⟩
      · refine kd_mk (wd := "seed") (by rfl) ho hc hG4 (LamX.lamS_by (sc := defScope slaw) (by decide +kernel)) (fun _ _ _ _ _ => rfl) (fun A outer s H E f c' hrl => (pe_call Dshows.ok (hrl.mono (by decide)) (by rfl) Dshows.g Dshows.kp Dshows.b .nil (passes_call (takes_of rfl rfl rfl rfl) (fun _ _ _ _ h => h)) (pa_cons (pv 3) (pa_cons (pv 3) (pa_cons pe_int (pa_cons (pv 10) (pa_cons (pv 4) (pa_cons pe_int (pa_cons (pe_tup (pa_cons pe_str (pa_cons pe_int pa_nil))) pa_nil))))))))) (.inr ⟨rfl, rfl⟩) fun E Q' hE => ?_
        walk_at "vc"
        refine ⟨show 2 ≤ sizeLine by decide, fun tq htq => ?_⟩
        exact ⟨_, _, _, _, wr, 0, 9, wrong, rfl, SqL.of (same_upd htq _ _ BJ.wr_), hwl, hwn, hE _ fun H'' s'' => hq _ ((same_upd htq).trans s'')⟩
    rintro HC ⟨smC, hDC⟩
    have shC := shK.same (fun c _ o e => smC c o e) fun c xs e => smC c _ e
    clear shK BK smC V4 hD
    walk_at "vc"
    refine ⟨show 0 ≤ sizeLine by decide, fun ep hep => ?_⟩
    refine eqD_nil (cs := []) (same_upd hep _ _ hDC) upd_same ?_
    have shD := shC.same (H' := upd HC ep (.lst [])) (fun c _ o e => same_upd hep c o e) fun c xs e => same_upd hep c _ e
    generalize upd HC ep (.lst []) = HD at shD
    walk_at "vc"
    rw [if_pos (by rfl)]
    walk_at "vc"
    obtain ⟨dxD, fsD, hiD, _, hroD, _⟩ := shD.ins
    refine ⟨x, dxD, fsD, rfl, hiD, hroD, ?_⟩
    walk_at "vc"
    refine ⟨x, foot9, _, rfl, shD, by simp, fun foot10 HE rr sh10 fr10 gr10 hrr0 hnf hrr => ?_⟩
    walk_at "vc"
    refine ⟨show 1 ≤ sizeLine by decide, fun fp hfp => ?_⟩
    have hcr : Cd [r] := fun z hz c hc => by
      rw [List.mem_singleton.mp hz] at hc
      have := hlc c (hrl c hc)
      omega
    refine eq_strs_same' (l := [r]) hcr (SqL.of (same_upd hfp _ _ hrr)) (SqL.of upd_same) ?_
    exact q _

end
theorem all_mk {l : PySem.W.OpenLaw} {w : World} {K : PySem.W.Frag} {h : Heap} {mg : Str → Option Value} {fa : Addr} (X : K.In h) (G : h.Ns mainGlobals mg) (OTT : ∀ y ∈ (["_best_behind", "law"] : List Str), TabF K mg h y) (hfa : mg "law" = some (.ref fa))
    {cShelf : Addr} {aBadRow : Addr} {aBadSeed : Addr} {aBadText : Addr} {aNoPlace : Addr} {aNoRow : Addr} {aReachError : Addr} {aTooLow : Addr} {cc PT : Addr} {tec : Value} {tdd : Option Addr} {tvs : Array Value} {tsl : Array (Option Value)} {ccB PT2 : Addr} {tecB : Value} {tddB : Option Addr} {tvsB : Array Value} {tslB : Array (Option Value)} {od0 an0 : Option Addr} {sl0 : Array (Option Value)} {oc0 kV0 dc0 pm0 cd0 ct0 : Value} {g0 : Addr} {od1 an1 : Option Addr} {sl1 : Array (Option Value)} {oc1 kV1 dc1 pm1 cd1 ct1 : Value} {g1 : Addr} {od2 an2 : Option Addr} {sl2 : Array (Option Value)} {oc2 kV2 dc2 pm2 cd2 ct2 : Value} {g2 : Addr} {od3 an3 : Option Addr} {sl3 : Array (Option Value)} {oc3 kV3 dc3 pm3 cd3 ct3 : Value} {g3 : Addr} {od4 an4 : Option Addr} {sl4 : Array (Option Value)} {oc4 kV4 dc4 pm4 cd4 ct4 : Value} {g4 : Addr} {od5 an5 : Option Addr} {sl5 : Array (Option Value)} {oc5 kV5 dc5 pm5 cd5 ct5 : Value} {g5 : Addr} {od6 an6 : Option Addr} {sl6 : Array (Option Value)} {oc6 kV6 dc6 pm6 cd6 ct6 : Value} {g6 : Addr} {od7 an7 : Option Addr} {sl7 : Array (Option Value)} {oc7 kV7 dc7 pm7 cd7 ct7 : Value} {g7 : Addr} {od8 an8 : Option Addr} {sl8 : Array (Option Value)} {oc8 kV8 dc8 pm8 cd8 ct8 : Value} {g8 : Addr} {od9 an9 : Option Addr} {sl9 : Array (Option Value)} {oc9 kV9 dc9 pm9 cd9 ct9 : Value} {g9 : Addr} {od10 an10 : Option Addr} {sl10 : Array (Option Value)} {oc10 kV10 dc10 pm10 cd10 ct10 : Value} {g10 : Addr} {od11 an11 : Option Addr} {sl11 : Array (Option Value)} {oc11 kV11 dc11 pm11 cd11 ct11 : Value} {g11 : Addr} {od12 an12 : Option Addr} {sl12 : Array (Option Value)} {oc12 kV12 dc12 pm12 ct12 : Value} {g12 : Addr} {od13 an13 : Option Addr} {sl13 : Array (Option Value)} {oc13 kV13 dc13 pm13 cd13 ct13 : Value} {g13 : Addr} {od14 an14 : Option Addr} {sl14 : Array (Option Value)} {oc14 kV14 dc14 pm14 cd14 ct14 : Value} {g14 : Addr} {od15 an15 : Option Addr} {sl15 : Array (Option Value)} {oc15 kV15 dc15 pm15 cd15 ct15 : Value} {g15 : Addr} {od16 an16 : Option Addr} {sl16 : Array (Option Value)} {oc16 kV16 dc16 pm16 cd16 ct16 : Value} {g16 : Addr} {od17 an17 : Option Addr} {sl17 : Array (Option Value)} {oc17 kV17 dc17 pm17 cd17 ct17 : Value} {g17 : Addr} {od18 an18 : Option Addr} {sl18 : Array (Option Value)} {oc18 kV18 dc18 pm18 cd18 ct18 : Value} {g18 : Addr} {od19 an19 : Option Addr} {sl19 : Array (Option Value)} {oc19 kV19 dc19 pm19 cd19 ct19 : Value} {g19 : Addr} {od20 an20 : Option Addr} {sl20 : Array (Option Value)} {oc20 kV20 dc20 pm20 cd20 ct20 : Value} {g20 : Addr} {od21 an21 : Option Addr} {sl21 : Array (Option Value)} {oc21 kV21 dc21 pm21 cd21 ct21 : Value} {g21 : Addr} {od22 an22 : Option Addr} {sl22 : Array (Option Value)} {oc22 kV22 dc22 pm22 cd22 ct22 : Value} {g22 : Addr} {od23 an23 : Option Addr} {sl23 : Array (Option Value)} {oc23 kV23 dc23 pm23 cd23 ct23 : Value} {g23 : Addr} {od24 an24 : Option Addr} {sl24 : Array (Option Value)} {oc24 kV24 dc24 pm24 cd24 ct24 : Value} {g24 : Addr} {od25 an25 : Option Addr} {sl25 : Array (Option Value)} {oc25 kV25 dc25 pm25 cd25 ct25 : Value} {g25 : Addr} {od26 an26 : Option Addr} {sl26 : Array (Option Value)} {oc26 kV26 dc26 pm26 cd26 ct26 : Value} {g26 : Addr} {od27 an27 : Option Addr} {sl27 : Array (Option Value)} {oc27 kV27 dc27 pm27 cd27 ct27 : Value} {g27 : Addr} {od28 an28 : Option Addr} {sl28 : Array (Option Value)} {oc28 kV28 dc28 pm28 ct28 : Value} {g28 : Addr} {t_FEWEST_LETTERS : Tok} {t_MOST_LETTERS : Tok} {t_ALPHABET : Tok} {t_LONGEST_ROW : Tok} {t_LEAST_WEIGHT : Tok} {t_MOST_WEIGHT : Tok} {t_LIKE : Tok} {t_UNLIKE : Tok} {t_SHORTEST_SEED : Tok} {t_LONGEST_SEED : Tok} {t_PICK : Tok} {t_GAP : Tok} {t_FEWEST_SEEDS : Tok} {t_MOST_SEEDS : Tok} {t_BAR : Tok} {t_ENDLESS : Tok}
    (aCShelf : PySem.W.nsIn K mainGlobals "Shelf" = some (some (.ref cShelf))) (pgShelf : PySem.W.plainGet K cShelf Str.empty = true) (hdShelf : PySem.W.hasDictIn K cShelf = true) (poShelf : PySem.W.plainOver K cShelf = true) (saShelf : PySem.W.findIn K (.ref cShelf) "__setattr__" = some (some (.builtin "object.__setattr__"))) (mkShelf : PySem.W.makesIn K cShelf = true) (kcShelf : PySem.W.keepIn K (.ref cShelf) = true) (nShelf_letters : PySem.W.findIn K (.ref cShelf) "letters" = some none) (nShelf_scale : PySem.W.findIn K (.ref cShelf) "scale" = some none) (nShelf_seeds : PySem.W.findIn K (.ref cShelf) "seeds" = some none) (nShelf_limit : PySem.W.findIn K (.ref cShelf) "limit" = some none) (nShelf_laid : PySem.W.findIn K (.ref cShelf) "laid" = some none) (gxBadRow : PySem.W.nsIn K mainGlobals "BadRow" = some (some (.ref aBadRow))) (hdBadRow : PySem.W.hasDictIn K aBadRow = true) (tpBadRow : PySem.W.typeIn K (.ref aBadRow) = some (.type "type")) (bsBadRow : PySem.W.subIn K (.ref aBadRow) (.type "BaseException") = some true) (gxBadSeed : PySem.W.nsIn K mainGlobals "BadSeed" = some (some (.ref aBadSeed))) (hdBadSeed : PySem.W.hasDictIn K aBadSeed = true) (tpBadSeed : PySem.W.typeIn K (.ref aBadSeed) = some (.type "type")) (bsBadSeed : PySem.W.subIn K (.ref aBadSeed) (.type "BaseException") = some true) (gxBadText : PySem.W.nsIn K mainGlobals "BadText" = some (some (.ref aBadText))) (hdBadText : PySem.W.hasDictIn K aBadText = true) (tpBadText : PySem.W.typeIn K (.ref aBadText) = some (.type "type")) (bsBadText : PySem.W.subIn K (.ref aBadText) (.type "BaseException") = some true) (gxNoPlace : PySem.W.nsIn K mainGlobals "NoPlace" = some (some (.ref aNoPlace))) (hdNoPlace : PySem.W.hasDictIn K aNoPlace = true) (tpNoPlace : PySem.W.typeIn K (.ref aNoPlace) = some (.type "type")) (bsNoPlace : PySem.W.subIn K (.ref aNoPlace) (.type "BaseException") = some true) (gxNoRow : PySem.W.nsIn K mainGlobals "NoRow" = some (some (.ref aNoRow))) (hdNoRow : PySem.W.hasDictIn K aNoRow = true) (tpNoRow : PySem.W.typeIn K (.ref aNoRow) = some (.type "type")) (bsNoRow : PySem.W.subIn K (.ref aNoRow) (.type "BaseException") = some true) (gxReachError : PySem.W.nsIn K mainGlobals "ReachError" = some (some (.ref aReachError))) (hdReachError : PySem.W.hasDictIn K aReachError = true) (tpReachError : PySem.W.typeIn K (.ref aReachError) = some (.type "type")) (bsReachError : PySem.W.subIn K (.ref aReachError) (.type "BaseException") = some true) (gxTooLow : PySem.W.nsIn K mainGlobals "TooLow" = some (some (.ref aTooLow))) (hdTooLow : PySem.W.hasDictIn K aTooLow = true) (tpTooLow : PySem.W.typeIn K (.ref aTooLow) = some (.type "type")) (bsTooLow : PySem.W.subIn K (.ref aTooLow) (.type "BaseException") = some true) (xpBadRow : PySem.W.excIn K aBadRow [.type "ValueError", .type "Exception", .type "BaseException", .type "object"] "ValueError.__new__" = true) (kxBadRow : PySem.W.keepIn K (.ref aBadRow) = true) (hgBadRow : PySem.W.findIn K (.ref aBadRow) "__getattribute__" = some (some (.builtin "BaseException.__getattribute__"))) (hkBadRow : PySem.W.findIn K (.ref aBadRow) "__getattr__" = some none) (hcBadRow : PySem.W.findIn K (.ref aBadRow) "__class__" = some (some (.builtin "object.__class__"))) (hmBadRow : PySem.W.mroIn K aBadRow (.type "object") = some true) (veBadRow : PySem.W.subIn K (.ref aBadRow) (.type "ValueError") = some true) (suBadRow_BadRow : PySem.W.subIn K (.ref aBadRow) (.ref aBadRow) = some true) (suBadRow_BadSeed : PySem.W.subIn K (.ref aBadRow) (.ref aBadSeed) = some false) (suBadRow_BadText : PySem.W.subIn K (.ref aBadRow) (.ref aBadText) = some false) (suBadRow_NoPlace : PySem.W.subIn K (.ref aBadRow) (.ref aNoPlace) = some false) (suBadRow_NoRow : PySem.W.subIn K (.ref aBadRow) (.ref aNoRow) = some false) (suBadRow_ReachError : PySem.W.subIn K (.ref aBadRow) (.ref aReachError) = some true) (suBadRow_TooLow : PySem.W.subIn K (.ref aBadRow) (.ref aTooLow) = some false) (xpBadSeed : PySem.W.excIn K aBadSeed [.type "ValueError", .type "Exception", .type "BaseException", .type "object"] "ValueError.__new__" = true) (kxBadSeed : PySem.W.keepIn K (.ref aBadSeed) = true) (hgBadSeed : PySem.W.findIn K (.ref aBadSeed) "__getattribute__" = some (some (.builtin "BaseException.__getattribute__"))) (hkBadSeed : PySem.W.findIn K (.ref aBadSeed) "__getattr__" = some none) (hcBadSeed : PySem.W.findIn K (.ref aBadSeed) "__class__" = some (some (.builtin "object.__class__"))) (hmBadSeed : PySem.W.mroIn K aBadSeed (.type "object") = some true) (veBadSeed : PySem.W.subIn K (.ref aBadSeed) (.type "ValueError") = some true) (suBadSeed_BadRow : PySem.W.subIn K (.ref aBadSeed) (.ref aBadRow) = some false) (suBadSeed_BadSeed : PySem.W.subIn K (.ref aBadSeed) (.ref aBadSeed) = some true) (suBadSeed_BadText : PySem.W.subIn K (.ref aBadSeed) (.ref aBadText) = some false) (suBadSeed_NoPlace : PySem.W.subIn K (.ref aBadSeed) (.ref aNoPlace) = some false) (suBadSeed_NoRow : PySem.W.subIn K (.ref aBadSeed) (.ref aNoRow) = some false) (suBadSeed_ReachError : PySem.W.subIn K (.ref aBadSeed) (.ref aReachError) = some true) (suBadSeed_TooLow : PySem.W.subIn K (.ref aBadSeed) (.ref aTooLow) = some false) (xhn : PySem.W.specialIn K (.builtin "object.__class__") "__get__" = some (some (.builtin "getset_descriptor.__get__"))) (xht : PySem.W.takesIn K (.builtin "object.__class__") = some true) (a0 : PySem.W.nsIn K mainGlobals "need_letters" = some (some (.ref g0))) (l0 : K.lookup g0 = some ⟨oc0, od0, .func (PySem.W.fnOf "need_letters" "need_letters" (defArgs sneed_letters) (defBody sneed_letters) (defScope sneed_letters) .none kV0 dc0 pm0 an0 cd0 ct0), sl0⟩) (c0 : PySem.W.codeIn K cd0 "need_letters" = true) (k0 : PySem.W.keepIn K (.ref g0) = true) (a1 : PySem.W.nsIn K mainGlobals "need_row" = some (some (.ref g1))) (l1 : K.lookup g1 = some ⟨oc1, od1, .func (PySem.W.fnOf "need_row" "need_row" (defArgs sneed_row) (defBody sneed_row) (defScope sneed_row) .none kV1 dc1 pm1 an1 cd1 ct1), sl1⟩) (c1 : PySem.W.codeIn K cd1 "need_row" = true) (k1 : PySem.W.keepIn K (.ref g1) = true) (a2 : PySem.W.nsIn K mainGlobals "need_scale" = some (some (.ref g2))) (l2 : K.lookup g2 = some ⟨oc2, od2, .func (PySem.W.fnOf "need_scale" "need_scale" (defArgs sneed_scale) (defBody sneed_scale) (defScope sneed_scale) .none kV2 dc2 pm2 an2 cd2 ct2), sl2⟩) (c2 : PySem.W.codeIn K cd2 "need_scale" = true) (k2 : PySem.W.keepIn K (.ref g2) = true) (a3 : PySem.W.nsIn K mainGlobals "worth_of" = some (some (.ref g3))) (l3 : K.lookup g3 = some ⟨oc3, od3, .func (PySem.W.fnOf "worth_of" "worth_of" (defArgs sworth_of) (defBody sworth_of) (defScope sworth_of) .none kV3 dc3 pm3 an3 cd3 ct3), sl3⟩) (c3 : PySem.W.codeIn K cd3 "worth_of" = true) (k3 : PySem.W.keepIn K (.ref g3) = true) (a4 : PySem.W.nsIn K mainGlobals "_need_seed" = some (some (.ref g4))) (l4 : K.lookup g4 = some ⟨oc4, od4, .func (PySem.W.fnOf "_need_seed" "_need_seed" (defArgs s_need_seed) (defBody s_need_seed) (defScope s_need_seed) .none kV4 dc4 pm4 an4 cd4 ct4), sl4⟩) (c4 : PySem.W.codeIn K cd4 "_need_seed" = true) (k4 : PySem.W.keepIn K (.ref g4) = true) (a5 : PySem.W.nsIn K mainGlobals "need_seeds" = some (some (.ref g5))) (l5 : K.lookup g5 = some ⟨oc5, od5, .func (PySem.W.fnOf "need_seeds" "need_seeds" (defArgs sneed_seeds) (defBody sneed_seeds) (defScope sneed_seeds) .none kV5 dc5 pm5 an5 cd5 ct5), sl5⟩) (c5 : PySem.W.codeIn K cd5 "need_seeds" = true) (k5 : PySem.W.keepIn K (.ref g5) = true) (a6 : PySem.W.nsIn K mainGlobals "unlike_under" = some (some (.ref g6))) (l6 : K.lookup g6 = some ⟨oc6, od6, .func (PySem.W.fnOf "unlike_under" "unlike_under" (defArgs sunlike_under) (defBody sunlike_under) (defScope sunlike_under) .none kV6 dc6 pm6 an6 cd6 ct6), sl6⟩) (c6 : PySem.W.codeIn K cd6 "unlike_under" = true) (k6 : PySem.W.keepIn K (.ref g6) = true) (a7 : PySem.W.nsIn K mainGlobals "fits" = some (some (.ref g7))) (l7 : K.lookup g7 = some ⟨oc7, od7, .func (PySem.W.fnOf "fits" "fits" (defArgs sfits) (defBody sfits) (defScope sfits) .none kV7 dc7 pm7 an7 cd7 ct7), sl7⟩) (c7 : PySem.W.codeIn K cd7 "fits" = true) (k7 : PySem.W.keepIn K (.ref g7) = true) (a8 : PySem.W.nsIn K mainGlobals "_tail" = some (some (.ref g8))) (l8 : K.lookup g8 = some ⟨oc8, od8, .func (PySem.W.fnOf "_tail" "_tail" (defArgs s_tail) (defBody s_tail) (defScope s_tail) .none kV8 dc8 pm8 an8 cd8 ct8), sl8⟩) (c8 : PySem.W.codeIn K cd8 "_tail" = true) (k8 : PySem.W.keepIn K (.ref g8) = true) (a9 : PySem.W.nsIn K mainGlobals "_steps_from" = some (some (.ref g9))) (l9 : K.lookup g9 = some ⟨oc9, od9, .func (PySem.W.fnOf "_steps_from" "_steps_from" (defArgs s_steps_from) (defBody s_steps_from) (defScope s_steps_from) .none kV9 dc9 pm9 an9 cd9 ct9), sl9⟩) (c9 : PySem.W.codeIn K cd9 "_steps_from" = true) (k9 : PySem.W.keepIn K (.ref g9) = true) (a10 : PySem.W.nsIn K mainGlobals "_steps" = some (some (.ref g10))) (l10 : K.lookup g10 = some ⟨oc10, od10, .func (PySem.W.fnOf "_steps" "_steps" (defArgs s_steps) (defBody s_steps) (defScope s_steps) .none kV10 dc10 pm10 an10 cd10 ct10), sl10⟩) (c10 : PySem.W.codeIn K cd10 "_steps" = true) (k10 : PySem.W.keepIn K (.ref g10) = true) (a11 : PySem.W.nsIn K mainGlobals "_ring" = some (some (.ref g11))) (l11 : K.lookup g11 = some ⟨oc11, od11, .func (PySem.W.fnOf "_ring" "_ring" (defArgs s_ring) (defBody s_ring) (defScope s_ring) .none kV11 dc11 pm11 an11 cd11 ct11), sl11⟩) (c11 : PySem.W.codeIn K cd11 "_ring" = true) (k11 : PySem.W.keepIn K (.ref g11) = true) (a12 : PySem.W.nsIn K mainGlobals "_best_behind" = some (some (.ref g12))) (l12 : K.lookup g12 = some ⟨oc12, od12, .func (PySem.W.fnOf "_best_behind" "_best_behind" (defArgs s_best_behind) (defBody s_best_behind) (defScope s_best_behind) .none kV12 dc12 pm12 an12 (.ref cc) ct12), sl12⟩) (c12 : PySem.W.codeIn K (.ref cc) "_best_behind" = true) (k12 : PySem.W.keepIn K (.ref g12) = true) (tab1 : K.lookup cc = some ⟨tec, tdd, .fields tvs, tsl⟩) (tab2 : tvs[11]? = some (.ref PT)) (tab3 : PySem.W.codeHdIn K cc PT = true) (tab4 : K.lookup PT = none) (a13 : PySem.W.nsIn K mainGlobals "bar" = some (some (.ref g13))) (l13 : K.lookup g13 = some ⟨oc13, od13, .func (PySem.W.fnOf "bar" "bar" (defArgs sbar) (defBody sbar) (defScope sbar) .none kV13 dc13 pm13 an13 cd13 ct13), sl13⟩) (c13 : PySem.W.codeIn K cd13 "bar" = true) (k13 : PySem.W.keepIn K (.ref g13) = true) (a14 : PySem.W.findIn K (.ref cShelf) "__init__" = some (some (.ref g14))) (i14 : PySem.W.isFn K (.ref g14) = true) (l14 : K.lookup g14 = some ⟨oc14, od14, .func (PySem.W.fnOf "__init__" "Shelf.__init__" (defArgs sShelf___init__) (defBody sShelf___init__) (defScope sShelf___init__) .none kV14 dc14 pm14 an14 cd14 ct14), sl14⟩) (c14 : PySem.W.codeIn K cd14 "Shelf.__init__" = true) (k14 : PySem.W.keepIn K (.ref g14) = true) (a15 : PySem.W.findIn K (.ref cShelf) "lay" = some (some (.ref g15))) (i15 : PySem.W.isFn K (.ref g15) = true) (l15 : K.lookup g15 = some ⟨oc15, od15, .func (PySem.W.fnOf "lay" "Shelf.lay" (defArgs sShelf_lay) (defBody sShelf_lay) (defScope sShelf_lay) .none kV15 dc15 pm15 an15 cd15 ct15), sl15⟩) (c15 : PySem.W.codeIn K cd15 "Shelf.lay" = true) (k15 : PySem.W.keepIn K (.ref g15) = true) (a16 : PySem.W.findIn K (.ref cShelf) "rows" = some (some (.ref g16))) (i16 : PySem.W.isFn K (.ref g16) = true) (l16 : K.lookup g16 = some ⟨oc16, od16, .func (PySem.W.fnOf "rows" "Shelf.rows" (defArgs sShelf_rows) (defBody sShelf_rows) (defScope sShelf_rows) .none kV16 dc16 pm16 an16 cd16 ct16), sl16⟩) (c16 : PySem.W.codeIn K cd16 "Shelf.rows" = true) (k16 : PySem.W.keepIn K (.ref g16) = true) (a17 : PySem.W.findIn K (.ref cShelf) "find" = some (some (.ref g17))) (i17 : PySem.W.isFn K (.ref g17) = true) (l17 : K.lookup g17 = some ⟨oc17, od17, .func (PySem.W.fnOf "find" "Shelf.find" (defArgs sShelf_find) (defBody sShelf_find) (defScope sShelf_find) .none kV17 dc17 pm17 an17 cd17 ct17), sl17⟩) (c17 : PySem.W.codeIn K cd17 "Shelf.find" = true) (k17 : PySem.W.keepIn K (.ref g17) = true) (a18 : PySem.W.nsIn K mainGlobals "lane" = some (some (.ref g18))) (l18 : K.lookup g18 = some ⟨oc18, od18, .func (PySem.W.fnOf "lane" "lane" (defArgs slane) (defBody slane) (defScope slane) .none kV18 dc18 pm18 an18 cd18 ct18), sl18⟩) (c18 : PySem.W.codeIn K cd18 "lane" = true) (k18 : PySem.W.keepIn K (.ref g18) = true) (a19 : PySem.W.nsIn K mainGlobals "shows" = some (some (.ref g19))) (l19 : K.lookup g19 = some ⟨oc19, od19, .func (PySem.W.fnOf "shows" "shows" (defArgs sshows) (defBody sshows) (defScope sshows) .none kV19 dc19 pm19 an19 cd19 ct19), sl19⟩) (c19 : PySem.W.codeIn K cd19 "shows" = true) (k19 : PySem.W.keepIn K (.ref g19) = true) (a20 : PySem.W.nsIn K mainGlobals "_law_next" = some (some (.ref g20))) (l20 : K.lookup g20 = some ⟨oc20, od20, .func (PySem.W.fnOf "_law_next" "_law_next" (defArgs s_law_next) (defBody s_law_next) (defScope s_law_next) .none kV20 dc20 pm20 an20 cd20 ct20), sl20⟩) (c20 : PySem.W.codeIn K cd20 "_law_next" = true) (k20 : PySem.W.keepIn K (.ref g20) = true) (a21 : PySem.W.nsIn K mainGlobals "_law_letters" = some (some (.ref g21))) (l21 : K.lookup g21 = some ⟨oc21, od21, .func (PySem.W.fnOf "_law_letters" "_law_letters" (defArgs s_law_letters) (defBody s_law_letters) (defScope s_law_letters) .none kV21 dc21 pm21 an21 cd21 ct21), sl21⟩) (c21 : PySem.W.codeIn K cd21 "_law_letters" = true) (k21 : PySem.W.keepIn K (.ref g21) = true) (a22 : PySem.W.nsIn K mainGlobals "_law_row" = some (some (.ref g22))) (l22 : K.lookup g22 = some ⟨oc22, od22, .func (PySem.W.fnOf "_law_row" "_law_row" (defArgs s_law_row) (defBody s_law_row) (defScope s_law_row) .none kV22 dc22 pm22 an22 cd22 ct22), sl22⟩) (c22 : PySem.W.codeIn K cd22 "_law_row" = true) (k22 : PySem.W.keepIn K (.ref g22) = true) (a23 : PySem.W.nsIn K mainGlobals "_law_scale" = some (some (.ref g23))) (l23 : K.lookup g23 = some ⟨oc23, od23, .func (PySem.W.fnOf "_law_scale" "_law_scale" (defArgs s_law_scale) (defBody s_law_scale) (defScope s_law_scale) .none kV23 dc23 pm23 an23 cd23 ct23), sl23⟩) (c23 : PySem.W.codeIn K cd23 "_law_scale" = true) (k23 : PySem.W.keepIn K (.ref g23) = true) (a24 : PySem.W.nsIn K mainGlobals "_law_seed" = some (some (.ref g24))) (l24 : K.lookup g24 = some ⟨oc24, od24, .func (PySem.W.fnOf "_law_seed" "_law_seed" (defArgs s_law_seed) (defBody s_law_seed) (defScope s_law_seed) .none kV24 dc24 pm24 an24 cd24 ct24), sl24⟩) (c24 : PySem.W.codeIn K cd24 "_law_seed" = true) (k24 : PySem.W.keepIn K (.ref g24) = true) (a25 : PySem.W.nsIn K mainGlobals "_law_seeds" = some (some (.ref g25))) (l25 : K.lookup g25 = some ⟨oc25, od25, .func (PySem.W.fnOf "_law_seeds" "_law_seeds" (defArgs s_law_seeds) (defBody s_law_seeds) (defScope s_law_seeds) .none kV25 dc25 pm25 an25 cd25 ct25), sl25⟩) (c25 : PySem.W.codeIn K cd25 "_law_seeds" = true) (k25 : PySem.W.keepIn K (.ref g25) = true) (a26 : PySem.W.nsIn K mainGlobals "_law_kind" = some (some (.ref g26))) (l26 : K.lookup g26 = some ⟨oc26, od26, .func (PySem.W.fnOf "_law_kind" "_law_kind" (defArgs s_law_kind) (defBody s_law_kind) (defScope s_law_kind) .none kV26 dc26 pm26 an26 cd26 ct26), sl26⟩) (c26 : PySem.W.codeIn K cd26 "_law_kind" = true) (k26 : PySem.W.keepIn K (.ref g26) = true) (a27 : PySem.W.nsIn K mainGlobals "_law_bad" = some (some (.ref g27))) (l27 : K.lookup g27 = some ⟨oc27, od27, .func (PySem.W.fnOf "_law_bad" "_law_bad" (defArgs s_law_bad) (defBody s_law_bad) (defScope s_law_bad) .none kV27 dc27 pm27 an27 cd27 ct27), sl27⟩) (c27 : PySem.W.codeIn K cd27 "_law_bad" = true) (k27 : PySem.W.keepIn K (.ref g27) = true) (a28 : PySem.W.nsIn K mainGlobals "law" = some (some (.ref g28))) (l28 : K.lookup g28 = some ⟨oc28, od28, .func (PySem.W.fnOf "law" "law" (defArgs slaw) (defBody slaw) (defScope slaw) .none kV28 dc28 pm28 an28 (.ref ccB) ct28), sl28⟩) (c28 : PySem.W.codeIn K (.ref ccB) "law" = true) (k28 : PySem.W.keepIn K (.ref g28) = true) (tab1B : K.lookup ccB = some ⟨tecB, tddB, .fields tvsB, tslB⟩) (tab2B : tvsB[11]? = some (.ref PT2)) (tab3B : PySem.W.codeHdIn K ccB PT2 = true) (tab4B : K.lookup PT2 = none) (tab5 : PT2 ≠ PT) (z_len : PySem.W.nsIn K mainGlobals "len" = some none) (z_enumerate : PySem.W.nsIn K mainGlobals "enumerate" = some none) (z_max : PySem.W.nsIn K mainGlobals "max" = some none) (z_any : PySem.W.nsIn K mainGlobals "any" = some none) (z_list : PySem.W.nsIn K mainGlobals "list" = some none) (z_range : PySem.W.nsIn K mainGlobals "range" = some none) (z_isinstance : PySem.W.nsIn K mainGlobals "isinstance" = some none) (z_ValueError : PySem.W.nsIn K mainGlobals "ValueError" = some none) (y_FEWEST_LETTERS : PySem.W.nsIn K mainGlobals "FEWEST_LETTERS" = some (some (Value.int (2) t_FEWEST_LETTERS))) (y_MOST_LETTERS : PySem.W.nsIn K mainGlobals "MOST_LETTERS" = some (some (Value.int (6) t_MOST_LETTERS))) (y_ALPHABET : PySem.W.nsIn K mainGlobals "ALPHABET" = some (some (Value.str "abcdefghijklmnopqrstuvwxyz" t_ALPHABET))) (y_LONGEST_ROW : PySem.W.nsIn K mainGlobals "LONGEST_ROW" = some (some (Value.int (60) t_LONGEST_ROW))) (y_LEAST_WEIGHT : PySem.W.nsIn K mainGlobals "LEAST_WEIGHT" = some (some (Value.int (1) t_LEAST_WEIGHT))) (y_MOST_WEIGHT : PySem.W.nsIn K mainGlobals "MOST_WEIGHT" = some (some (Value.int (9) t_MOST_WEIGHT))) (y_LIKE : PySem.W.nsIn K mainGlobals "LIKE" = some (some (Value.str "=" t_LIKE))) (y_UNLIKE : PySem.W.nsIn K mainGlobals "UNLIKE" = some (some (Value.str "/" t_UNLIKE))) (y_SHORTEST_SEED : PySem.W.nsIn K mainGlobals "SHORTEST_SEED" = some (some (Value.int (1) t_SHORTEST_SEED))) (y_LONGEST_SEED : PySem.W.nsIn K mainGlobals "LONGEST_SEED" = some (some (Value.int (8) t_LONGEST_SEED))) (y_PICK : PySem.W.nsIn K mainGlobals "PICK" = some (some (Value.str "#" t_PICK))) (y_GAP : PySem.W.nsIn K mainGlobals "GAP" = some (some (Value.str "-" t_GAP))) (y_FEWEST_SEEDS : PySem.W.nsIn K mainGlobals "FEWEST_SEEDS" = some (some (Value.int (1) t_FEWEST_SEEDS))) (y_MOST_SEEDS : PySem.W.nsIn K mainGlobals "MOST_SEEDS" = some (some (Value.int (3) t_MOST_SEEDS))) (y_BAR : PySem.W.nsIn K mainGlobals "BAR" = some (some (Value.str "bar" t_BAR))) (y_ENDLESS : PySem.W.nsIn K mainGlobals "ENDLESS" = some (some (Value.str "endless" t_ENDLESS))) :
    LamX.LawAtS l w K CX0 12 63 "_law_script" mg fa h := by
  have e := hfa.symm.trans (PySem.W.mg_of X G a28)
  cases e
  have F0 := fun_mk (st := sneed_letters) l0 c0 k0
  have F1 := fun_mk (st := sneed_row) l1 c1 k1
  have F2 := fun_mk (st := sneed_scale) l2 c2 k2
  have F3 := fun_mk (st := sworth_of) l3 c3 k3
  have F4 := fun_mk (st := s_need_seed) l4 c4 k4
  have F5 := fun_mk (st := sneed_seeds) l5 c5 k5
  have F6 := fun_mk (st := sunlike_under) l6 c6 k6
  have F7 := fun_mk (st := sfits) l7 c7 k7
  have F8 := fun_mk (st := s_tail) l8 c8 k8
  have F9 := fun_mk (st := s_steps_from) l9 c9 k9
  have F10 := fun_mk (st := s_steps) l10 c10 k10
  have F11 := fun_mk (st := s_ring) l11 c11 k11
  have F12 := fun_mk (st := s_best_behind) l12 c12 k12
  have F13 := fun_mk (st := sbar) l13 c13 k13
  have F14 := fun_mk (st := sShelf___init__) l14 c14 k14
  have F15 := fun_mk (st := sShelf_lay) l15 c15 k15
  have F16 := fun_mk (st := sShelf_rows) l16 c16 k16
  have F17 := fun_mk (st := sShelf_find) l17 c17 k17
  have F18 := fun_mk (st := slane) l18 c18 k18
  have F19 := fun_mk (st := sshows) l19 c19 k19
  have F20 := fun_mk (st := s_law_next) l20 c20 k20
  have F21 := fun_mk (st := s_law_letters) l21 c21 k21
  have F22 := fun_mk (st := s_law_row) l22 c22 k22
  have F23 := fun_mk (st := s_law_scale) l23 c23 k23
  have F24 := fun_mk (st := s_law_seed) l24 c24 k24
  have F25 := fun_mk (st := s_law_seeds) l25 c25 k25
  have F26 := fun_mk (st := s_law_kind) l26 c26 k26
  have F27 := fun_mk (st := s_law_bad) l27 c27 k27
  have F28 := fun_mk (st := slaw) l28 c28 k28
  have b0 := F0.binds (ps := ["letters"]) fun _ _ _ _ _ _ us hl => match us, hl with | [_], _ => rfl
  have b1 := F1.binds (ps := ["row", "letters"]) fun _ _ _ _ _ _ us hl => match us, hl with | [_, _], _ => rfl
  have b2 := F2.binds (ps := ["scale"]) fun _ _ _ _ _ _ us hl => match us, hl with | [_], _ => rfl
  have b3 := F3.binds (ps := ["likes", "scale"]) fun _ _ _ _ _ _ us hl => match us, hl with | [_, _], _ => rfl
  have b4 := F4.binds (ps := ["seed"]) fun _ _ _ _ _ _ us hl => match us, hl with | [_], _ => rfl
  have b5 := F5.binds (ps := ["seeds"]) fun _ _ _ _ _ _ us hl => match us, hl with | [_], _ => rfl
  have b6 := F6.binds (ps := ["seed", "likes", "place"]) fun _ _ _ _ _ _ us hl => match us, hl with | [_, _, _], _ => rfl
  have b7 := F7.binds (ps := ["seed", "likes", "place"]) fun _ _ _ _ _ _ us hl => match us, hl with | [_, _, _], _ => rfl
  have b8 := F8.binds (ps := ["likes", "keep"]) fun _ _ _ _ _ _ us hl => match us, hl with | [_, _], _ => rfl
  have b9 := F9.binds (ps := ["tail", "seeds"]) fun _ _ _ _ _ _ us hl => match us, hl with | [_, _], _ => rfl
  have b10 := F10.binds (ps := ["seeds"]) fun _ _ _ _ _ _ us hl => match us, hl with | [_], _ => rfl
  have b11 := F11.binds (ps := ["steps", "tail", "likes"]) fun _ _ _ _ _ _ us hl => match us, hl with | [_, _, _], _ => rfl
  have b12 := F12.binds (ps := ["steps", "best", "weights"]) fun _ _ _ _ _ _ us hl => match us, hl with | [_, _, _], _ => rfl
  have b13 := F13.binds (ps := ["seeds", "scale"]) fun _ _ _ _ _ _ us hl => match us, hl with | [_, _], _ => rfl
  have b14 := F14.binds (ps := ["self", "letters", "scale", "seeds"]) fun _ _ _ _ _ _ us hl => match us, hl with | [_, _, _, _], _ => rfl
  have b15 := F15.binds (ps := ["self", "row"]) fun _ _ _ _ _ _ us hl => match us, hl with | [_, _], _ => rfl
  have b16 := F16.binds (ps := ["self"]) fun _ _ _ _ _ _ us hl => match us, hl with | [_], _ => rfl
  have b17 := F17.binds (ps := ["self", "row", "told"]) fun _ _ _ _ _ _ us hl => match us, hl with | [_, _, _], _ => rfl
  have b18 := F18.binds (ps := ["one", "other", "shift", "seeds", "scale", "told"]) fun _ _ _ _ _ _ us hl => match us, hl with | [_, _, _, _, _, _], _ => rfl
  have b19 := F19.binds (ps := ["one", "other", "shift", "seeds", "scale", "told", "paper"]) fun _ _ _ _ _ _ us hl => match us, hl with | [_, _, _, _, _, _, _], _ => rfl
  have b20 := F20.binds (ps := ["_law_h", "_law_many"]) fun _ _ _ _ _ _ us hl => match us, hl with | [_, _], _ => rfl
  have b21 := F21.binds (ps := ["_law_h"]) fun _ _ _ _ _ _ us hl => match us, hl with | [_], _ => rfl
  have b22 := F22.binds (ps := ["_law_h", "_law_letters_here", "_law_most"]) fun _ _ _ _ _ _ us hl => match us, hl with | [_, _, _], _ => rfl
  have b23 := F23.binds (ps := ["_law_h"]) fun _ _ _ _ _ _ us hl => match us, hl with | [_], _ => rfl
  have b24 := F24.binds (ps := ["_law_h", "_law_most"]) fun _ _ _ _ _ _ us hl => match us, hl with | [_, _], _ => rfl
  have b25 := F25.binds (ps := ["_law_h", "_law_most"]) fun _ _ _ _ _ _ us hl => match us, hl with | [_, _], _ => rfl
  have b26 := F26.binds (ps := ["_law_work"]) fun _ _ _ _ _ _ us hl => match us, hl with | [_], _ => rfl
  have b27 := F27.binds (ps := ["_law_h", "_law_letters_here", "_law_row_here", "_law_seeds_here"]) fun _ _ _ _ _ _ us hl => match us, hl with | [_, _, _, _], _ => rfl
  have B : Bl mg := ⟨PySem.W.mg_none_of X G z_len, PySem.W.mg_none_of X G z_enumerate, PySem.W.mg_none_of X G z_max, PySem.W.mg_none_of X G z_any, PySem.W.mg_none_of X G z_list, PySem.W.mg_none_of X G z_range, PySem.W.mg_none_of X G z_isinstance, PySem.W.mg_none_of X G z_ValueError⟩
  have C : Cs mg _ _ _ _ _ _ _ _ _ _ _ _ _ _ _ _ := ⟨⟨⟨_, rfl⟩, PySem.W.mg_of X G y_FEWEST_LETTERS⟩, ⟨⟨_, rfl⟩, PySem.W.mg_of X G y_MOST_LETTERS⟩, ⟨⟨_, rfl⟩, PySem.W.mg_of X G y_ALPHABET⟩, ⟨⟨_, rfl⟩, PySem.W.mg_of X G y_LONGEST_ROW⟩, ⟨⟨_, rfl⟩, PySem.W.mg_of X G y_LEAST_WEIGHT⟩, ⟨⟨_, rfl⟩, PySem.W.mg_of X G y_MOST_WEIGHT⟩, ⟨⟨_, rfl⟩, PySem.W.mg_of X G y_LIKE⟩, ⟨⟨_, rfl⟩, PySem.W.mg_of X G y_UNLIKE⟩, ⟨⟨_, rfl⟩, PySem.W.mg_of X G y_SHORTEST_SEED⟩, ⟨⟨_, rfl⟩, PySem.W.mg_of X G y_LONGEST_SEED⟩, ⟨⟨_, rfl⟩, PySem.W.mg_of X G y_PICK⟩, ⟨⟨_, rfl⟩, PySem.W.mg_of X G y_GAP⟩, ⟨⟨_, rfl⟩, PySem.W.mg_of X G y_FEWEST_SEEDS⟩, ⟨⟨_, rfl⟩, PySem.W.mg_of X G y_MOST_SEEDS⟩, ⟨⟨_, rfl⟩, PySem.W.mg_of X G y_BAR⟩, ⟨⟨_, rfl⟩, PySem.W.mg_of X G y_ENDLESS⟩⟩
  have OT0 := OTT "_best_behind" (by simp)
  have OT1 := OTT "law" (by simp)
  have two : ∀ p ∈ [(cc, PT), (ccB, PT2)], p = (cc, PT) ∨ p = (ccB, PT2) := fun p hp => by simpa using hp
  refine ⟨PySem.W.fnOf "law" "law" (defArgs slaw) (defBody slaw) (defScope slaw) .none kV28 dc28 pm28 an28 (.ref ccB) ct28, [(cc, PT), (ccB, PT2)], splaw K PT PT2, fun p hp => ?_, fun p hp => ?_, fun p hp => ?_, fun s v => .of_eq rfl, fun H a ns hl _ hT hS => ⟨a, ns, rfl, hS, hl, TabS_nil (hT _ List.mem_cons_self), TabS_nil (hT _ (List.mem_cons_of_mem _ List.mem_cons_self)), tab5, fun _ => rfl⟩, fun base _ _ hTB => ?_⟩
  · rcases two p hp with e | e <;> rw [e]
    · exact OT0 _ _ _ _ _ _ _ _ _ (PySem.W.mg_of X G a12) l12 rfl rfl tab1 tab2
    · exact OT1 _ _ _ _ _ _ _ _ _ (PySem.W.mg_of X G a28) l28 rfl rfl tab1B tab2B
  · rcases two p hp with e | e <;> rw [e]
    · exact tab4
    · exact tab4B
  · rcases two p hp with e | e <;> rw [e]
    · exact PySem.W.codeHd_of_K X tab3
    · exact PySem.W.codeHd_of_K X tab3B
  have TB := hTB _ List.mem_cons_self
  have TBB := hTB _ (List.mem_cons_of_mem _ List.mem_cons_self)
  have XFBadRow : XcF K mg "BadRow" aBadRow := ⟨PySem.W.mg_of X G gxBadRow, xpBadRow, kxBadRow, bsBadRow, tpBadRow⟩
  have XFBadSeed : XcF K mg "BadSeed" aBadSeed := ⟨PySem.W.mg_of X G gxBadSeed, xpBadSeed, kxBadSeed, bsBadSeed, tpBadSeed⟩
  have XNBadRow : XcN K mg "BadRow" aBadRow := ⟨PySem.W.mg_of X G gxBadRow⟩
  have XNBadSeed : XcN K mg "BadSeed" aBadSeed := ⟨PySem.W.mg_of X G gxBadSeed⟩
  have XNBadText : XcN K mg "BadText" aBadText := ⟨PySem.W.mg_of X G gxBadText⟩
  have XNNoPlace : XcN K mg "NoPlace" aNoPlace := ⟨PySem.W.mg_of X G gxNoPlace⟩
  have XNNoRow : XcN K mg "NoRow" aNoRow := ⟨PySem.W.mg_of X G gxNoRow⟩
  have XNReachError : XcN K mg "ReachError" aReachError := ⟨PySem.W.mg_of X G gxReachError⟩
  have XNTooLow : XcN K mg "TooLow" aTooLow := ⟨PySem.W.mg_of X G gxTooLow⟩
  have MM : XM K aBadRow aBadSeed aBadText aNoPlace aNoRow aReachError aTooLow := ⟨hdBadRow, tpBadRow, bsBadRow, hdBadSeed, tpBadSeed, bsBadSeed, hdBadText, tpBadText, bsBadText, hdNoPlace, tpNoPlace, bsNoPlace, hdNoRow, tpNoRow, bsNoRow, hdReachError, tpReachError, bsReachError, hdTooLow, tpTooLow, bsTooLow, ⟨hgBadRow, hkBadRow, bsBadRow, hdBadRow, hcBadRow, xhn, xht, hmBadRow⟩, veBadRow, suBadRow_BadRow, suBadRow_BadSeed, suBadRow_BadText, suBadRow_NoPlace, suBadRow_NoRow, suBadRow_ReachError, suBadRow_TooLow, ⟨hgBadSeed, hkBadSeed, bsBadSeed, hdBadSeed, hcBadSeed, xhn, xht, hmBadSeed⟩, veBadSeed, suBadSeed_BadRow, suBadSeed_BadSeed, suBadSeed_BadText, suBadSeed_NoPlace, suBadSeed_NoRow, suBadSeed_ReachError, suBadSeed_TooLow⟩
  have TShelf : KlShelf K mg cShelf g14 := ⟨⟨pgShelf, hdShelf, poShelf, saShelf⟩, PySem.W.mg_of X G aCShelf, ⟨mkShelf, a14, i14, kcShelf⟩, nShelf_letters, nShelf_scale, nShelf_seeds, nShelf_limit, nShelf_laid⟩
  have Dneed_letters : DnX l.prog w K mg base "need_letters" 1 ["letters"] (spneed_letters K aBadRow) g0 _ := ⟨okneed_letters F0 B XFBadRow C, PySem.W.mg_of X G a0, F0.kp, b0⟩
  have Dneed_row : DnX l.prog w K mg base "need_row" 1 ["row", "letters"] (spneed_row K aBadRow) g1 _ := ⟨okneed_row F1 B XFBadRow C, PySem.W.mg_of X G a1, F1.kp, b1⟩
  have Dneed_scale : DnX l.prog w K mg base "need_scale" 1 ["scale"] (spneed_scale K aBadRow) g2 _ := ⟨okneed_scale F2 B XFBadRow C, PySem.W.mg_of X G a2, F2.kp, b2⟩
  have Dworth_of : Dn l.prog w K mg base "worth_of" 1 ["likes", "scale"] (spworth_of K) g3 _ := ⟨okworth_of F3 B C, PySem.W.mg_of X G a3, F3.kp, b3⟩
  have D_need_seed : DnX l.prog w K mg base "_need_seed" 1 ["seed"] (sp_need_seed K aBadSeed) g4 _ := ⟨ok_need_seed F4 B XFBadSeed C, PySem.W.mg_of X G a4, F4.kp, b4⟩
  have Dneed_seeds : DnX l.prog w K mg base "need_seeds" 2 ["seeds"] (spneed_seeds K aBadSeed) g5 _ := ⟨okneed_seeds F5 B XFBadSeed C D_need_seed, PySem.W.mg_of X G a5, F5.kp, b5⟩
  have Dunlike_under : Dn l.prog w K mg base "unlike_under" 1 ["seed", "likes", "place"] (spunlike_under K) g6 _ := ⟨okunlike_under F6 B C, PySem.W.mg_of X G a6, F6.kp, b6⟩
  have Dfits : Dn l.prog w K mg base "fits" 2 ["seed", "likes", "place"] (spfits K) g7 _ := ⟨okfits F7 B Dunlike_under, PySem.W.mg_of X G a7, F7.kp, b7⟩
  have D_tail : Dn l.prog w K mg base "_tail" 1 ["likes", "keep"] (sp_tail K) g8 _ := ⟨ok_tail F8 B C, PySem.W.mg_of X G a8, F8.kp, b8⟩
  have D_steps_from : Dn l.prog w K mg base "_steps_from" 3 ["tail", "seeds"] (sp_steps_from K) g9 _ := ⟨ok_steps_from F9 B C D_tail Dfits, PySem.W.mg_of X G a9, F9.kp, b9⟩
  have D_steps : Dn l.prog w K mg base "_steps" 4 ["seeds"] (sp_steps K) g10 _ := ⟨ok_steps F10 B D_steps_from, PySem.W.mg_of X G a10, F10.kp, b10⟩
  have D_ring : Dn l.prog w K mg base "_ring" 1 ["steps", "tail", "likes"] (sp_ring K) g11 _ := ⟨ok_ring F11 B, PySem.W.mg_of X G a11, F11.kp, b11⟩
  have D_best_behind : Dn l.prog w K mg base "_best_behind" 3 ["steps", "best", "weights"] (sp_best_behind K PT) g12 _ := ⟨ok_best_behind l12 c12 TB B, PySem.W.mg_of X G a12, F12.kp, b12⟩
  have Dbar : Dn l.prog w K mg base "bar" 5 ["seeds", "scale"] (spbar K PT) g13 _ := ⟨okbar F13 B C D_steps Dworth_of D_ring D_best_behind, PySem.W.mg_of X G a13, F13.kp, b13⟩
  have DShelf___init__ : DmX l.prog w K mg base cShelf "__init__" 6 ["self", "letters", "scale", "seeds"] (spShelf___init__ K PT aBadRow aBadSeed cShelf) g14 _ := ⟨okShelf___init__ F14 B TShelf Dneed_letters Dneed_scale Dneed_seeds Dbar, ⟨a14, i14, k14⟩, b14⟩
  have DShelf_lay : DmX l.prog w K mg base cShelf "lay" 2 ["self", "row"] (spShelf_lay K aBadRow cShelf) g15 _ := ⟨okShelf_lay F15 B TShelf Dneed_row, ⟨a15, i15, k15⟩, b15⟩
  have DShelf_rows : Dm l.prog w K mg base cShelf "rows" 1 ["self"] (spShelf_rows K cShelf) g16 _ := ⟨okShelf_rows F16 B TShelf, ⟨a16, i16, k16⟩, b16⟩
  have DShelf_find : DmX l.prog w K mg base cShelf "find" 2 ["self", "row", "told"] (spShelf_find K aBadRow cShelf) g17 _ := ⟨okShelf_find F17 B TShelf Dneed_row, ⟨a17, i17, k17⟩, b17⟩
  have Dlane : DnX l.prog w K mg base "lane" 3 ["one", "other", "shift", "seeds", "scale", "told"] (splane K aBadSeed) g18 _ := ⟨oklane F18 B Dneed_seeds, PySem.W.mg_of X G a18, F18.kp, b18⟩
  have Dshows : DnX l.prog w K mg base "shows" 4 ["one", "other", "shift", "seeds", "scale", "told", "paper"] (spshows K aBadSeed) g19 _ := ⟨okshows F19 B Dlane, PySem.W.mg_of X G a19, F19.kp, b19⟩
  have D_law_next : Dn l.prog w K mg base "_law_next" 1 ["_law_h", "_law_many"] (sp_law_next K) g20 _ := ⟨ok_law_next F20 B, PySem.W.mg_of X G a20, F20.kp, b20⟩
  have D_law_letters : Dn l.prog w K mg base "_law_letters" 2 ["_law_h"] (sp_law_letters K) g21 _ := ⟨ok_law_letters F21 B D_law_next, PySem.W.mg_of X G a21, F21.kp, b21⟩
  have D_law_row : Dn l.prog w K mg base "_law_row" 2 ["_law_h", "_law_letters_here", "_law_most"] (sp_law_row K) g22 _ := ⟨ok_law_row F22 B D_law_next, PySem.W.mg_of X G a22, F22.kp, b22⟩
  have D_law_scale : Dn l.prog w K mg base "_law_scale" 2 ["_law_h"] (sp_law_scale K) g23 _ := ⟨ok_law_scale F23 B D_law_next, PySem.W.mg_of X G a23, F23.kp, b23⟩
  have D_law_seed : Dn l.prog w K mg base "_law_seed" 2 ["_law_h", "_law_most"] (sp_law_seed K) g24 _ := ⟨ok_law_seed F24 B D_law_next, PySem.W.mg_of X G a24, F24.kp, b24⟩
  have D_law_seeds : Dn l.prog w K mg base "_law_seeds" 3 ["_law_h", "_law_most"] (sp_law_seeds K) g25 _ := ⟨ok_law_seeds F25 B D_law_seed D_law_next, PySem.W.mg_of X G a25, F25.kp, b25⟩
  have D_law_kind : LaX.DnK l.prog w K mg base "_law_kind" n_law_kind "_law_work" s_law_kind (TKind aBadRow aBadSeed) g26 _ := ⟨ok_law_kind F26 B XNBadRow XNBadSeed XNBadText XNNoPlace XNNoRow XNReachError XNTooLow MM, PySem.W.mg_of X G a26, F26.kp, b26⟩
  have D_law_bad : Dn l.prog w K mg base "_law_bad" 2 ["_law_h", "_law_letters_here", "_law_row_here", "_law_seeds_here"] (sp_law_bad K) g27 _ := ⟨ok_law_bad F27 B D_law_next, PySem.W.mg_of X G a27, F27.kp, b27⟩
  exact oklaw l28 c28 TBB B TShelf D_law_letters D_law_row D_law_scale D_law_seeds D_law_bad DShelf___init__ Dneed_letters Dneed_row Dneed_scale Dneed_seeds Dlane Dshows D_law_kind DShelf_lay DShelf_find DShelf_rows
end Sr
open PySem PySem.W PyProof.Rows
set_option maxHeartbeats 0 in
theorem PySem.Challenge.cw_seedreach_k06_what_is_refused_holds : PySem.Challenge.rw_seedreach_k06_what_is_refused.Holds := by
  w_on; o_law; k_head; (case hw => w_witness2)
  k_fill
  refine LaX.walk_ofTabs ["_best_behind", "law"] (l := PySem.Challenge.rw_seedreach_k06_what_is_refused) (n := 63) (k := 12) (x := "_law_script") (CX := fun _ => L2.CX0) rfl (by decide) rfl ⟨rfl, by decide, by decide⟩ (by decide +kernel) (fun w h Y => PySem.W.km_in_of Y) ?F (fun _ _ _ _ _ h => h)
  case F =>
    intro w mg fa h Y KX G hmg OT
    refine' Sr.all_mk KX G OT hmg ?aCShelf ?pgShelf ?hdShelf ?poShelf ?saShelf ?mkShelf ?kcShelf ?nShelf_letters ?nShelf_scale ?nShelf_seeds ?nShelf_limit ?nShelf_laid ?gxBadRow ?hdBadRow ?tpBadRow ?bsBadRow ?gxBadSeed ?hdBadSeed ?tpBadSeed ?bsBadSeed ?gxBadText ?hdBadText ?tpBadText ?bsBadText ?gxNoPlace ?hdNoPlace ?tpNoPlace ?bsNoPlace ?gxNoRow ?hdNoRow ?tpNoRow ?bsNoRow ?gxReachError ?hdReachError ?tpReachError ?bsReachError ?gxTooLow ?hdTooLow ?tpTooLow ?bsTooLow ?xpBadRow ?kxBadRow ?hgBadRow ?hkBadRow ?hcBadRow ?hmBadRow ?veBadRow ?suBadRow_BadRow ?suBadRow_BadSeed ?suBadRow_BadText ?suBadRow_NoPlace ?suBadRow_NoRow ?suBadRow_ReachError ?suBadRow_TooLow ?xpBadSeed ?kxBadSeed ?hgBadSeed ?hkBadSeed ?hcBadSeed ?hmBadSeed ?veBadSeed ?suBadSeed_BadRow ?suBadSeed_BadSeed ?suBadSeed_BadText ?suBadSeed_NoPlace ?suBadSeed_NoRow ?suBadSeed_ReachError ?suBadSeed_TooLow ?xhn ?xht ?a0 ?l0 ?c0 ?k0 ?a1 ?l1 ?c1 ?k1 ?a2 ?l2 ?c2 ?k2 ?a3 ?l3 ?c3 ?k3 ?a4 ?l4 ?c4 ?k4 ?a5 ?l5 ?c5 ?k5 ?a6 ?l6 ?c6 ?k6 ?a7 ?l7 ?c7 ?k7 ?a8 ?l8 ?c8 ?k8 ?a9 ?l9 ?c9 ?k9 ?a10 ?l10 ?c10 ?k10 ?a11 ?l11 ?c11 ?k11 ?a12 ?l12 ?c12 ?k12 ?tab1 ?tab2 ?tab3 ?tab4 ?a13 ?l13 ?c13 ?k13 ?a14 ?i14 ?l14 ?c14 ?k14 ?a15 ?i15 ?l15 ?c15 ?k15 ?a16 ?i16 ?l16 ?c16 ?k16 ?a17 ?i17 ?l17 ?c17 ?k17 ?a18 ?l18 ?c18 ?k18 ?a19 ?l19 ?c19 ?k19 ?a20 ?l20 ?c20 ?k20 ?a21 ?l21 ?c21 ?k21 ?a22 ?l22 ?c22 ?k22 ?a23 ?l23 ?c23 ?k23 ?a24 ?l24 ?c24 ?k24 ?a25 ?l25 ?c25 ?k25 ?a26 ?l26 ?c26 ?k26 ?a27 ?l27 ?c27 ?k27 ?a28 ?l28 ?c28 ?k28 ?tab1B ?tab2B ?tab3B ?tab4B ?tab5 ?z_len ?z_enumerate ?z_max ?z_any ?z_list ?z_range ?z_isinstance ?z_ValueError ?y_FEWEST_LETTERS ?y_MOST_LETTERS ?y_ALPHABET ?y_LONGEST_ROW ?y_LEAST_WEIGHT ?y_MOST_WEIGHT ?y_LIKE ?y_UNLIKE ?y_SHORTEST_SEED ?y_LONGEST_SEED ?y_PICK ?y_GAP ?y_FEWEST_SEEDS ?y_MOST_SEEDS ?y_BAR ?y_ENDLESS
    (case aCShelf => k_is)
    (case pgShelf => k_is)
    (case hdShelf => k_is)
    (case poShelf => k_is)
    (case saShelf => k_is)
    (case mkShelf => k_is)
    (case kcShelf => k_is)
    (case nShelf_letters => k_is)
    (case nShelf_scale => k_is)
    (case nShelf_seeds => k_is)
    (case nShelf_limit => k_is)
    (case nShelf_laid => k_is)
    (case gxBadRow => k_is)
    (case hdBadRow => k_is)
    (case tpBadRow => k_is)
    (case bsBadRow => k_is)
    (case gxBadSeed => k_is)
    (case hdBadSeed => k_is)
    (case tpBadSeed => k_is)
    (case bsBadSeed => k_is)
    (case gxBadText => k_is)
    (case hdBadText => k_is)
    (case tpBadText => k_is)
    (case bsBadText => k_is)
    (case gxNoPlace => k_is)
    (case hdNoPlace => k_is)
    (case tpNoPlace => k_is)
    (case bsNoPlace => k_is)
    (case gxNoRow => k_is)
    (case hdNoRow => k_is)
    (case tpNoRow => k_is)
    (case bsNoRow => k_is)
    (case gxReachError => k_is)
    (case hdReachError => k_is)
    (case tpReachError => k_is)
    (case bsReachError => k_is)
    (case gxTooLow => k_is)
    (case hdTooLow => k_is)
    (case tpTooLow => k_is)
    (case bsTooLow => k_is)
    (case xpBadRow => k_exc)
    (case kxBadRow => k_is)
    (case hgBadRow => k_is)
    (case hkBadRow => k_is)
    (case hcBadRow => k_is)
    (case hmBadRow => k_is)
    (case veBadRow => k_is)
    (case suBadRow_BadRow => k_is)
    (case suBadRow_BadSeed => k_is)
    (case suBadRow_BadText => k_is)
    (case suBadRow_NoPlace => k_is)
    (case suBadRow_NoRow => k_is)
    (case suBadRow_ReachError => k_is)
    (case suBadRow_TooLow => k_is)
    (case xpBadSeed => k_exc)
    (case kxBadSeed => k_is)
    (case hgBadSeed => k_is)
    (case hkBadSeed => k_is)
    (case hcBadSeed => k_is)
    (case hmBadSeed => k_is)
    (case veBadSeed => k_is)
    (case suBadSeed_BadRow => k_is)
    (case suBadSeed_BadSeed => k_is)
    (case suBadSeed_BadText => k_is)
    (case suBadSeed_NoPlace => k_is)
    (case suBadSeed_NoRow => k_is)
    (case suBadSeed_ReachError => k_is)
    (case suBadSeed_TooLow => k_is)
    (case xhn => k_is)
    (case xht => k_is)
    (case a0 => k_is)
    (case l0 => k_is)
    (case c0 => k_is)
    (case k0 => k_is)
    (case a1 => k_is)
    (case l1 => k_is)
    (case c1 => k_is)
    (case k1 => k_is)
    (case a2 => k_is)
    (case l2 => k_is)
    (case c2 => k_is)
    (case k2 => k_is)
    (case a3 => k_is)
    (case l3 => k_is)
    (case c3 => k_is)
    (case k3 => k_is)
    (case a4 => k_is)
    (case l4 => k_is)
    (case c4 => k_is)
    (case k4 => k_is)
    (case a5 => k_is)
    (case l5 => k_is)
    (case c5 => k_is)
    (case k5 => k_is)
    (case a6 => k_is)
    (case l6 => k_is)
    (case c6 => k_is)
    (case k6 => k_is)
    (case a7 => k_is)
    (case l7 => k_is)
    (case c7 => k_is)
    (case k7 => k_is)
    (case a8 => k_is)
    (case l8 => k_is)
    (case c8 => k_is)
    (case k8 => k_is)
    (case a9 => k_is)
    (case l9 => k_is)
    (case c9 => k_is)
    (case k9 => k_is)
    (case a10 => k_is)
    (case l10 => k_is)
    (case c10 => k_is)
    (case k10 => k_is)
    (case a11 => k_is)
    (case l11 => k_is)
    (case c11 => k_is)
    (case k11 => k_is)
    (case a12 => k_is)
    (case l12 => k_is)
    (case c12 => k_is)
    (case k12 => k_is)
    (case tab1 => k_is)
    (case tab2 => rfl)
    (case tab3 => rfl)
    (case tab4 => rfl)
    (case a13 => k_is)
    (case l13 => k_is)
    (case c13 => k_is)
    (case k13 => k_is)
    (case a14 => k_is)
    (case i14 => k_is)
    (case l14 => k_is)
    (case c14 => k_is)
    (case k14 => k_is)
    (case a15 => k_is)
    (case i15 => k_is)
    (case l15 => k_is)
    (case c15 => k_is)
    (case k15 => k_is)
    (case a16 => k_is)
    (case i16 => k_is)
    (case l16 => k_is)
    (case c16 => k_is)
    (case k16 => k_is)
    (case a17 => k_is)
    (case i17 => k_is)
    (case l17 => k_is)
    (case c17 => k_is)
    (case k17 => k_is)
    (case a18 => k_is)
    (case l18 => k_is)
    (case c18 => k_is)
    (case k18 => k_is)
    (case a19 => k_is)
    (case l19 => k_is)
    (case c19 => k_is)
    (case k19 => k_is)
    (case a20 => k_is)
    (case l20 => k_is)
    (case c20 => k_is)
    (case k20 => k_is)
    (case a21 => k_is)
    (case l21 => k_is)
    (case c21 => k_is)
    (case k21 => k_is)
    (case a22 => k_is)
    (case l22 => k_is)
    (case c22 => k_is)
    (case k22 => k_is)
    (case a23 => k_is)
    (case l23 => k_is)
    (case c23 => k_is)
    (case k23 => k_is)
    (case a24 => k_is)
    (case l24 => k_is)
    (case c24 => k_is)
    (case k24 => k_is)
    (case a25 => k_is)
    (case l25 => k_is)
    (case c25 => k_is)
    (case k25 => k_is)
    (case a26 => k_is)
    (case l26 => k_is)
    (case c26 => k_is)
    (case k26 => k_is)
    (case a27 => k_is)
    (case l27 => k_is)
    (case c27 => k_is)
    (case k27 => k_is)
    (case a28 => k_is)
    (case l28 => k_is)
    (case c28 => k_is)
    (case k28 => k_is)
    (case tab1B => k_is)
    (case tab2B => rfl)
    (case tab3B => rfl)
    (case tab4B => rfl)
    (case tab5 => decide)
    (case z_len => k_is)
    (case z_enumerate => k_is)
    (case z_max => k_is)
    (case z_any => k_is)
    (case z_list => k_is)
    (case z_range => k_is)
    (case z_isinstance => k_is)
    (case z_ValueError => k_is)
    (case y_FEWEST_LETTERS => k_is)
    (case y_MOST_LETTERS => k_is)
    (case y_ALPHABET => k_is)
    (case y_LONGEST_ROW => k_is)
    (case y_LEAST_WEIGHT => k_is)
    (case y_MOST_WEIGHT => k_is)
    (case y_LIKE => k_is)
    (case y_UNLIKE => k_is)
    (case y_SHORTEST_SEED => k_is)
    (case y_LONGEST_SEED => k_is)
    (case y_PICK => k_is)
    (case y_GAP => k_is)
    (case y_FEWEST_SEEDS => k_is)
    (case y_MOST_SEEDS => k_is)
    (case y_BAR => k_is)
    (case y_ENDLESS => k_is)
