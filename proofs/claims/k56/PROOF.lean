import PyProof.Rows.All
import Wide.All
import OpenK.AllK
import Wide.FinOn
import HandS.ForMost
import HandS.IsInst
import HandS.Wide
import HandS.More
import HandS.Codes
import HandS.Deep
import HandS.Conv
import KE.KDictKeyed
import KE.KeyNested
import HandS.Iter
import KE.SortData
import HandS.SortKw
import KE.DatumOrd
import HandS.Style
import HandS.DictComp
import HandS.FStr
import HandS.Text
import HandS.RaiseMore
import PySem.Challenge.RW_manygoings_k56_programs_written_and_read
set_option Elab.async false
set_option linter.all false
set_option maxRecDepth 100000
set_option maxHeartbeats 4000000
/-! Steps over the readings of the hand layer: one lemma a form, and a walk by them. -/
namespace Wp
open PySem PySem.Spec PyProof.Rows L2
section
variable {σ : L2.St} {H : Hp} {Q : VK} {D : Ends} {te ta tb tc : TE} {t u v : TS} {c c2 : TT} {x y z : V} {i : Nat} {K : PySem.W.Frag}
theorem seq (h : t { D with nx := u D } σ H) : tSeq t u D σ H := h
theorem nx_mk {n : L2.St → Hp → Prop} {r : VK} {b k : L2.St → Hp → Prop} (h : n σ H) : (Ends.mk n r b k).nx σ H := h
theorem rt_mk {n : L2.St → Hp → Prop} {r : VK} {b k : L2.St → Hp → Prop} (h : r x H) : (Ends.mk n r b k).rt x H := h
theorem bk_mk {n : L2.St → Hp → Prop} {r : VK} {b k : L2.St → Hp → Prop} (h : b σ H) : (Ends.mk n r b k).bk σ H := h
theorem ct_mk {n : L2.St → Hp → Prop} {r : VK} {b k : L2.St → Hp → Prop} (h : k σ H) : (Ends.mk n r b k).ct σ H := h
theorem next (h : D.nx σ H) : tNext D σ H := h
theorem asg {g : TG} (h : te σ H fun x H1 => g x σ H1 D.nx) : tAsg te g D σ H := h
theorem gname {R : L2.St → Hp → Prop} {σ' : L2.St} (e : σ.set i (some x) = σ') (h : R σ' H) : gName i x σ H R := by subst e; exact h
theorem gsub {s : TSet} {R : L2.St → Hp → Prop} (h : ta σ H fun o H1 => tb σ H1 fun i H2 => s o i x H2 fun H3 => R σ H3) : gSub ta tb s x σ H R := h
theorem ret (h : te σ H D.rt) : tRet te D σ H := h
theorem retN (h : D.rt .non H) : tRetN D σ H := h
theorem drop (h : te σ H fun _ H1 => D.nx σ H1) : tDrop te D σ H := h
theorem ifs (h : c σ H fun b H1 => if b = true then t D σ H1 else u D σ H1) : tIfS c t u D σ H := h
theorem var (h : σ[i]? = some (some x)) (q : Q x H) : tVar i σ H Q := ⟨x, h, q⟩
theorem con (q : Q x H) : tC x σ H Q := q
theorem op {r : R2} (h : ta σ H fun x H1 => tb σ H1 fun y H2 => r x y H2 Q) : tOp r ta tb σ H Q := h
theorem un {r : V → Hp → VK → Prop} (h : ta σ H fun x H1 => r x H1 Q) : tUn r ta σ H Q := h
theorem cb {r : List V → Hp → VK → Prop} {t : TA} (h : t σ H fun vs H1 => r vs H1 Q) : tCB r t σ H Q := h
theorem anil {R : List V → Hp → Prop} (h : R [] H) : tNil σ H R := h
theorem acons {tr : TA} {R : List V → Hp → Prop} (h : te σ H fun x H1 => tr σ H1 fun xs H2 => R (x :: xs) H2) : tCons te tr σ H R := h
theorem call {sp : Sp} {dvs : List V} {E : XK} {t : TA} (h : t σ H fun vs H1 => sp (vs ++ dvs) H1 Q E) : tCall sp dvs E t σ H Q := h
theorem lst {t : TA} (h : t σ H fun xs H1 => xs.length ≤ sizeLine ∧ ∀ p, H1 p = none → Q (.ref p) (upd H1 p (.lst xs))) : tLst t σ H Q := h
theorem tup {t : TA} (h : t σ H fun xs H1 => xs.length ≤ sizeLine ∧ ∀ p, H1 p = none → Q (.ref p) (upd H1 p (.tup xs))) : tTup t σ H Q := h
theorem test {R : Bool → Hp → Prop} (h : te σ H fun x H1 => ∃ k, x = .bl k ∧ R k H1) : tTest te σ H R := h
theorem tb_ {R : Bool → Hp → Prop} (h : te σ H fun x H1 => ∃ k, x = .bl k ∧ R k H1) : tB te σ H R := h
theorem and_ {R : Bool → Hp → Prop} (h : c σ H fun b H1 => if b = true then c2 σ H1 R else R false H1) : tAnd c c2 σ H R := h
theorem or_ {R : Bool → Hp → Prop} (h : c σ H fun b H1 => if b = true then R true H1 else c2 σ H1 R) : tOr c c2 σ H R := h
theorem not_ {R : Bool → Hp → Prop} (h : c σ H fun b H1 => R (!b) H1) : tNot c σ H R := h
theorem andV (h : ta σ H fun x H1 => ∃ c, x = .bl c ∧ if c = true then tb σ H1 Q else Q (.bl false) H1) : tAndV ta tb σ H Q := h
theorem orV (h : ta σ H fun x H1 => ∃ c, x = .bl c ∧ if c = true then Q (.bl true) H1 else tb σ H1 Q) : tOrV ta tb σ H Q := h
theorem notV (h : ta σ H fun x H1 => ∃ c, x = .bl c ∧ Q (.bl (!c)) H1) : tNotV ta σ H Q := h
theorem rI0_ {g : Int → Int → V} {a b : Int} (q : Q (g a b) H) : rI0 g (.int a) (.int b) H Q := ⟨a, b, rfl, rfl, q⟩
theorem rI_ {C : Int → Int → Prop} {g : Int → Int → V} {a b : Int} (k : C a b) (q : Q (g a b) H) : rI C g (.int a) (.int b) H Q := ⟨a, b, rfl, rfl, k, q⟩
theorem rU_ {g : Int → V} {a : Int} (q : Q (g a) H) : rU g (.int a) H Q := ⟨a, rfl, q⟩
theorem rEq_ {x y : V} (k : scal x y = true) (q : Q (.bl (decide (x = y))) H) : rEq x y H Q := ⟨k, q⟩
theorem rNe_ {x y : V} (k : scal x y = true) (q : Q (.bl (!decide (x = y))) H) : rNe x y H Q := ⟨k, q⟩
theorem ixL {p : Addr} {xs : List V} {j : Int} (h : SqL K H p xs) (e : atI xs j = some x) (q : Q x H) : rIxL K (.ref p) (.int j) H Q := ⟨p, xs, j, x, rfl, rfl, h, e, q⟩
theorem ixT {p : Addr} {xs : List V} {j : Int} (h : SqT K H p xs) (e : atI xs j = some x) (q : Q x H) : rIxT K (.ref p) (.int j) H Q := ⟨p, xs, j, x, rfl, rfl, h, e, q⟩
theorem setL {p : Addr} {xs : List V} {j : Int} {n : Nat} {R : Hp → Prop} (h : H p = some (.lst xs)) (e : ixN xs.length j = some n) (q : R (upd H p (.lst (xs.set n x)))) : rSetL (.ref p) (.int j) x H R := ⟨p, xs, j, n, rfl, rfl, h, e, q⟩
/-- a test's two ways -/
theorem ite_ {p A B : Prop} [Decidable p] (h1 : p → A) (h2 : ¬ p → B) : if decide p = true then A else B := by
  by_cases h : p
  · rw [if_pos (decide_eq_true h)]; exact h1 h
  · rw [if_neg (by rw [decide_eq_false h]; exact Bool.false_ne_true)]; exact h2 h
theorem iteN {p A B : Prop} [Decidable p] (h1 : ¬ p → A) (h2 : p → B) : if (!decide p) = true then A else B := by
  by_cases h : p
  · rw [decide_eq_true h]; exact iteF (h2 h)
  · rw [decide_eq_false h]; exact iteT (h1 h)
theorem iteB {b : Bool} {A B : Prop} (h1 : b = true → A) (h2 : b = false → B) : if b = true then A else B := by
  cases b with
  | true => exact iteT (h1 rfl)
  | false => exact iteF (h2 rfl)
end
/-! ### the walk -/
/-- all but the object at b is kept -/
def Kp (b : Addr) (H H' : Hp) : Prop := ∀ a o, a ≠ b → H a = some o → H' a = some o
theorem Kp.refl (b : Addr) (H : Hp) : Kp b H H := fun _ _ _ h => h
theorem Kp.trans {b : Addr} {H H1 H2 : Hp} (x : Kp b H H1) (y : Kp b H1 H2) : Kp b H H2 := fun a o n h => y a o n (x a o n h)
theorem Kp.new {b p : Addr} {H : Hp} {o : HO} (h : H p = none) : Kp b H (upd H p o) := fun a u _ e => by rw [upd_ne (ne_of_none e h)]; exact e
theorem Kp.at {b : Addr} {H : Hp} {o : HO} : Kp b H (upd H b o) := fun a u n e => by rw [upd_ne n]; exact e
section
variable {σ : L2.St} {H H1 H2 : Hp} {Q : VK} {D : Ends} {te ta tb tc : TE} {t u v : TS} {c c2 : TT} {x y z : V} {i : Nat} {K : PySem.W.Frag} {a b p : Addr} {xs ys : List V}
theorem gtup {tt : TGs} {R : L2.St → Hp → Prop} {n : Nat} (h : SqT K H a xs) (e : xs.length = n) (q : tt xs σ H R) : gTup K n tt (.ref a) σ H R := ⟨a, xs, rfl, h, e, q⟩
theorem gcons {g : TG} {tt : TGs} {R : L2.St → Hp → Prop} {r : List V} (q : g x σ H fun σ' H' => tt r σ' H' R) : gCons g tt (x :: r) σ H R := ⟨x, r, rfl, q⟩
theorem gnil {R : L2.St → Hp → Prop} (q : R σ H) : gNil [] σ H R := ⟨rfl, q⟩
theorem sl {r : V → Option Int → Option Int → Hp → VK → Prop} {tl th : TO} (h : te σ H fun x H1 => tl σ H1 fun l H2 => th σ H2 fun u H3 => r x l u H3 Q) : tSl r te tl th σ H Q := h
theorem part {R : Option Int → Hp → Prop} (h : te σ H fun x H1 => ∃ i, x = .int i ∧ R (some i) H1) : tPart te σ H R := h
theorem nopart {R : Option Int → Hp → Prop} (h : R none H) : tNoPart σ H R := h
theorem slS {zs : Str} {lo hi : Option Int} (h : zs.length ≤ sizeLine) (q : Q (.str (cutS zs lo hi)) H) : rSlS (.str zs) lo hi H Q := ⟨zs, rfl, h, q⟩
theorem ifE (h : c σ H fun b H1 => if b = true then ta σ H1 Q else tb σ H1 Q) : tIf c ta tb σ H Q := h
theorem bm0 {T : String} {r : V → List V → Hp → VK → Prop} (h : te σ H fun x H1 => tyV K T x H1 ∧ r x [] H1 Q) : tBM0 K T r te σ H Q := h
theorem bm {T : String} {r : V → List V → Hp → VK → Prop} {tt : TA} (h : te σ H fun x H1 => tyV K T x H1 ∧ tt σ H1 fun xs H2 => r x xs H2 Q) : tBM K T r te tt σ H Q := h
theorem lcat {t u : List V} {R : Addr → Hp → Prop} (h : ∀ p, H p = none → R p (upd H p (.lst (t ++ u)))) : ∀ p, H p = none → R p (upd H p (.lst (t ++ u))) := h
theorem iteT' {A B : Prop} (h : A) : if (!false) = true then A else B := iteT h
theorem iteF' {A B : Prop} (h : B) : if (!true) = true then A else B := iteF h
theorem iteBt {b : Bool} {A B : Prop} (h : b = true) (q : A) : if b = true then A else B := by rw [h]; exact iteT q
theorem iteBf {b : Bool} {A B : Prop} (h : b = false) (q : B) : if b = true then A else B := by rw [h]; exact iteF q
theorem cutS_len (z : Str) (lo hi : Option Int) : (cutS z lo hi).length ≤ z.length := by
  show ((z.cps.toList.drop (HT.sIx z.length 0 lo)).take (HT.sIx z.length z.length hi - HT.sIx z.length 0 lo)).toArray.size ≤ z.cps.size
  rw [List.size_toArray, List.length_take, List.length_drop, Array.length_toList]
  omega
theorem app_len (x y : Str) : (x ++ y).length = x.length + y.length := by
  show (x.cps ++ y.cps).size = x.cps.size + y.cps.size
  exact Array.size_append
theorem str1_len (c : Nat) : (⟨#[c]⟩ : Str).length = 1 := rfl
theorem iteBnT {b : Bool} {A B : Prop} (h : b = false) (q : A) : if (!b) = true then A else B := by rw [h]; exact iteT q
theorem iteBnF {b : Bool} {A B : Prop} (h : b = true) (q : B) : if (!b) = true then A else B := by rw [h]; exact iteF q
theorem pcons {tk tv : TE} {r : List (TE × TE)} {R : List (V × V) → Hp → Prop} (h : tk σ H fun x H1 => tv σ H1 fun y H2 => tPairs r σ H2 fun ps H3 => R ((x, y) :: ps) H3) : tPairs ((tk, tv) :: r) σ H R := h
theorem pnil {R : List (V × V) → Hp → Prop} (h : R [] H) : tPairs [] σ H R := h
/-! ### a written dict with text keys -/
def keysAre : List DictEntry → List (Str × V) → Prop
  | [], [] => True
  | e :: r, (k, v) :: s => (∃ t, e.key = .str k t) ∧ RelV v e.val ∧ keysAre r s
  | _, _ => False
def seek (z : Str) : List (Str × V) → Option V
  | [] => none
  | (k, v) :: s => if k = z then some v else seek z s
theorem keys_find {z : Str} : ∀ {l : List DictEntry} {ks : List (Str × V)}, keysAre l ks →
    (l.any (·.refKey) = false) ∧ ((∃ v e, seek z ks = some v ∧ l.find? (·.key.isStr z) = some e ∧ RelV v e.val) ∨ (seek z ks = none ∧ l.find? (·.key.isStr z) = none))
  | [], [], _ => ⟨rfl, .inr ⟨rfl, rfl⟩⟩
  | [], _ :: _, h => h.elim
  | _ :: _, [], h => h.elim
  | e :: r, (k, v) :: s, ⟨⟨t, hk⟩, hv, h⟩ => by
    obtain ⟨h1, h2⟩ := keys_find (z := z) h
    refine ⟨?_, ?_⟩
    · rw [List.any_cons, h1, Bool.or_false]
      show DictEntry.refKey e = false
      unfold DictEntry.refKey
      rw [hk] <;> rfl
    · rw [List.find?_cons]
      have e1 : (e.key.isStr z) = decide (k = z) := by
        rw [hk, PySem.W.isStr_of]
        show (k == z) = decide (k = z)
        exact Bool.beq_eq_decide_eq k z
      show (∃ v' e', (if k = z then some v else seek z s) = some v' ∧ _) ∨ ((if k = z then some v else seek z s) = none ∧ _)
      by_cases c : k = z
      · rw [if_pos c, e1, decide_eq_true c]
        exact .inl ⟨v, e, rfl, rfl, hv⟩
      · rw [if_neg c, e1, decide_eq_false c]
        exact h2
theorem ns_seek {d : Addr} {es : Array DictEntry} {n : Nat} {ks : List (Str × V)} (hl : K.lookup d = some ⟨.type "dict", none, .dict es n, #[]⟩) (hk : keysAre es.toList ks) (z : Str) :
    (∃ v u, seek z ks = some v ∧ PySem.W.nsIn K d z = some (some u) ∧ RelV v u) ∨ (seek z ks = none ∧ PySem.W.nsIn K d z = some none) := by
  obtain ⟨h1, h2⟩ := keys_find (z := z) hk
  unfold PySem.W.nsIn
  rw [hl]
  dsimp only
  rcases h2 with ⟨v, e, e1, e2, r⟩ | ⟨e1, e2⟩
  · rw [e2]
    exact .inl ⟨v, e.val, e1, rfl, r⟩
  · rw [e2]
    dsimp only
    rw [h1]
    exact .inr ⟨e1, rfl⟩
theorem ixS_any {zs : Str} {j : Int} (hz : zs.length ≤ sizeLine) (h0 : 0 ≤ j) (h1 : j < zs.length) (q : ∀ c, Q (.str ⟨#[c]⟩) H) : rIxS (.str zs) (.int j) H Q := by
  have h2 : j.toNat < zs.cps.toList.length := by
    rw [Array.length_toList]
    show j.toNat < zs.length
    omega
  obtain ⟨c, hc⟩ : ∃ c, zs.cps.toList[j.toNat]? = some c := ⟨_, List.getElem?_eq_getElem h2⟩
  have e : ((j.toNat : Nat) : Int) = j := by omega
  have hc2 := atI_nat hc
  rw [e] at hc2
  exact ⟨zs, j, c, rfl, rfl, hz, hc2, q c⟩
theorem tyvL {p : Addr} {xs : List V} (h : H p = some (.lst xs)) : tyV K "list" (.ref p) H := .inl ⟨rfl, _, SqL.of h⟩
theorem app_ {p : Addr} {xs : List V} {y : V} (h : H p = some (.lst xs)) (hl : xs.length < sizeLine) (q : Q .non (upd H p (.lst (xs ++ [y])))) : rAppend (.ref p) [y] H Q := ⟨p, xs, y, rfl, rfl, h, hl, q⟩
theorem rev_ {p : Addr} {xs : List V} (h : H p = some (.lst xs)) (q : Q .non (upd H p (.lst xs.reverse))) : rReverse (.ref p) [] H Q := ⟨p, xs, rfl, rfl, h, q⟩
theorem slL {p : Addr} {xs : List V} {lo hi : Option Int} (h : SqL K H p xs) (q : ∀ p, H p = none → Q (.ref p) (upd H p (.lst (cutV xs lo hi)))) : rSlL K (.ref p) lo hi H Q := ⟨p, xs, rfl, h, q⟩
theorem cat_ {l b : Addr} {xs zs : List V} (h : H l = some (.lst xs)) (h2 : H b = some (.lst zs)) (hl : xs.length + zs.length ≤ sizeLine) (q : ∀ p, H p = none → Q (.ref p) (upd H p (.lst (xs ++ zs)))) : rCat (.ref l) (.ref b) H Q :=
  ⟨l, b, xs, zs, rfl, rfl, h, h2, hl, q⟩
theorem un65 {k : Nat} {A : Around} (r : Room k A) : A.units + 65 < cLine := by have := r.un; omega
theorem eqD {x y : V} {d : PyData} (h1 : Dp K H x d) (h2 : Dp K H y d) (s : SeqAt.shaped d = true) (e : PyData.eqv d d = true) (q : Q (.bl true) H) : rEqD K x y H Q := ⟨d, d, h1, h2, s, s, by rw [e]; exact q⟩
theorem neD {x y : V} {d : PyData} (h1 : Dp K H x d) (h2 : Dp K H y d) (s : SeqAt.shaped d = true) (e : PyData.eqv d d = true) (q : Q (.bl false) H) : rNeD K x y H Q := ⟨d, d, h1, h2, s, s, by rw [e]; exact q⟩
theorem cut_take {xs : List V} {n : Nat} : cutV xs none (some (n : Int)) = xs.take n := by
  unfold cutV
  rw [show HT.sIx xs.length 0 none = 0 from HT.sIx_none .., show HT.sIx xs.length xs.length (some (n : Int)) = min n xs.length from HT.sIx_nat ..]
  show (xs.drop 0).take (min n xs.length - 0) = xs.take n
  rw [List.drop_zero, Nat.sub_zero]
  by_cases h : n ≤ xs.length
  · rw [Nat.min_eq_left h]
  · rw [Nat.min_eq_right (by omega), List.take_of_length_le (Nat.le_refl _), List.take_of_length_le (by omega)]
theorem dput {td tk tv : TE} (h : tv σ H fun v H1 => td σ H1 fun x H2 => tk σ H2 fun y H3 => ∃ a H', x = .ref a ∧ DPut H3 a y v H' ∧ D.nx σ H') : sDPut td tk tv D σ H := h
theorem cut (Mid : L2.St → Hp → Prop) (h1 : t { D with nx := Mid } σ H) (h2 : ∀ σ' H', Mid σ' H' → u D σ' H') : C8.tCut t u D σ H := ⟨Mid, h1, h2⟩
theorem len_take {xs : List V} {n m : Nat} (h : n ≤ m) : (xs.take n).length ≤ m := Nat.le_trans (List.length_take_le _ _) h
/-! ### loops -/
/-- the loop over J -/
def Loop (J : It) (g : TG) (tb : TS) (D : Ends) (σ : L2.St) (H : Hp) : Prop := ∃ W : Nat → Nat → L2.St → Hp → Prop, (∃ m, W 0 m σ H) ∧ ∀ i m σ H, W i m σ H →
  (J.stop i H ∧ D.nx σ H) ∨ (J.go i H ∧ ∃ N : L2.St → Hp → Prop, (∀ σ' H', N σ' H' → ∃ m', m' < m ∧ W (i + 1) m' σ' H') ∧ ∀ x H', J.yld i H x H' → g x σ H' fun σ2 H2 => tb { D with nx := N, ct := N, bk := D.nx } σ2 H2)
theorem forR1 {ta : TA} {g : TG} {tb : TS} (h : ta σ H fun vs H1 => ∃ j : Int, vs = [.int j] ∧ -(2 ^ 62) ≤ j ∧ j < 2 ^ 62 ∧ Loop (Itr 0 j.toNat) g tb D σ H1) : tFor (iRng1 ta) g tb D σ H := h
theorem forR2 {ta : TA} {g : TG} {tb : TS} (h : ta σ H fun vs H1 => ∃ i j : Int, vs = [.int i, .int j] ∧ (-(2 ^ 62) ≤ i ∧ i < 2 ^ 62 ∧ -(2 ^ 62) ≤ j ∧ j < 2 ^ 62) ∧ Loop (Itr i (j - i).toNat) g tb D σ H1) : tFor (iRng2 ta) g tb D σ H := h
theorem forL {g : TG} {tb : TS} (h : te σ H fun x H1 => ∃ a, x = .ref a ∧ (∃ xs, SqL K H1 a xs) ∧ Loop (Itl K a) g tb D σ H1) : tFor (iList K te) g tb D σ H := h
theorem forT {g : TG} {tb : TS} (h : te σ H fun x H1 => ∃ a, x = .ref a ∧ (∃ xs, SqT K H1 a xs) ∧ Loop (Itt K a) g tb D σ H1) : tFor (iTup K te) g tb D σ H := h
theorem loopR {lo : Int} {n : Nat} {g : TG} {tb : TS} (Pv : Nat → L2.St → Hp → Prop) (h0 : Pv 0 σ H)
    (hs : ∀ i σ H, i < n → Pv i σ H → g (.int (lo + i)) σ H fun σ2 H2 => tb { D with nx := Pv (i + 1), ct := Pv (i + 1), bk := D.nx } σ2 H2) (hd : ∀ σ H, Pv n σ H → D.nx σ H) : Loop (Itr lo n) g tb D σ H := for_range Pv h0 hs hd
theorem loopL {g : TG} {tb : TS} {xs : List V} (Pv : Nat → L2.St → Hp → Prop) (h0 : Pv 0 σ H) (hl : ∀ i σ H, i ≤ xs.length → Pv i σ H → SqL K H a xs)
    (hs : ∀ i x σ H, xs[i]? = some x → Pv i σ H → g x σ H fun σ2 H2 => tb { D with nx := Pv (i + 1), ct := Pv (i + 1), bk := D.nx } σ2 H2) (hd : ∀ σ H, Pv xs.length σ H → D.nx σ H) : Loop (Itl K a) g tb D σ H := for_list Pv h0 hl hs hd
/-! ### comprehensions, whiles -/
def LoopC (J : It) (g : TG) (tt : TT) (te : TE) (vs : List Nat) (σ : L2.St) (D : Addr) (Qd : Hp → Prop) (H0 : Hp) : Prop := ∃ W : Nat → Nat → Hp → Prop, (∃ m, W 0 m H0) ∧ ∀ i m H, W i m H →
  (J.stop i H ∧ Qd H) ∨ (J.go i H ∧ ∃ Nx : Hp → Prop, (∀ H', Nx H' → ∃ m', m' < m ∧ W (i + 1) m' H') ∧ ∀ x H', J.yld i H x H' → g x (wipe σ vs) H' fun σ2 H2 => wipe σ2 vs = wipe σ vs ∧ tt σ2 H2 fun b H3 =>
    if b = true then te σ2 H3 fun y H4 => ∃ acc, H4 D = some (.lst acc) ∧ acc.length < sizeLine ∧ Nx (upd H4 D (.lst (acc ++ [y]))) else Nx H3)
theorem lcR1 {ta : TA} {g : TG} {tt : TT} {vs : List Nat} (h : ta σ H fun us H1 => ∃ j : Int, us = [.int j] ∧ -(2 ^ 62) ≤ j ∧ j < 2 ^ 62 ∧ ∀ D, H1 D = none → LoopC (Itr 0 j.toNat) g tt te vs σ D (fun H => Q (.ref D) H) (upd H1 D (.lst []))) : tLc (iRng1 ta) g tt te vs σ H Q := h
theorem lcR2 {ta : TA} {g : TG} {tt : TT} {vs : List Nat} (h : ta σ H fun us H1 => ∃ i j : Int, us = [.int i, .int j] ∧ (-(2 ^ 62) ≤ i ∧ i < 2 ^ 62 ∧ -(2 ^ 62) ≤ j ∧ j < 2 ^ 62) ∧ ∀ D, H1 D = none → LoopC (Itr i (j - i).toNat) g tt te vs σ D (fun H => Q (.ref D) H) (upd H1 D (.lst []))) : tLc (iRng2 ta) g tt te vs σ H Q := h
theorem lcL {g : TG} {tt : TT} {vs : List Nat} (h : ta σ H fun x H1 => ∃ a, x = .ref a ∧ (∃ xs, SqL K H1 a xs) ∧ ∀ D, H1 D = none → LoopC (Itl K a) g tt te vs σ D (fun H => Q (.ref D) H) (upd H1 D (.lst []))) : tLc (iList K ta) g tt te vs σ H Q := h
theorem loopCR {lo : Int} {n : Nat} {g : TG} {tt : TT} {vs : List Nat} {D : Addr} {Qd : Hp → Prop} (Pv : Nat → Hp → Prop) (h0 : Pv 0 H)
    (hs : ∀ i H, i < n → Pv i H → g (.int (lo + i)) (wipe σ vs) H fun σ2 H2 => wipe σ2 vs = wipe σ vs ∧ tt σ2 H2 fun b H3 =>
      if b = true then te σ2 H3 fun y H4 => ∃ acc, H4 D = some (.lst acc) ∧ acc.length < sizeLine ∧ Pv (i + 1) (upd H4 D (.lst (acc ++ [y]))) else Pv (i + 1) H3) (hd : ∀ H, Pv n H → Qd H) : LoopC (Itr lo n) g tt te vs σ D Qd H := by
  refine ⟨fun i m H => m = n - i ∧ i ≤ n ∧ Pv i H, ⟨n, by simp, Nat.zero_le _, h0⟩, ?_⟩
  rintro i m H ⟨rfl, hi, p⟩
  by_cases hlt : i < n
  · refine .inr ⟨hlt, Pv (i + 1), fun H' p' => ⟨n - (i + 1), by omega, rfl, hlt, p'⟩, fun x H' y => ?_⟩
    obtain ⟨e, y⟩ := y
    subst e y
    exact hs i _ hlt p
  · have e : i = n := by omega
    subst e
    exact .inl ⟨Nat.le_refl _, hd H p⟩
theorem loopCL {a : Addr} {xs : List V} {g : TG} {tt : TT} {vs : List Nat} {D : Addr} {Qd : Hp → Prop} (Pv : Nat → Hp → Prop) (h0 : Pv 0 H) (hl : ∀ i H, i ≤ xs.length → Pv i H → SqL K H a xs)
    (hs : ∀ i x H, xs[i]? = some x → Pv i H → g x (wipe σ vs) H fun σ2 H2 => wipe σ2 vs = wipe σ vs ∧ tt σ2 H2 fun b H3 =>
      if b = true then te σ2 H3 fun y H4 => ∃ acc, H4 D = some (.lst acc) ∧ acc.length < sizeLine ∧ Pv (i + 1) (upd H4 D (.lst (acc ++ [y]))) else Pv (i + 1) H3) (hd : ∀ H, Pv xs.length H → Qd H) : LoopC (Itl K a) g tt te vs σ D Qd H := by
  refine ⟨fun i m H => m = xs.length - i ∧ i ≤ xs.length ∧ Pv i H, ⟨xs.length, by simp, Nat.zero_le _, h0⟩, ?_⟩
  rintro i m H ⟨rfl, hi, p⟩
  have q := hl i H hi p
  by_cases hlt : i < xs.length
  · refine .inr ⟨⟨xs, xs[i], q, by simp [hlt]⟩, Pv (i + 1), fun H' p' => ⟨xs.length - (i + 1), by omega, rfl, hlt, p'⟩, fun x H' y => ?_⟩
    obtain ⟨e, y⟩ := y
    subst e
    exact hs i x _ (y xs q) p
  · have e : i = xs.length := by omega
    subst e
    exact .inl ⟨⟨xs, q, Nat.le_refl _⟩, hd H p⟩
theorem yes {R : Bool → Hp → Prop} (h : R true H) : tYes σ H R := h
theorem whileW (M : Nat → L2.St → Hp → Prop) (m0 : Nat) (h0 : M m0 σ H)
    (hs : ∀ m σ H, M m σ H → c σ H fun b H1 => if b = true then (∃ N : L2.St → Hp → Prop, (∀ σ' H', N σ' H' → ∃ m', m' < m ∧ M m' σ' H') ∧ t { D with nx := N, ct := N, bk := D.nx } σ H1) else D.nx σ H1) : tWhile c t D σ H := by
  refine ⟨M, ⟨m0, h0⟩, fun m σ H h => ?_⟩
  have h2 := hs m σ H h
  exact h2
theorem dinI {ty td : TE} (h : ty σ H fun y H1 => td σ H1 fun x H2 => ∃ a o, x = .ref a ∧ DGet H2 a y o ∧ Q (.bl o.isSome) H2) : tDIn ty td σ H Q := h
theorem dninI {ty td : TE} (h : ty σ H fun y H1 => td σ H1 fun x H2 => ∃ a o, x = .ref a ∧ DGet H2 a y o ∧ Q (.bl (!o.isSome)) H2) : tDNotIn ty td σ H Q := h
theorem dget {ty td : TE} (h : td σ H fun x H1 => ty σ H1 fun y H2 => ∃ a v, x = .ref a ∧ DGet H2 a y (some v) ∧ Q v H2) : tDGet td ty σ H Q := h
/-- len and list of a sequence, by names -/
def rLenS (K : PySem.W.Frag) : List V → Hp → VK → Prop := fun xs H Q => ∃ p ys, xs = [.ref p] ∧ (SqL K H p ys ∨ SqT K H p ys) ∧ Q (.int ys.length) H
theorem call_lenS {X : Cx} : CallR X (.builtin "len") (rLenS X.K) := call_len_seq
def rListS (K : PySem.W.Frag) : List V → Hp → VK → Prop := fun xs H Q => ∃ p ys, xs = [.ref p] ∧ (SqL K H p ys ∨ SqT K H p ys) ∧ ∀ l, H l = none → Q (.ref l) (upd H l (.lst ys))
theorem call_listS {X : Cx} : CallR X (.type "list") (rListS X.K) := call_list_of
theorem lenS_ {p : Addr} {ys : List V} (h : SqL K H p ys) (q : Q (.int ys.length) H) : rLenS K [.ref p] H Q := ⟨p, ys, rfl, .inl h, q⟩
theorem listS_ {p : Addr} {ys : List V} (h : SqL K H p ys) (q : ∀ l, H l = none → Q (.ref l) (upd H l (.lst ys))) : rListS K [.ref p] H Q := ⟨p, ys, rfl, .inl h, q⟩
theorem chain {r r' : R2} (h : ta σ H fun x H1 => tb σ H1 fun y H2 => r x y H2 fun z H3 => ∃ k, z = .bl k ∧ (if k = true then tc σ H3 fun w' H4 => r' y w' H4 Q else Q (.bl false) H3)) : tChain r r' ta tb tc σ H Q := h
/-- a comprehension of two clauses, the first one's loop -/
def LoopC2 (J : It) (g : TG) (tt : TT) (wi1 : TI) (g1 : TG) (tt1 : TT) (te : TE) (vs vs1 : List Nat) (σ : L2.St) (D : Addr) (Qd : Hp → Prop) (H0 : Hp) : Prop := ∃ W : Nat → Nat → Hp → Prop, (∃ m, W 0 m H0) ∧ ∀ i m H, W i m H →
  (J.stop i H ∧ Qd H) ∨ (J.go i H ∧ ∃ Nx : Hp → Prop, (∀ H', Nx H' → ∃ m', m' < m ∧ W (i + 1) m' H') ∧ ∀ x H', J.yld i H x H' → g x (wipe σ vs) H' fun σ2 H2 => wipe σ2 vs = wipe σ vs ∧ tt σ2 H2 fun b H3 =>
    if b = true then wi1 σ2 H3 (fun J1 H4 => LoopC J1 g1 tt1 te vs1 σ2 D Nx H4) else Nx H3)
theorem lc2V {K : PySem.W.Frag} {ts : TA} {wi1 : TI} {g g1 : TG} {tt tt1 : TT} {vs vs1 : List Nat} (h : ts σ H fun us H1 => ∃ (a : Addr) (xs : List V), us = [.ref a] ∧ SqL K H1 a xs ∧ ∀ D, H1 D = none → LoopC2 (Itv K a xs.length) g tt wi1 g1 tt1 te vs vs1 σ D (fun H => Q (.ref D) H) (upd H1 D (.lst []))) :
    tLc2 (iRev K ts) g tt wi1 g1 tt1 te vs vs1 σ H Q := h
theorem loopC2V {a : Addr} {xs : List V} {wi1 : TI} {g g1 : TG} {tt tt1 : TT} {vs vs1 : List Nat} {D : Addr} {Qd : Hp → Prop} (Pv : Nat → Hp → Prop) (h0 : Pv 0 H) (hl : ∀ i H, Pv i H → SqL K H a xs)
    (hs : ∀ i x H, i < xs.length → xs[xs.length - 1 - i]? = some x → Pv i H → g x (wipe σ vs) H fun σ2 H2 => wipe σ2 vs = wipe σ vs ∧ tt σ2 H2 fun b H3 =>
      if b = true then wi1 σ2 H3 (fun J1 H4 => LoopC J1 g1 tt1 te vs1 σ2 D (Pv (i + 1)) H4) else Pv (i + 1) H3) (hd : ∀ H, Pv xs.length H → Qd H) : LoopC2 (Itv K a xs.length) g tt wi1 g1 tt1 te vs vs1 σ D Qd H := by
  refine ⟨fun i m H => m = xs.length - i ∧ i ≤ xs.length ∧ Pv i H, ⟨xs.length, by simp, Nat.zero_le _, h0⟩, ?_⟩
  rintro i m H ⟨rfl, hi, p⟩
  by_cases hlt : i < xs.length
  · have hx : xs.length - 1 - i < xs.length := by omega
    refine .inr ⟨⟨hlt, xs, xs[xs.length - 1 - i], hl i H p, List.getElem?_eq_getElem hx⟩, Pv (i + 1), fun H' p' => ⟨xs.length - (i + 1), by omega, rfl, hlt, p'⟩, fun x H' y => ?_⟩
    obtain ⟨e, y⟩ := y
    subst e
    exact hs i x _ hlt (y xs (hl i _ p)) p
  · have e : i = xs.length := by omega
    subst e
    exact .inl ⟨Nat.le_refl _, hd H p⟩
theorem piL {R : It → Hp → Prop} (h : ta σ H fun x H1 => ∃ a, x = .ref a ∧ (∃ xs, SqL K H1 a xs) ∧ R (Itl K a) H1) : iList K ta σ H R := h
/-! ### kinds -/
/-- a value's built-in type, of what is known of it -/
inductive Kind (H : Hp) : V → String → Prop where
  | non : Kind H .non "NoneType"
  | bl (b : Bool) : Kind H (.bl b) "bool"
  | int (i : Int) : Kind H (.int i) "int"
  | str (x : Str) : Kind H (.str x) "str"
  | lst {a : Addr} {xs : List V} (h : H a = some (.lst xs)) : Kind H (.ref a) "list"
  | tup {a : Addr} {xs : List V} (h : H a = some (.tup xs)) : Kind H (.ref a) "tuple"
  | dK {a : Addr} {kvs : List (Key × V)} (h : H a = some (.dK kvs)) : Kind H (.ref a) "dict"
theorem Kind.tyB {T : String} (k : Kind H x T) : TyB K H x T := by
  cases k with
  | non => exact .non
  | bl b => exact .bl b
  | int i => exact .int i
  | str s => exact .str s
  | lst h => exact .lst (SqL.of h)
  | tup h => exact .tup (SqT.of h)
  | dK h => exact .dK h
theorem Kind.tyX {T : String} (k : Kind H x T) : TyX K H x (.type T) := by
  cases k with
  | non => exact .base .non
  | bl b => exact .base (.bl b)
  | int i => exact .base (.int i)
  | str s => exact .base (.str s)
  | lst h => exact .base (.lst h)
  | tup h => exact .base (.tup h)
  | dK h => exact .base (.dK h)
def isB (T C : String) : Bool := decide (T = C) || (decide (T = "bool") && decide (C = "int"))
theorem isB_eq {T C : String} (h : C ≠ "int") : isB T C = decide (T = C) := by
  unfold isB
  rw [decide_eq_false h, Bool.and_false, Bool.or_false]
theorem Kind.kit {T : String} (k : Kind H x T) {C : String} (hC : C = "int" ∨ C = "bool" ∨ C = "str" ∨ C = "tuple" ∨ C = "list") : PySem.W.kitOne K (.type T) (.type C) = some (isB T C) := by
  rcases hC with rfl | rfl | rfl | rfl | rfl <;> cases k <;> exact kit_ty (by decide +kernel)
theorem isi {T C : String} (k : Kind H x T) (hC : C = "int" ∨ C = "bool" ∨ C = "str" ∨ C = "tuple" ∨ C = "list") (q : Q (.bl (isB T C)) H) : rIsi K [x, .ty C] H Q :=
  ⟨x, .ty C, _, _, _, rfl, .ty C, k.tyX, k.kit hC, q⟩
theorem typ {T : String} (k : Kind H x T) (q : Q (.ty T) H) : rTyp K [x] H Q := ⟨x, T, rfl, k.tyB, q⟩
theorem rNT_ {s1 s2 : String} (q : Q (.bl (!decide (s1 = s2))) H) : rNT (.ty s1) (.ty s2) H Q := ⟨s1, s2, rfl, rfl, q⟩
/-! ### heaps -/
theorem Kp.same (h : H b = none) (k : Kp b H H1) : Same H H1 := fun a o e => k a o (ne_of_none e h) e
theorem Kp.updNew {o : HO} (k : Kp b H H1) (h : H p = none) : Kp b H (upd H1 p o) := fun a u n e => by rw [upd_ne (ne_of_none e h)]; exact k a u n e
theorem Same.kp (k : Same H H1) : Kp b H H1 := fun a o _ e => k a o e
theorem same_new {o : HO} (h : H p = none) : Same H (upd H p o) := fun a u e => by rw [upd_ne (ne_of_none e h)]; exact e
theorem Kp.kind {T : String} {bs : List V} (k : Kp b H H1) (hb : H b = some (.lst bs)) (q : Kind H x T) (n : x ≠ .ref b) : Kind H1 x T := by
  cases q with
  | non => exact .non
  | bl b => exact .bl b
  | int i => exact .int i
  | str s => exact .str s
  | lst h => exact .lst (k _ _ (fun e => n (by rw [e])) h)
  | tup h => exact .tup (k _ _ (fun e => n (by rw [e])) h)
  | dK h => exact .dK (k _ _ (fun e => n (by rw [e])) h)
theorem Same.kind {T : String} (k : Same H H1) (q : Kind H x T) : Kind H1 x T := by
  cases q with
  | non => exact .non
  | bl b => exact .bl b
  | int i => exact .int i
  | str s => exact .str s
  | lst h => exact .lst (k _ _ h)
  | tup h => exact .tup (k _ _ h)
  | dK h => exact .dK (k _ _ h)
theorem atI_of {α : Type} {xs : List α} {x : α} {j : Int} {n : Nat} (e : j = n) (h : xs[n]? = some x) : atI xs j = some x := by rw [e]; exact atI_nat h
end
end Wp

/-! Worths and piles as data: (text, int), lists of such; what is kept of them. -/
namespace Wq
open PySem PySem.Spec PyProof.Rows L2 Wp
abbrev W := Str × Int
def wD (w : W) : PyData := .tuple [.str w.1, .int w.2]
def IsW (H : Hp) (v : V) (w : W) : Prop := ∃ t, v = .ref t ∧ H t = some (.tup [.str w.1, .int w.2])
def Pile (H : Hp) (vs : List V) (ws : List W) : Prop := Paired (IsW H) vs ws
/-- the tuples stay -/
def Tk (H H' : Hp) : Prop := ∀ t xs, H t = some (.tup xs) → H' t = some (.tup xs)
section
variable {H H1 H2 : Hp} {a b p : Addr} {v x y : V} {w : W} {vs us : List V} {ws zs : List W} {K : PySem.W.Frag}
theorem Tk.refl : Tk H H := fun _ _ h => h
theorem Tk.trans (h : Tk H H1) (k : Tk H1 H2) : Tk H H2 := fun t xs e => k t xs (h t xs e)
theorem Same.tk (s : Same H H1) : Tk H H1 := fun t xs e => s t _ e
theorem Kp.tk {bs : List V} (k : Kp b H H1) (h : H b = some (.lst bs)) : Tk H H1 := fun t xs e => k t _ (ne_of e h (by intro q; cases q)) e
theorem Tk.lst {o : HO} {bs : List V} (h : H b = some (.lst bs)) : Tk H (upd H b o) := fun t xs e => by rw [upd_ne (ne_of e h (by intro q; cases q))]; exact e
theorem Tk.dT {o : HO} {bs : List (List Key × V)} (h : H b = some (.dT bs)) : Tk H (upd H b o) := fun t xs e => by rw [upd_ne (ne_of e h (by intro q; cases q))]; exact e
theorem Tk.dK {o : HO} {bs : List (Key × V)} (h : H b = some (.dK bs)) : Tk H (upd H b o) := fun t xs e => by rw [upd_ne (ne_of e h (by intro q; cases q))]; exact e
theorem Tk.new {o : HO} (h : H p = none) : Tk H (upd H p o) := fun t xs e => by rw [upd_ne (ne_of_none e h)]; exact e
theorem IsW.keep (h : IsW H v w) (k : Tk H H1) : IsW H1 v w := by
  obtain ⟨t, e, h⟩ := h
  exact ⟨t, e, k _ _ h⟩
theorem Pile.keep (h : Pile H vs ws) (k : Tk H H1) : Pile H1 vs ws := Paired.mapP h fun _ _ q => q.keep k
theorem Pile.len (h : Pile H vs ws) : vs.length = ws.length := Paired.length h
theorem Pile.nil : Pile H [] [] := Paired.nil
theorem Pile.app (h : Pile H vs ws) (k : Pile H us zs) : Pile H (vs ++ us) (ws ++ zs) := by
  unfold Pile at *
  induction h with
  | nil => exact k
  | cons r t ih => exact .cons r ih
theorem Pile.one (h : IsW H v w) : Pile H [v] [w] := Paired.cons h Paired.nil
theorem Pile.take (h : Pile H vs ws) : ∀ n, Pile H (vs.take n) (ws.take n) := by
  unfold Pile at *
  induction h with
  | nil => intro n; cases n <;> exact .nil
  | cons r t ih => intro n; cases n with
    | zero => exact .nil
    | succ n => exact .cons r (ih n)
theorem Pile.drop (h : Pile H vs ws) : ∀ n, Pile H (vs.drop n) (ws.drop n) := by
  unfold Pile at *
  induction h with
  | nil => intro n; cases n <;> exact .nil
  | cons r t ih => intro n; cases n with
    | zero => exact .cons r t
    | succ n => exact ih n
theorem Pile.rev (h : Pile H vs ws) : Pile H vs.reverse ws.reverse := by
  unfold Pile at *
  induction h with
  | nil => exact .nil
  | cons r t ih =>
    rw [List.reverse_cons, List.reverse_cons]
    exact Pile.app ih (Pile.one r)
theorem Pile.get (h : Pile H vs ws) : ∀ {i : Nat}, vs[i]? = some v → ∃ w, ws[i]? = some w ∧ IsW H v w := by
  unfold Pile at h
  induction h with
  | nil => intro i e; cases i <;> cases e
  | cons r t ih => intro i e; cases i with
    | zero => cases e; exact ⟨_, rfl, r⟩
    | succ n => exact ih e
theorem Pile.at (h : Pile H vs ws) {i : Nat} (hi : i < ws.length) : ∃ v w, vs[i]? = some v ∧ ws[i]? = some w ∧ IsW H v w := by
  have h2 : i < vs.length := by rw [h.len]; exact hi
  obtain ⟨w, hw, q⟩ := h.get (List.getElem?_eq_getElem h2)
  exact ⟨_, w, List.getElem?_eq_getElem h2, hw, q⟩
/-! ### as data -/
theorem IsW.dp (h : IsW H v w) : Dp K H v (wD w) := by
  obtain ⟨t, rfl, h⟩ := h
  exact .tup (SqT.of h) (.cons (.str _) (.cons (.int _) .nil))
theorem Pile.dpAll (h : Pile H vs ws) : DpAll K H vs (ws.map wD) := by
  unfold Pile at h
  induction h with
  | nil => exact .nil
  | cons r t ih => exact .cons r.dp ih
theorem Pile.dp (h : Pile H vs ws) (e : SqL K H a vs) : Dp K H (.ref a) (.list (ws.map wD)) := .lst e h.dpAll
/-- texts as worths have them -/
def Wok (w : W) : Prop := PyData.strOk w.1 = true
theorem wD_lay (h : Wok w) : (wD w).canLay0 = true := by
  unfold wD
  simp only [PyData.canLay0, PyData.canLayAll0]
  rw [show PyData.strOk w.1 = true from h]
  rfl
theorem wD_depth : (wD w).depth = 1 := by simp [wD, PyData.depth, PyData.depthAll]
theorem wDs_lay : ∀ ws : List W, (∀ w ∈ ws, Wok w) → PyData.canLayAll0 (ws.map wD) = true
  | [], _ => by simp [PyData.canLayAll0]
  | w :: ws, h => by
    rw [List.map_cons]
    simp only [PyData.canLayAll0]
    rw [wD_lay (h w List.mem_cons_self), wDs_lay ws (fun x hx => h x (List.mem_cons_of_mem _ hx))] <;> rfl
theorem wDs_depth : ∀ ws : List W, PyData.depthAll (ws.map wD) ≤ 1
  | [] => by simp [PyData.depthAll]
  | w :: ws => by
    have h := wDs_depth ws
    rw [List.map_cons]
    simp only [PyData.depthAll]
    rw [wD_depth]
    omega
theorem wD_shaped (h : Wok w) : SeqAt.shaped (wD w) = true := by
  unfold SeqAt.shaped
  rw [wD_lay h, wD_depth] <;> rfl
theorem wDs_shaped (h : ∀ w ∈ ws, Wok w) : SeqAt.shaped (.list (ws.map wD)) = true := by
  have h2 := wDs_depth ws
  have h3 : (PyData.list (ws.map wD)).depth ≤ 64 := by
    simp only [PyData.depth]
    omega
  show (PyData.canLay0 (.list (ws.map wD)) && decide ((PyData.list (ws.map wD)).depth ≤ 64)) = true
  rw [decide_eq_true h3, Bool.and_true]
  simp only [PyData.canLay0]
  exact wDs_lay ws h
theorem wD_eqv (w z : W) : PyData.eqv (wD w) (wD z) = decide (w = z) := by
  unfold wD
  simp only [PyData.eqv, PyData.eqvAll, Bool.and_true]
  obtain ⟨s, n⟩ := w
  obtain ⟨t, m⟩ := z
  rw [Bool.beq_eq_decide_eq, Bool.beq_eq_decide_eq]
  by_cases e1 : s = t
  · by_cases e2 : n = m
    · subst e1 e2; simp
    · simp [e1, e2]
  · simp [e1]
theorem any_wD (w : W) : ∀ ws : List W, ((ws.map wD).any fun z => PyData.eqv z (wD w)) = decide (w ∈ ws)
  | [] => rfl
  | z :: ws => by
    rw [List.map_cons, List.any_cons, any_wD w ws, wD_eqv]
    by_cases e : z = w
    · subst e; simp
    · rw [decide_eq_false e, Bool.false_or]
      exact decide_eq_decide.mpr ⟨fun h => List.mem_cons_of_mem _ h, fun h => (List.mem_cons.mp h).elim (fun q => absurd q.symm e) id⟩
theorem eq_self {d : PyData} (h : SeqAt.shaped d = true) : PyData.eqv d d = true := by
  refine PySem.SeqAt.eqv_refl d ?_
  have h2 : (d.canLay0 && decide (d.depth ≤ 64)) = true := h
  rw [Bool.and_eq_true] at h2
  exact h2.1
end
end Wq

/-! Papers as data; what is kept of lists; xs[i] op= e. -/
namespace Wr
open PySem PySem.Spec PyProof.Rows L2 Wp Wq
section
variable {X : Cx}
/-- xs[i], read by values, 0 ≤ i -/
def gIx (K : PySem.W.Frag) : V → V → Hp → VK → Prop := fun x y H Q => ∃ p xs, ∃ i : Nat, ∃ v, x = .ref p ∧ y = .int i ∧ SqL K H p xs ∧ xs[i]? = some v ∧ Q v H
theorem get_list : PGet X (gIx X.K) := by
  intro pins s σ H x y v u Q I rx ry h
  obtain ⟨p, xs, i, z, rfl, rfl, hq, he, q⟩ := h
  cases rx
  obtain ⟨t, rfl⟩ := ry
  obtain ⟨its, r, pl, hz⟩ := I.list hq
  obtain ⟨w, ew, rw'⟩ := r.get he
  have hl := r.length
  have hn := line63
  have hi : i < xs.length := (List.getElem?_eq_some_iff.mp he).1
  exact wpAny_getItem_list pl.isList (by omega) (by omega) (by simpa using ew) ⟨z, H, I, rw', q⟩
end
section
variable {σ : L2.St} {H : Hp} {D : Ends} {to ti te : TE} {K : PySem.W.Frag}
theorem augS {tget : V → V → Hp → VK → Prop} {tip : TIp} {tset : TSet} (h : to σ H fun o H1 => ti σ H1 fun i H2 => tget o i H2 fun x H3 => te σ H3 fun y H4 => tip x y H4 fun z H5 => tset o i z H5 fun H6 => D.nx σ H6) : tAugS to ti te tget tip tset D σ H := h
theorem gix {p : Addr} {xs : List V} {i : Nat} {v : V} {Q : VK} (h : SqL K H p xs) (e : xs[i]? = some v) (q : Q v H) : gIx K (.ref p) (.int i) H Q := ⟨p, xs, i, v, rfl, rfl, h, e, q⟩
theorem ipi {f : Int → Int → Int} {a b : Int} {Q : VK} (q : Q (.int (f a b)) H) : ipI f (.int a) (.int b) H Q := ⟨a, b, rfl, rfl, q⟩
end
/-! ### what is kept -/
/-- all but the objects of S is kept, the tuples too -/
structure Ks (S : List Addr) (H H' : Hp) : Prop where
  keep : ∀ a o, a ∉ S → H a = some o → H' a = some o
  tk : Tk H H'
section
variable {S S' : List Addr} {H H1 H2 : Hp} {a b p : Addr} {v : V} {vs : List V} {ws : List W} {K : PySem.W.Frag}
theorem Ks.refl : Ks S H H := ⟨fun _ _ _ h => h, fun _ _ h => h⟩
theorem Ks.trans (x : Ks S H H1) (y : Ks S H1 H2) : Ks S H H2 := ⟨fun a o n h => y.keep a o n (x.keep a o n h), x.tk.trans y.tk⟩
theorem Ks.same (x : Same H H1) : Ks S H H1 := ⟨fun a o _ h => x a o h, Same.tk x⟩
theorem Ks.mono (x : Ks S H H1) (h : ∀ a ∈ S, a ∈ S') : Ks S' H H1 := ⟨fun a o n e => x.keep a o (fun q => n (h a q)) e, x.tk⟩
theorem Ks.kp {bs : List V} (k : Kp b H H1) (h : H b = some (.lst bs)) (m : b ∈ S) : Ks S H H1 := ⟨fun a o n e => k a o (fun q => n (q ▸ m)) e, Kp.tk k h⟩
theorem Ks.upd {bs : List V} {o : HO} (h : H b = some (.lst bs)) (m : b ∈ S) : Ks S H (upd H b o) := ⟨fun a u n e => by rw [upd_ne (fun q : a = b => n (by rw [q]; exact m))]; exact e, Tk.lst h⟩
theorem Ks.new {o : HO} (h : H p = none) : Ks S H (L2.upd H p o) := Ks.same (same_new h)
/-- what is new to H is not looked at -/
theorem Ks.toSame (x : Ks S H1 H2) (s : Same H H1) (n : ∀ a ∈ S, H a = none) : Same H H2 := fun a o e => x.keep a o (fun q => by rw [n a q] at e; cases e) (s a o e)
/-! ### a list of pieces -/
abbrev Pc := Int × List W
def IsPc (S : List Addr) (H : Hp) (v : V) (p : Pc) : Prop := ∃ t l vs, v = .ref t ∧ H t = some (.tup [.int p.1, .ref l]) ∧ H l = some (.lst vs) ∧ Pile H vs p.2 ∧ l ∉ S
def Pieces (S : List Addr) (H : Hp) (xs : List V) (R : List Pc) : Prop := Paired (IsPc S H) xs R
theorem IsPc.keep {p : Pc} (h : IsPc S H v p) (k : Ks S H H1) : IsPc S H1 v p := by
  obtain ⟨t, l, vs, e, h1, h2, h3, h4⟩ := h
  exact ⟨t, l, vs, e, k.tk _ _ h1, k.keep _ _ h4 h2, h3.keep k.tk, h4⟩
theorem IsPc.less {p : Pc} (h : IsPc S H v p) (k : ∀ a ∈ S', a ∈ S) : IsPc S' H v p := by
  obtain ⟨t, l, vs, e, h1, h2, h3, h4⟩ := h
  exact ⟨t, l, vs, e, h1, h2, h3, fun q => h4 (k _ q)⟩
theorem Pieces.keep {xs : List V} {R : List Pc} (h : Pieces S H xs R) (k : Ks S H H1) : Pieces S H1 xs R := Paired.mapP h fun _ _ q => q.keep k
theorem Pieces.less {xs : List V} {R : List Pc} (h : Pieces S H xs R) (k : ∀ a ∈ S', a ∈ S) : Pieces S' H xs R := Paired.mapP h fun _ _ q => q.less k
theorem Pieces.len {xs : List V} {R : List Pc} (h : Pieces S H xs R) : xs.length = R.length := Paired.length h
theorem Pieces.nil : Pieces S H [] [] := Paired.nil
theorem pair_app {α β : Type} {F : α → β → Prop} : ∀ {l₁ m₁ : List α} {l₂ m₂ : List β}, Paired F l₁ l₂ → Paired F m₁ m₂ → Paired F (l₁ ++ m₁) (l₂ ++ m₂)
  | _, _, _, _, .nil, k => k
  | _, _, _, _, .cons r t, k => .cons r (pair_app t k)
theorem pair_at {α β : Type} {F : α → β → Prop} : ∀ {l₁ : List α} {l₂ : List β}, Paired F l₁ l₂ → ∀ {i : Nat} {y : β}, l₂[i]? = some y → ∃ x, l₁[i]? = some x ∧ F x y
  | _, _, .nil, i, y, e => by cases i <;> cases e
  | _, _, .cons r t, 0, y, e => by cases e; exact ⟨_, rfl, r⟩
  | _, _, .cons r t, i + 1, y, e => pair_at t (i := i) e
theorem pair_at1 {α β : Type} {F : α → β → Prop} : ∀ {l₁ : List α} {l₂ : List β}, Paired F l₁ l₂ → ∀ {i : Nat} {x : α}, l₁[i]? = some x → ∃ y, l₂[i]? = some y ∧ F x y
  | _, _, .nil, i, y, e => by cases i <;> cases e
  | _, _, .cons r t, 0, y, e => by cases e; exact ⟨_, rfl, r⟩
  | _, _, .cons r t, i + 1, y, e => pair_at1 t (i := i) e
/-! ### lists of piles -/
def IsLs (S : List Addr) (H : Hp) (v : V) (ws : List W) : Prop := ∃ l vs, v = .ref l ∧ H l = some (.lst vs) ∧ Pile H vs ws ∧ l ∉ S
def Lists (S : List Addr) (H : Hp) (ys : List V) (Ps : List (List W)) : Prop := Paired (IsLs S H) ys Ps
theorem IsLs.keep {ws : List W} (h : IsLs S H v ws) (k : Ks S H H1) : IsLs S H1 v ws := by
  obtain ⟨l, vs, e, h2, h3, h4⟩ := h
  exact ⟨l, vs, e, k.keep _ _ h4 h2, h3.keep k.tk, h4⟩
theorem IsLs.less {ws : List W} (h : IsLs S H v ws) (k : ∀ a ∈ S', a ∈ S) : IsLs S' H v ws := by
  obtain ⟨l, vs, e, h2, h3, h4⟩ := h
  exact ⟨l, vs, e, h2, h3, fun q => h4 (k _ q)⟩
theorem Lists.keep {ys : List V} {Ps : List (List W)} (h : Lists S H ys Ps) (k : Ks S H H1) : Lists S H1 ys Ps := Paired.mapP h fun _ _ q => q.keep k
theorem Lists.less {ys : List V} {Ps : List (List W)} (h : Lists S H ys Ps) (k : ∀ a ∈ S', a ∈ S) : Lists S' H ys Ps := Paired.mapP h fun _ _ q => q.less k
theorem Lists.len {ys : List V} {Ps : List (List W)} (h : Lists S H ys Ps) : ys.length = Ps.length := Paired.length h
/-! ### what a raw paper is, and its piles -/
def RawOk (size : Int) (R : List Pc) : Prop := ∀ (k : Nat) (p : Pc), R[k]? = some p → -1 ≤ p.1 ∧ p.1 < k ∧ 1 ≤ p.2.length ∧ (p.2.length : Int) ≤ size ∧ ∀ z ∈ p.2, Wok z
def belowM (Ps : List (List W)) (u : Int) : List W := if 0 ≤ u then Ps.getD u.toNat [] else []
def PilesOk (R : List Pc) (Ps : List (List W)) : Prop := Ps.length = R.length ∧ ∀ (k : Nat) (p : Pc), R[k]? = some p → Ps[k]? = some (belowM Ps p.1 ++ p.2)
theorem RawOk.nil {size : Int} : RawOk size [] := fun k p e => by cases k <;> cases e
theorem PilesOk.nil : PilesOk [] [] := ⟨rfl, fun k p e => by cases k <;> cases e⟩
theorem get_app1 {α : Type} {l : List α} {x y : α} {k : Nat} (h : (l ++ [x])[k]? = some y) : l[k]? = some y ∨ (k = l.length ∧ y = x) := by
  by_cases c : k < l.length
  · rw [List.getElem?_append_left c] at h; exact .inl h
  · rw [List.getElem?_append_right (by omega)] at h
    have e : k - l.length = 0 := by
      by_cases q : k - l.length = 0
      · exact q
      · obtain ⟨m, hm⟩ : ∃ m, k - l.length = m + 1 := ⟨k - l.length - 1, by omega⟩
        rw [hm] at h; simp at h
    rw [e] at h
    exact .inr ⟨by omega, (Option.some.inj h).symm⟩
theorem RawOk.app {size : Int} {R : List Pc} {p : Pc} (h : RawOk size R) (h1 : -1 ≤ p.1) (h2 : p.1 < R.length) (h3 : 1 ≤ p.2.length) (h4 : (p.2.length : Int) ≤ size) (h5 : ∀ z ∈ p.2, Wok z) : RawOk size (R ++ [p]) := fun k q e => by
  rcases get_app1 e with e | ⟨rfl, rfl⟩
  · exact h k q e
  · exact ⟨h1, h2, h3, h4, h5⟩
theorem below_app {Ps : List (List W)} {x : List W} {u : Int} (h : u < Ps.length) : belowM (Ps ++ [x]) u = belowM Ps u := by
  unfold belowM
  split
  · rw [List.getD_eq_getElem?_getD, List.getD_eq_getElem?_getD, List.getElem?_append_left (by omega)]
  · rfl
theorem PilesOk.app {size : Int} {R : List Pc} {Ps : List (List W)} {p : Pc} (h : PilesOk R Ps) (ok : RawOk size R) (h2 : p.1 < R.length) : PilesOk (R ++ [p]) (Ps ++ [belowM Ps p.1 ++ p.2]) := by
  refine ⟨by rw [List.length_append, List.length_append, h.1] <;> rfl, fun k q e => ?_⟩
  have hl := h.1
  rcases get_app1 e with e | ⟨rfl, rfl⟩
  · have hk : k < R.length := (List.getElem?_eq_some_iff.mp e).1
    have := (ok k q e).2.1
    rw [below_app (by omega), List.getElem?_append_left (by omega)]
    exact h.2 k q e
  · rw [below_app (by omega), ← hl, List.getElem?_append_right (Nat.le_refl _), Nat.sub_self] <;> rfl
/-! ### a paper -/
abbrev Pap := List Pc × List Int
def IsPap (S : List Addr) (H : Hp) (v : V) (P : Pap) : Prop := ∃ t p q xs, v = .ref t ∧ H t = some (.tup [.ref p, .ref q]) ∧ H p = some (.lst xs) ∧ Pieces S H xs P.1 ∧ H q = some (.lst (P.2.map V.int)) ∧ p ∉ S ∧ q ∉ S
theorem IsPap.keep {P : Pap} (h : IsPap S H v P) (k : Ks S H H1) : IsPap S H1 v P := by
  obtain ⟨t, p, q, xs, e, h1, h2, h3, h4, h5, h6⟩ := h
  exact ⟨t, p, q, xs, e, k.tk _ _ h1, k.keep _ _ h5 h2, h3.keep k, k.keep _ _ h6 h4, h5, h6⟩
def pD (p : Pc) : PyData := .tuple [.int p.1, .list (p.2.map wD)]
def papD (P : Pap) : PyData := .tuple [.list (P.1.map pD), .list (P.2.map PyData.int)]
theorem IsPc.dp {p : Pc} (h : IsPc S H v p) : Dp K H v (pD p) := by
  obtain ⟨t, l, vs, rfl, h1, h2, h3, h4⟩ := h
  exact .tup (SqT.of h1) (.cons (.int _) (.cons (h3.dp (SqL.of h2)) .nil))
theorem Pieces.dpAll {xs : List V} {R : List Pc} (h : Pieces S H xs R) : DpAll K H xs (R.map pD) := by
  unfold Pieces at h
  induction h with
  | nil => exact .nil
  | cons r t ih => exact .cons r.dp ih
theorem ints_dp : ∀ ns : List Int, DpAll K H (ns.map V.int) (ns.map PyData.int)
  | [] => .nil
  | _ :: ns => .cons (.int _) (ints_dp ns)
theorem IsPap.dp {P : Pap} (h : IsPap S H v P) : Dp K H v (papD P) := by
  obtain ⟨t, p, q, xs, rfl, h1, h2, h3, h4, h5, h6⟩ := h
  exact .tup (SqT.of h1) (.cons (.lst (SqL.of h2) h3.dpAll) (.cons (.lst (SqL.of h4) (ints_dp _)) .nil))
theorem pD_lay {p : Pc} (h : ∀ w ∈ p.2, Wok w) : (pD p).canLay0 = true := by
  unfold pD
  simp only [PyData.canLay0, PyData.canLayAll0]
  rw [wDs_lay p.2 h] <;> rfl
theorem pDs_lay : ∀ R : List Pc, (∀ p ∈ R, ∀ w ∈ p.2, Wok w) → PyData.canLayAll0 (R.map pD) = true
  | [], _ => by simp [PyData.canLayAll0]
  | p :: R, h => by
    rw [List.map_cons]
    simp only [PyData.canLayAll0]
    rw [pD_lay (h p List.mem_cons_self), pDs_lay R (fun x hx => h x (List.mem_cons_of_mem _ hx))] <;> rfl
theorem ints_lay : ∀ ns : List Int, PyData.canLayAll0 (ns.map PyData.int) = true
  | [] => by simp [PyData.canLayAll0]
  | n :: ns => by
    rw [List.map_cons]
    simp only [PyData.canLayAll0, PyData.canLay0]
    rw [ints_lay ns] <;> rfl
theorem ints_depth : ∀ ns : List Int, PyData.depthAll (ns.map PyData.int) = 0
  | [] => by simp [PyData.depthAll]
  | n :: ns => by
    rw [List.map_cons]
    simp only [PyData.depthAll, PyData.depth]
    rw [ints_depth ns] <;> rfl
theorem pDs_depth : ∀ R : List Pc, PyData.depthAll (R.map pD) ≤ 3
  | [] => by simp [PyData.depthAll]
  | p :: R => by
    have h := pDs_depth R
    have h2 := wDs_depth p.2
    rw [List.map_cons]
    unfold pD at h ⊢
    simp only [PyData.depthAll, PyData.depth]
    omega
theorem papD_shaped {P : Pap} (h : ∀ p ∈ P.1, ∀ w ∈ p.2, Wok w) : SeqAt.shaped (papD P) = true := by
  have h1 := pDs_depth P.1
  have h2 := ints_depth P.2
  have h3 : (papD P).depth ≤ 64 := by
    unfold papD
    simp only [PyData.depth, PyData.depthAll]
    omega
  show (PyData.canLay0 (papD P) && decide ((papD P).depth ≤ 64)) = true
  rw [decide_eq_true h3, Bool.and_true]
  unfold papD
  simp only [PyData.canLay0, PyData.canLayAll0]
  rw [pDs_lay P.1 h, ints_lay] <;> rfl
theorem ints_shaped (ns : List Int) : SeqAt.shaped (.list (ns.map PyData.int)) = true := by
  have h2 := ints_depth ns
  have h3 : (PyData.list (ns.map PyData.int)).depth ≤ 64 := by
    simp only [PyData.depth]
    omega
  show (PyData.canLay0 (.list (ns.map PyData.int)) && decide ((PyData.list (ns.map PyData.int)).depth ≤ 64)) = true
  rw [decide_eq_true h3, Bool.and_true]
  simp only [PyData.canLay0]
  exact ints_lay ns
end
end Wr

/-! Dicts whose keys are pairs of a whole number and a worth. -/
namespace Wd
open PySem PySem.Spec PyProof.Rows L2 Wp Wq
abbrev KW := Int × W
abbrev NE := KW × Addr × V
def kN (k : KW) : NestedKey := .tup [.num k.1, .tup [.text k.2.1, .num k.2.2]]
theorem kN_inj {a b : KW} (h : kN a = kN b) : a = b := by
  obtain ⟨i, s, n⟩ := a
  obtain ⟨j, t, m⟩ := b
  unfold kN at h
  simp at h
  obtain ⟨h1, h2, h3⟩ := h
  rw [h1, h2, h3]
abbrev NX := NestedKey × Addr × Value
def NR (es : List NE) (xs : List NX) : Prop := Paired (fun (p : NE) (q : NX) => kN p.1 = q.1 ∧ p.2.1 = q.2.1 ∧ RelV p.2.2 q.2.2) es xs
def NRaw (P : Program) (w : World) (a : Addr) (xs : List NX) (h : Heap) : Prop :=
  ∃ o ess ep, h.get? a = some o ∧ o.ExactDict ∧ o.data = .dict ess ep ∧ ess.toList = xs.map (entryOfKey (nestedKind P w)) ∧ (xs.map (·.1)).Nodup
def NO (P : Program) (w : World) (a : Addr) (es : List NE) : HO :=
  .ext fun h => es.length ≤ sizeLine ∧ (a == sysModules) = false ∧ ∃ xs, NR es xs ∧ NRaw P w a xs h
/-- the pair at b is the key k -/
def IsKN (H : Hp) (b : Addr) (k : KW) : Prop := ∃ t, H b = some (.tup [.int k.1, .ref t]) ∧ H t = some (.tup [.str k.2.1, .int k.2.2])
theorem IsKN.keep {H H' : Hp} {b : Addr} {k : KW} (h : IsKN H b k) (s : Tk H H') : IsKN H' b k := by
  obtain ⟨t, h1, h2⟩ := h
  exact ⟨t, s _ _ h1, s _ _ h2⟩
/-- at d stands a dict of these keys and values, in their order -/
def NDict (P : Program) (w : World) (H : Hp) (d : Addr) (kvs : List (KW × V)) : Prop :=
  ∃ es : List NE, H d = some (NO P w d es) ∧ (∀ e ∈ es, IsKN H e.2.1 e.1) ∧ es.map (fun e => (e.1, e.2.2)) = kvs
theorem NDict.keep {P : Program} {w : World} {H H' : Hp} {d : Addr} {kvs : List (KW × V)} (h : NDict P w H d kvs) (k : H' d = H d) (s : Tk H H') : NDict P w H' d kvs := by
  obtain ⟨es, h1, h2, h3⟩ := h
  exact ⟨es, k.trans h1, fun e he => (h2 e he).keep s, h3⟩
theorem NDict.same {P : Program} {w : World} {H H' : Hp} {d : Addr} {kvs : List (KW × V)} (h : NDict P w H d kvs) (s : Same H H') : NDict P w H' d kvs := by
  have ⟨es, h1, h2, h3⟩ := h
  exact h.keep ((s _ _ h1).trans h1.symm) (Same.tk s)
theorem NDict.kp {P : Program} {w : World} {H H' : Hp} {d b : Addr} {bs : List V} {kvs : List (KW × V)} (h : NDict P w H d kvs) (hb : H b = some (.lst bs)) (s : Kp b H H') : NDict P w H' d kvs := by
  have ⟨es, h1, h2, h3⟩ := h
  exact h.keep ((s _ _ (ne_of h1 hb (by intro q; cases q)) h1).trans h1.symm) (Kp.tk s hb)
theorem NDict.isSome {P : Program} {w : World} {H : Hp} {d : Addr} {kvs : List (KW × V)} (h : NDict P w H d kvs) : ∃ o, H d = some o := by
  obtain ⟨es, h1, _⟩ := h
  exact ⟨_, h1⟩
theorem NDict.ne_lst {P : Program} {w : World} {H : Hp} {d a : Addr} {bs : List V} {kvs : List (KW × V)} (h : NDict P w H d kvs) (ha : H a = some (.lst bs)) : d ≠ a := by
  obtain ⟨es, h1, _⟩ := h
  exact ne_of h1 ha (by intro q; cases q)
section
variable {X : Cx} {pins : List (Addr × Obj)} {σ : L2.St} {H : Hp} {s : Shared} {d b : Addr} {k : KW} {es : List NE} {xs : List NX}
theorem key_is (I : Inv X pins σ H s) (h : IsKN H b k) : (nestedKind X.prog X.w).is s.heap (kN k) b := by
  obtain ⟨t, hb, ht⟩ := h
  obtain ⟨_, its, rv, o1, g1, c1, n1, d1⟩ := (show ObjOk X.prog X.w H s.heap b (.tup [.int k.1, .ref t]) from I.hok b _ hb)
  obtain ⟨_, jts, rw', o2, g2, c2, n2, d2⟩ := (show ObjOk X.prog X.w H s.heap t (.tup [.str k.2.1, .int k.2.2]) from I.hok t _ ht)
  cases rv with
  | cons r1 r2 =>
    cases r2 with
    | cons r3 r4 =>
      cases r4
      cases rw' with
      | cons q1 q2 =>
        cases q2 with
        | cons q3 q4 =>
          cases q4
          obtain ⟨t1, rfl⟩ := r1
          cases r3
          obtain ⟨t2, rfl⟩ := q1
          obtain ⟨t3, rfl⟩ := q3
          exact ⟨.tup g1 c1 d1 (.cons (.int _ _) (.cons (.tup g2 c2 d2 (.cons (.text _ _) (.cons (.int _ _) .nil))) .nil)), by simp [kN, NestedKey.depth, NestedKey.depthAll]⟩
theorem no_get (I : Inv X pins σ H s) (h : H d = some (NO X.prog X.w d es)) : es.length ≤ sizeLine ∧ (d == sysModules) = false ∧ ∃ xs, NR es xs ∧ NRaw X.prog X.w d xs s.heap := (I.hok d _ h).1
theorem no_new {P : Program} {w : World} {h : Heap} (z : es.length ≤ sizeLine) (hd : (d == sysModules) = false) (r : NR es xs) (q : NRaw P w d xs h) : ObjOk P w H h d (NO P w d es) := by
  have ⟨o, ess, ep, ho, rest⟩ := q
  refine ⟨⟨z, hd, xs, r, q⟩, ⟨o, ho⟩, fun h1 h2 p k => ?_⟩
  obtain ⟨z, hd, xs, r, o, ess, ep, ho, rest⟩ := p
  exact ⟨z, hd, xs, r, o, ess, ep, k o ho, rest⟩
theorem pgetR {α β : Type} {R : α → β → Prop} : ∀ {l1 : List α} {l2 : List β}, Paired R l1 l2 → ∀ {i : Nat} {y : β}, l2[i]? = some y → ∃ x, l1[i]? = some x ∧ R x y
  | _, _, .nil, i, y, h => by cases i <;> cases h
  | _, _, .cons r t, 0, y, h => by cases h; exact ⟨_, rfl, r⟩
  | _, _, .cons r t, i + 1, y, h => pgetR t h
theorem pgetL {α β : Type} {R : α → β → Prop} : ∀ {l1 : List α} {l2 : List β}, Paired R l1 l2 → ∀ {i : Nat} {x : α}, l1[i]? = some x → ∃ y, l2[i]? = some y ∧ R x y
  | _, _, .nil, i, y, h => by cases i <;> cases h
  | _, _, .cons r t, 0, y, h => by cases h; exact ⟨_, rfl, r⟩
  | _, _, .cons r t, i + 1, y, h => pgetL t h
theorem papp {α β : Type} {R : α → β → Prop} : ∀ {l1 m1 : List α} {l2 m2 : List β}, Paired R l1 l2 → Paired R m1 m2 → Paired R (l1 ++ m1) (l2 ++ m2)
  | _, _, _, _, .nil, k => k
  | _, _, _, _, .cons r t, k => .cons r (papp t k)
theorem no_dict (I : Inv X pins σ H s) (h : H d = some (NO X.prog X.w d es)) (hk : ∀ e ∈ es, IsKN H e.2.1 e.1) : ∃ xs, NR es xs ∧ s.heap.DictOfH (nestedKind X.prog X.w) d xs := by
  obtain ⟨z, hd, xs, r, o, ess, ep, ho, hx, hdat, he, hn⟩ := no_get I h
  refine ⟨xs, r, o, ess, ep, ho, hx, hdat, he, fun x hx => ?_, hn⟩
  obtain ⟨i, hi⟩ := List.mem_iff_getElem?.mp hx
  obtain ⟨e, he, r1, r2, r3⟩ := pgetR r hi
  rw [← r1, ← r2]
  exact key_is I (hk e (List.mem_of_getElem? he))
theorem NR.val (r : NR es xs) (k : KW) : RelO (valV (es.map fun e => (e.1, e.2.2)) k) ((atKey xs (kN k)).map (·.2)) := by
  unfold NR at r
  induction r with
  | nil => trivial
  | @cons p q l1 l2 h t ih =>
    obtain ⟨h1, h2, h3⟩ := h
    rw [List.map_cons]
    by_cases e : p.1 = k
    · have e2 : q.1 = kN k := by rw [← h1, e]
      rw [valV_pos e]
      unfold atKey
      rw [List.find?_cons, decide_eq_true e2]
      exact h3
    · have e2 : ¬ q.1 = kN k := fun c => e (kN_inj (h1.trans c))
      rw [valV_neg e]
      unfold atKey at ih ⊢
      rw [List.find?_cons, decide_eq_false e2]
      exact ih
theorem NR.len (r : NR es xs) : es.length = xs.length := Paired.length r
end
/-! ### a new one -/
section
variable {X : Cx} {P : Program} {w : World} {σ : L2.St} {H : Hp} {Q : VK} {te ta tb to : TE}
theorem no_empty {H : Hp} (h : Heap) (hb : sysModules < h.objs.size) : ObjOk P w H (h.push { cls := .type "dict", data := .dict #[] }) h.objs.size (NO P w h.objs.size []) := by
  obtain ⟨o, es, ep, ho, hx, hdat, he, _, hn⟩ := Heap.DictOfH.new (knd := nestedKind P w) h
  exact no_new (xs := []) (Nat.zero_le _) (by rw [beq_eq_false_iff_ne]; exact Nat.ne_of_gt hb) .nil ⟨o, es, ep, ho, hx, hdat, he, hn⟩
def tNew (P : Program) (w : World) : TE := fun _ H Q => ∀ p, H p = none → Q (.ref p) (upd H p (NO P w p []))
theorem pe_new {pos : Pos} : PE X (.Dict [] [] pos) (tNew X.prog X.w) := ⟨fun pins s σ H Q I h =>
  wpAny_Dict_empty ⟨.ref s.heap.objs.size, _, I.laid (a := s.heap.objs.size) (o := NO X.prog X.w s.heap.objs.size []) (t' := s.toks) (fun _ _ q => Heap.get?_push_of_some _ q) (Nat.le_refl _) (no_empty s.heap I.big), rfl, h _ (I.hok.fresh (Nat.le_refl _))⟩⟩
theorem ndict_new {H : Hp} {p : Addr} : NDict P w (upd H p (NO P w p [])) p [] := ⟨[], upd_same, (fun _ h => nomatch h), rfl⟩
/-! ### d.setdefault((i, worth), v) -/
def rSetD (P : Program) (w : World) : V → List V → Hp → VK → Prop := fun x xs H Q => ∃ (d b : Addr) (k : KW) (v : V) (kvs : List (KW × V)), x = .ref d ∧ xs = [.ref b, v] ∧ NDict P w H d kvs ∧ IsKN H b k ∧ kvs.length < sizeLine ∧
  (∀ u, valV kvs k = some u → Q u H) ∧ (valV kvs k = none → ∀ H', NDict P w H' d (kvs ++ [(k, v)]) → Kp d H H' → Q v H')
theorem mt_setD (hu : X.A.units + 64 < cLine) : MtR X "dict.setdefault" (rSetD X.prog X.w) := by
  intro pins s σ H x xs v us Q I rx rxs h
  obtain ⟨d, b, k, v0, kvs, rfl, rfl, ⟨es, hd, hk, rfl⟩, hb, room, q1, q2⟩ := h
  cases rx
  cases rxs with
  | cons r1 r2 =>
    cases r2 with
    | cons r3 r4 =>
      cases r4
      cases r1
      rename_i v1
      obtain ⟨z, hsys, _⟩ := no_get I hd
      obtain ⟨xs, r, hm⟩ := no_dict I hd hk
      have hv := NR.val r k
      refine call_setdefault_heap (knd := nestedKind X.prog X.w) (k := kN k) (hu := by show X.A.units + 1 + 8 < cLine; omega) (hkey := key_is I hb) (hd := hsys) (hm := hm) (hsz := by rw [← NR.len r]; exact z) (fun p hp => ?_) (fun hn h' hm' hs => ?_)
      · rw [hp] at hv
        cases e : valV (es.map fun e => (e.1, e.2.2)) k with
        | none => rw [e] at hv; exact hv.elim
        | some u =>
          rw [e] at hv
          exact ⟨u, H, I.tok _, hv, q1 u e⟩
      · rw [hn] at hv
        cases e : valV (es.map fun e => (e.1, e.2.2)) k with
        | some u => rw [e] at hv; exact hv.elim
        | none =>
          rw [storedH_new hn] at hm'
          obtain ⟨o, ess, ep, ho, hx, hdat, he, _, hnd⟩ := hm'
          rw [List.length_map] at room
          have rn : NR (es ++ [(k, b, v0)]) (xs ++ [(kN k, b, v1)]) := papp r (.cons ⟨rfl, rfl, r3⟩ .nil)
          have new : ∀ HH, ObjOk X.prog X.w HH h' d (NO X.prog X.w d (es ++ [(k, b, v0)])) := fun HH => no_new (by rw [List.length_append]; exact room) hsys rn ⟨o, ess, ep, ho, hx, hdat, he, hnd⟩
          refine ⟨v0, upd H d (NO X.prog X.w d (es ++ [(k, b, v0)])), d_write I (by rw [hd]; trivial) hs ⟨o, ho⟩ (new _), r3, q2 e _ ⟨_, upd_same, ?_, ?_⟩ Kp.at⟩
          · intro e he
            have tk : Tk H (upd H d (NO X.prog X.w d (es ++ [(k, b, v0)]))) := fun t xs e => by rw [upd_ne (ne_of e hd (by intro q; cases q))]; exact e
            rcases List.mem_append.mp he with he | he
            · exact (hk e he).keep tk
            · rw [List.mem_singleton.mp he]; exact hb.keep tk
          · rw [List.map_append] <;> rfl
def tNM (P : Program) (w : World) (r : V → List V → Hp → VK → Prop) (to : TE) (t : TA) : TE := fun σ H Q => to σ H fun x H1 => (∃ a kvs, x = V.ref a ∧ NDict P w H1 a kvs) ∧ t σ H1 fun xs H2 => r x xs H2 Q
variable {o e : Expr} {es : List Expr} {t : TA} {apos cpos : Pos}
theorem nd_typeIs {pins : List (Addr × Obj)} {H : Hp} {s : Shared} {d : Addr} {kvs : List (KW × V)} (I : Inv X pins σ H s) (g : NDict X.prog X.w H d kvs) : s.TypeIs (.ref d) "dict" := by
  obtain ⟨es, hd, hk, _⟩ := g
  obtain ⟨xs, r, hm⟩ := no_dict I hd hk
  exact hm.typeIs
theorem nd_noDict {pins : List (Addr × Obj)} {H : Hp} {s : Shared} {d : Addr} {kvs : List (KW × V)} (I : Inv X pins σ H s) (g : NDict X.prog X.w H d kvs) :
    ∀ b, Value.ref d = .ref b → ∃ ob, s.heap.get? b = some ob ∧ ob.dict = none := fun b q => by
  cases q
  obtain ⟨es, hd, hk, _⟩ := g
  obtain ⟨xs, r, ob, _, _, h1, h2, _⟩ := no_dict I hd hk
  exact ⟨ob, h1, h2.2.1⟩
theorem pe_setD (hu : X.A.units + 64 < cLine) (ho : PE X o to) (ha : PA X (e :: es) t)
    (hbase : attributeBase o "setdefault" X.env (eval o X.env) = eval o X.env := by rfl)
    (hfew : ((backTo cpos (starEach (e :: es) X.env)).all (fun x => !x.1) && (backToKw cpos (keywordEach [] X.env)).all (fun x => x.1.isSome)
      && decide ((e :: es).length + ([] : List Keyword).length + (if ([] : List Keyword).isEmpty then 0 else 1) < 30)) = true := by rfl)
    (hline : (apos.endLine == cpos.line) = true := by rfl) (hs : starEach (e :: es) X.env = (false, eval e X.env) :: starEach es X.env := by rfl) (hplain : (backTo cpos (starEach es X.env)).any (·.1) = false := by rfl) :
    PE X (.Call (.Attribute o "setdefault" apos) (e :: es) [] cpos) (tNM X.prog X.w (rSetD X.prog X.w) to t) := by
  refine ⟨fun pins s σ H Q I h => ?_⟩
  refine wpAny_Call_method_late hbase hfew hline rfl (thn (ho.run pins s σ H _ I h) fun v s1 ⟨x, H1, I1, r1, ty, q1⟩ => ?_)
  obtain ⟨a, kvs, rfl, hka⟩ := ty
  cases r1
  refine ⟨"dict", "dict.setdefault", F.plainAttrs_dict, F.slot_dict_setdefault, F.type_dict_setdefault, nd_typeIs I1 hka, nd_noDict I1 hka, ?_⟩
  have hA := ha.run cpos pins s1 σ H1 _ I1 q1
  rw [hs] at hA ⊢
  refine Calls.callWith_builtin (by show (false || (backTo cpos (starEach es X.env)).any (·.1)) = false; rw [hplain] <;> rfl) (Calls.evalArgs_plain ?_)
  exact thn hA fun us s2 ⟨vs, H2, I2, r2, q2⟩ => mt_setD hu pins s2 σ H2 (.ref a) vs (.ref a) us Q I2 rfl r2 q2
/-! ### d[(i, worth)], len(d), k in d -/
def rIxN (P : Program) (w : World) : R2 := fun x y H Q => ∃ (d b : Addr) (k : KW) (kvs : List (KW × V)) (u : V), x = .ref d ∧ y = .ref b ∧ NDict P w H d kvs ∧ IsKN H b k ∧ valV kvs k = some u ∧ Q u H
def tNGet (P : Program) (w : World) (td ty : TE) : TE := fun σ H Q => td σ H fun x H1 => ty σ H1 fun y H2 => rIxN P w x y H2 Q
theorem call_lenN : CallR X (.builtin "len") (fun xs H Q => ∃ a kvs, xs = [V.ref a] ∧ NDict X.prog X.w H a kvs ∧ Q (.int kvs.length) H) := by
  intro pins s σ H xs us Q I r h
  obtain ⟨a, kvs, rfl, ha, q⟩ := h
  obtain ⟨u, rfl, ru⟩ := vals1 r
  cases ru
  have hT := nd_typeIs I ha
  obtain ⟨es, hd, hk, rfl⟩ := ha
  obtain ⟨z, hsys, _⟩ := no_get I hd
  obtain ⟨xs, r, hm⟩ := no_dict I hd hk
  have el := NR.len r
  refine call_len_slot (n := xs.length) hT F.slot_dict_len (fun Q' hq => len_keyed (kvs := pairsH xs) hsys ⟨xs, hm, rfl⟩ (by rw [pairsH_length]; exact hq)) (by omega) (by rw [sizeLine_eq] at z; omega) ?_
  rw [← el, List.length_map] at *
  exact ⟨.int es.length, H, (I.tok _).tok _, ⟨_, rfl⟩, q⟩
variable {i : Expr} {td ty : TE} {pos : Pos}
theorem pe_nget (hu : X.A.units + 64 < cLine) (ho : PE X o td) (hi : PE X i ty) (hs : NoSl i) : PE X (.Subscript o i pos) (tNGet X.prog X.w td ty) := by
  refine ⟨fun pins s σ H Q I h => ?_⟩
  refine subD_of PySem.F.slot_dict_getitem.lookup hs (thn (ho.run pins s σ H _ I h) fun u s1 ⟨x, H1, I1, rx, q1⟩ => thn (hi.run pins s1 σ H1 _ I1 q1) fun iv s2 ⟨y, H2, I2, ry, d, b, k, kvs, v, ex, ey, g, hb, hv, q2⟩ => ?_)
  subst ex ey
  obtain rfl : u = Value.ref d := rx
  obtain rfl : iv = Value.ref b := ry
  refine ⟨nd_typeIs I2 g, ?_⟩
  obtain ⟨es, hd, hk, rfl⟩ := g
  obtain ⟨xs, r, hm⟩ := no_dict I2 hd hk
  have hr := NR.val r k
  rw [hv] at hr
  cases e : atKey xs (kN k) with
  | none => rw [e] at hr; exact hr.elim
  | some p =>
    rw [e] at hr
    refine wpAny_getItem_heap (knd := nestedKind X.prog X.w) (hu := by show X.A.units + 1 + 8 < cLine; omega) (hkey := key_is I2 hb) (hm := hm) (hp := e) ?_
    exact ⟨v, H2, I2.tok _, hr, q2⟩
/-! ### for pair in d: the dict is locked -/
def NDictF (P : Program) (w : World) (H : Hp) (d : Addr) (o : Obj) (es : List NE) : Prop := H d = some (.frz o (NO P w d es))
def Itn (P : Program) (w : World) (d : Addr) (o : Obj) (es : List NE) : It :=
  ⟨fun i H => NDictF P w H d o es ∧ i < es.length, fun i H x H' => H' = H ∧ ∃ e, es[i]? = some e ∧ x = .ref e.2.1, fun i H => NDictF P w H d o es ∧ es.length ≤ i⟩
theorem frzN {pins : List (Addr × Obj)} {H : Hp} {s : Shared} {d : Addr} {o : Obj} {es : List NE} (I : Inv X pins σ H s) (h : NDictF X.prog X.w H d o es) :
    (d == sysModules) = false ∧ s.heap.get? d = some o ∧ o.ExactDict ∧ ∃ (ess : Array DictEntry) (ep : Nat), o.data = .dict ess ep ∧ ess.size = es.length ∧
      ∀ (i : Nat) (e : NE), es[i]? = some e → ∃ (en : DictEntry), ess[i]? = some en ∧ en.key = .ref e.2.1 := by
  obtain ⟨hg, z⟩ := I.hok d _ h
  obtain ⟨z, hsys, xs, r, o', ess, ep, ho, hx, hdt, he, hn⟩ := (show ObjOk X.prog X.w H s.heap d (NO X.prog X.w d es) from z).1
  rw [hg] at ho
  cases ho
  refine ⟨hsys, hg, hx, ess, ep, hdt, ?_, fun i e hi => ?_⟩
  · have l1 : ess.size = xs.length := size_of_entries he
    have l2 := NR.len r
    omega
  · obtain ⟨x, hx, r1, r2, r3⟩ := pgetL r hi
    have q := entry_at he i
    rw [hx] at q
    exact ⟨_, q, by rw [r2] <;> rfl⟩
theorem turn_keysN {P : Program} {w : World} {K : PySem.W.Frag} {tg : Expr} {d : Addr} {o : Obj} {ess : Array DictEntry} {ep : Nat} {es : List NE} (it : Addr) (hod : o.data = .dict ess ep) : Turn P w K tg (Itn P w d o es) [it] it (fun i h => h.IsKeyIter it d i es.length ep) where
  mem := by simp
  obj := fun i h st b hb => by
    have e : b = it := by simpa using hb
    subst e
    obtain ⟨oi, e, c, dd⟩ := st
    exact ⟨oi, e, fun v z => by rw [dd] at z; cases z⟩
  keep := fun i h h' st k => st.at fun oi e => k it (by simp) oi e
  item := by
    intro X hP hw hK hc i pins s σ H E I hf st hg
    subst hP hw hK
    obtain ⟨hd, hi⟩ := hg
    obtain ⟨f0, f1, f2, f3, f4, f5⟩ := hf it (by simp)
    obtain ⟨hs, hgd, hx, es', ep', hdt, hsz, ent⟩ := frzN I hd
    obtain ⟨rfl, rfl⟩ := dict_ep hod hdt
    obtain ⟨e0, he0⟩ : ∃ p, es[i]? = some p := ⟨es[i], List.getElem?_eq_getElem hi⟩
    obtain ⟨en, hen, hkey⟩ := ent i e0 he0
    refine next_key_item st hgd hdt hsz hen fun h' st' sb => ?_
    have I1 : Inv X pins σ H { s with heap := h' } := I.turned (t' := s.toks) (fun b ob hb e => (sb.2 b hb).trans e) f0 f1 f3 f4 f5
    obtain ⟨oi, e, c, dd⟩ := id st'
    exact ⟨en.key, rfl, go_of (s := { s with heap := h' }) e c dd (by decide) ⟨.ref e0.2.1, H, I1, hkey, ⟨rfl, e0, he0, rfl⟩, st', fun b hb => (hf b hb).1⟩⟩
  done := by
    intro X hP hw hK hc i pins s σ H E I hf st hg
    subst hP hw hK
    obtain ⟨hd, hi⟩ := hg
    obtain ⟨f0, f1, f2, f3, f4, f5⟩ := hf it (by simp)
    obtain ⟨hs, hgd, hx, es', ep', hdt, hsz, ent⟩ := frzN I hd
    obtain ⟨rfl, rfl⟩ := dict_ep hod hdt
    exact next_key_end (I.ok.hd hc) st hgd hdt hsz hi fun h' eb => ⟨rfl, I.turned (t' := s.toks) (fun b ob hb e => eb b ob hb e) f0 f1 f3 f4 f5⟩
  self := fun A i s Q E st h => by
    refine wpAny_pyIter_slot st.typeIs F.slot_dict_keyiterator_iter (wpAny_call_entry F.slot_dict_keyiterator_iter st.typeIs F.entry_dict_keyiterator_iter ?_ (F.args_dict_keyiterator_iter_1 _))
    show wpAny _ _ (ret (.ref it)) _ _ s
    exact wpAny_pure ⟨_, rfl, "dict_keyiterator", _, st.typeIs, F.slot_dict_keyiterator_next.lookup, h⟩
def iKeysN (P : Program) (w : World) (td : TE) : TI := fun σ H R => td σ H fun x H1 => ∃ d o es, x = .ref d ∧ NDictF P w H1 d o es ∧ R (Itn P w d o es) H1
theorem pi_keysN {tg e : Expr} {td : TE} (he : PE X e td) : PI X tg e (iKeysN X.prog X.w td) := by
  refine ⟨fun pins s σ H R I h => ?_⟩
  refine thn (he.run pins s σ H _ I h) fun u s1 ⟨x, H1, I1, rx, d, o, es, ex, hd, q⟩ => ?_
  subst ex
  obtain rfl : u = Value.ref d := rx
  obtain ⟨hs, hgd, hx, ess, ep, hdt, hsz, ent⟩ := frzN I1 hd
  refine iter_keys hs hgd hx hdt (pi_one (tk := s1.toks) I1 _ (turn_keysN _ hdt) ⟨_, Heap.get?_push_size _ rfl, rfl, ?_⟩ q)
  rw [hsz] <;> rfl
end
section
variable {P : Program} {w : World} {r : V → List V → Hp → VK → Prop} {to td ty : TE} {t : TA} {σ : L2.St} {H : Hp} {Q : VK} {R : It → Hp → Prop}
theorem nm (h : to σ H fun x H1 => (∃ a kvs, x = V.ref a ∧ NDict P w H1 a kvs) ∧ t σ H1 fun xs H2 => r x xs H2 Q) : tNM P w r to t σ H Q := h
theorem nget (h : td σ H fun x H1 => ty σ H1 fun y H2 => rIxN P w x y H2 Q) : tNGet P w td ty σ H Q := h
theorem tnew (h : ∀ p, H p = none → Q (.ref p) (upd H p (NO P w p []))) : tNew P w σ H Q := h
theorem pikn (h : td σ H fun x H1 => ∃ d o es, x = .ref d ∧ NDictF P w H1 d o es ∧ R (Itn P w d o es) H1) : iKeysN P w td σ H R := h
end
end Wd

/-! sorted of anything that reads as data. -/
namespace Ws
open PySem PySem.Spec PyProof.Rows L2 Wp Wq
abbrev VD := V × PyData
def leD (a b : VD) : Bool := PySem.W.dataLe false (fun x : VD => x.2) a b
def rSortD (K : PySem.W.Frag) : List V → Hp → VK → Prop := fun vs H Q => ∃ (a : Addr) (bs : List VD), vs = [.ref a] ∧ SqL K H a (bs.map (·.1)) ∧ (∀ b ∈ bs, Dp K H b.1 b.2) ∧ PySem.W.AllAlike (bs.map (·.2)) ∧ PySem.W.Sortable (bs.map (·.2)) ∧ (∀ b ∈ bs, b.2.depth ≤ 60) ∧
  ∀ p, H p = none → Q (.ref p) (upd H p (.lst ((bs.mergeSort leD).map (·.1))))
section
variable {X : Cx}
theorem each_rel : ∀ {bs : List VD} {its : List Value}, Vals (bs.map (·.1)) its → PySem.W.EachIs (fun (v : Value) (b : VD) => RelV b.1 v) its bs
  | [], _, h => by cases h; exact .nil
  | b :: bs, _, h => by
    cases h with
    | cons r t => exact .cons r (each_rel t)
theorem rel_each : ∀ {bs : List VD} {its : List Value}, PySem.W.EachIs (fun (v : Value) (b : VD) => RelV b.1 v) its bs → Vals (bs.map (·.1)) its
  | [], _, h => by cases h; exact .nil
  | b :: bs, _, h => by
    cases h with
    | cons r t => exact .cons r (rel_each t)
theorem each_reads {pins : List (Addr × Obj)} {σ : L2.St} {H : Hp} {s : Shared} (I : Inv X pins σ H s) : ∀ {bs : List VD} {its : List Value}, Vals (bs.map (·.1)) its → (∀ b ∈ bs, Dp X.K H b.1 b.2) → PySem.W.EachIs (fun (v : Value) (b : VD) => ∃ as, Reads s.heap v b.2 as) its bs
  | [], _, h, _ => by cases h; exact .nil
  | b :: bs, _, h, d => by
    cases h with
    | cons r t => exact .cons (Dp.reads I _ _ _ (d b List.mem_cons_self) r) (each_reads I t fun x hx => d x (List.mem_cons_of_mem _ hx))
theorem cr_sortD (hu : X.A.units + 64 < cLine) : CallR X (.builtin "sorted") (rSortD X.K) := by
  intro pins s σ H vs us Q I r h
  obtain ⟨a, bs, rfl, hs, hd, hal, hk, hdep, q⟩ := h
  obtain ⟨its, rv, hl, hz⟩ := I.list hs
  rw [Vals.ref1 r]
  rw [List.length_map] at hz
  refine PySem.W.sorted_data (enc := fun x : VD => x.2) (vs := its) hl.isList (each_rel rv) (each_reads I rv hd) hal hk hz (fun b hb => by have := hdep b hb; show X.A.units + 2 + b.2.depth < cLine; omega) fun out h1 h2 => ?_
  obtain ⟨ep, he'⟩ := PyProof.Rows.sortedAll_at s.heap its out.toArray
  have hlen : ((bs.mergeSort leD).map (·.1)).length ≤ sizeLine := by
    rw [List.length_map, List.length_mergeSort]
    exact hz
  exact ⟨.ref _, upd H (s.heap.objs.size + 1) (.lst ((bs.mergeSort leD).map (·.1))), I.laid (t' := s.toks) (fun _ _ => PyProof.Rows.sortedAll_old) (Nat.le_succ _) ⟨hlen, out, ep, rel_each h2, he'⟩, rfl, q _ (I.hok.fresh (Nat.le_succ _))⟩
end
end Ws

/-! Beginnings of piles: the dict's mirror, and how sorted piles count them. -/
namespace Wk
open PySem PySem.Spec PyProof.Rows L2 Wp Wq Wr Wd
def ins (T : List (List W)) (q : List W) : List (List W) := if q ∈ T then T else T ++ [q]
def begs (p : List W) (j : Nat) : List (List W) := (List.range j).map fun n => p.take (n + 1)
def insPile (T : List (List W)) (p : List W) : List (List W) := (begs p p.length).foldl ins T
def trie (ps : List (List W)) : List (List W) := ps.foldl insPile []
theorem begs_succ (p : List W) (j : Nat) : begs p (j + 1) = begs p j ++ [p.take (j + 1)] := by
  unfold begs
  rw [List.range_succ, List.map_append] <;> rfl
theorem mem_ins {T : List (List W)} {q x : List W} : x ∈ ins T q ↔ x ∈ T ∨ x = q := by
  unfold ins
  split
  · rename_i h
    exact ⟨.inl, fun k => k.elim id fun e => e ▸ h⟩
  · rw [List.mem_append, List.mem_singleton]
theorem mem_foldl {x : List W} : ∀ {qs T : List (List W)}, x ∈ qs.foldl ins T ↔ x ∈ T ∨ x ∈ qs
  | [], T => by simp
  | q :: qs, T => by
    rw [List.foldl_cons, mem_foldl (qs := qs), mem_ins, List.mem_cons]
    exact ⟨fun h => by rcases h with (h | h) | h <;> simp [h], fun h => by rcases h with h | h | h <;> simp [h]⟩
theorem mem_begs {p x : List W} {j : Nat} : x ∈ begs p j ↔ ∃ n, n < j ∧ x = p.take (n + 1) := by
  unfold begs
  rw [List.mem_map]
  exact ⟨fun ⟨n, h, e⟩ => ⟨n, List.mem_range.mp h, e.symm⟩, fun ⟨n, h, e⟩ => ⟨n, List.mem_range.mpr h, e.symm⟩⟩
theorem mem_insPile {T : List (List W)} {p x : List W} : x ∈ insPile T p ↔ x ∈ T ∨ ∃ n, n < p.length ∧ x = p.take (n + 1) := by
  unfold insPile
  rw [mem_foldl, mem_begs]
theorem mem_trie' {x : List W} : ∀ {ps T : List (List W)}, x ∈ ps.foldl insPile T ↔ x ∈ T ∨ ∃ p ∈ ps, ∃ n, n < p.length ∧ x = p.take (n + 1)
  | [], T => by simp
  | p :: ps, T => by
    rw [List.foldl_cons, mem_trie' (ps := ps), mem_insPile]
    constructor
    · rintro ((h | ⟨n, h1, h2⟩) | ⟨p', hp, n, h1, h2⟩)
      · exact .inl h
      · exact .inr ⟨p, List.mem_cons_self, n, h1, h2⟩
      · exact .inr ⟨p', List.mem_cons_of_mem _ hp, n, h1, h2⟩
    · rintro (h | ⟨p', hp, n, h1, h2⟩)
      · exact .inl (.inl h)
      · rcases List.mem_cons.mp hp with rfl | hp
        · exact .inl (.inr ⟨n, h1, h2⟩)
        · exact .inr ⟨p', hp, n, h1, h2⟩
theorem mem_trie {x : List W} {ps : List (List W)} : x ∈ trie ps ↔ ∃ p ∈ ps, ∃ n, n < p.length ∧ x = p.take (n + 1) := by
  unfold trie
  rw [mem_trie']
  simp
theorem ins_old {T : List (List W)} {q : List W} (h : q ∈ T) : ins T q = T := if_pos h
theorem ins_new {T : List (List W)} {q : List W} (h : q ∉ T) : ins T q = T ++ [q] := if_neg h
theorem ins_nodup {T : List (List W)} {q : List W} (h : T.Nodup) : (ins T q).Nodup := by
  unfold ins
  split
  · exact h
  · rename_i c
    rw [List.nodup_append]
    refine ⟨h, List.nodup_cons.mpr ⟨List.not_mem_nil, List.nodup_nil⟩, fun a ha b hb e => c ?_⟩
    rw [List.mem_singleton] at hb
    rw [← hb, ← e]
    exact ha
theorem foldl_nodup : ∀ {qs T : List (List W)}, T.Nodup → (qs.foldl ins T).Nodup
  | [], _, h => h
  | q :: qs, _, h => foldl_nodup (qs := qs) (ins_nodup h)
theorem trie_nodup' : ∀ {ps T : List (List W)}, T.Nodup → (ps.foldl insPile T).Nodup
  | [], _, h => h
  | p :: ps, _, h => trie_nodup' (ps := ps) (foldl_nodup h)
theorem trie_nodup (ps : List (List W)) : (trie ps).Nodup := trie_nodup' List.nodup_nil
/-- only which piles there are counts -/
theorem trie_len_perm {ps qs : List (List W)} (h : ∀ p, p ∈ ps ↔ p ∈ qs) : (trie ps).length = (trie qs).length := by
  refine ((List.perm_ext_iff_of_nodup (trie_nodup ps) (trie_nodup qs)).mpr fun x => ?_).length_eq
  rw [mem_trie, mem_trie]
  exact ⟨fun ⟨p, hp, r⟩ => ⟨p, (h p).mp hp, r⟩, fun ⟨p, hp, r⟩ => ⟨p, (h p).mpr hp, r⟩⟩
/-! ### sorted piles -/
def lcp : List W → List W → Nat
  | x :: xs, y :: ys => if x = y then lcp xs ys + 1 else 0
  | _, _ => 0
theorem lcp_cons (x y : W) (xs ys : List W) : lcp (x :: xs) (y :: ys) = if x = y then lcp xs ys + 1 else 0 := rfl
theorem lcp_le : ∀ (a b : List W), lcp a b ≤ b.length ∧ lcp a b ≤ a.length
  | [], b => by unfold lcp; exact ⟨Nat.zero_le _, Nat.zero_le _⟩
  | x :: xs, [] => by unfold lcp; exact ⟨Nat.zero_le _, Nat.zero_le _⟩
  | x :: xs, y :: ys => by
    have h := lcp_le xs ys
    rw [lcp_cons]
    split
    · rw [List.length_cons, List.length_cons]; omega
    · exact ⟨Nat.zero_le _, Nat.zero_le _⟩
theorem take_pre : ∀ (a b : List W) (n : Nat), n ≤ b.length → (b.take n <+: a ↔ n ≤ lcp a b)
  | a, b, 0, _ => by simp
  | [], y :: ys, n + 1, h => by
    rw [List.take_succ_cons]
    unfold lcp
    simp
  | x :: xs, y :: ys, n + 1, h => by
    rw [List.take_succ_cons, List.cons_prefix_cons, take_pre xs ys n (by rw [List.length_cons] at h; omega), lcp_cons]
    by_cases e : x = y
    · subst e
      rw [if_pos rfl]
      simp
    · rw [if_neg e]
      constructor
      · rintro ⟨e2, _⟩
        exact absurd e2.symm e
      · intro q
        omega
  | a, [], n + 1, h => by simp at h
theorem lcp_nil (b : List W) : lcp [] b = 0 := by unfold lcp; rfl
/-- how many are new -/
theorem insPile_len {T : List (List W)} {p : List W} {m : Nat} (hm : m ≤ p.length) (h : ∀ n, n < p.length → (p.take (n + 1) ∈ T ↔ n + 1 ≤ m)) : (insPile T p).length = T.length + (p.length - m) := by
  unfold insPile
  have go : ∀ j, j ≤ p.length → ((begs p j).foldl ins T).length = T.length + (j - m) := by
    intro j
    induction j with
    | zero => intro _; unfold begs; simp
    | succ j ih =>
      intro hj
      have ih := ih (by omega)
      rw [begs_succ, List.foldl_append]
      show (ins ((begs p j).foldl ins T) (p.take (j + 1))).length = _
      have mem : p.take (j + 1) ∈ (begs p j).foldl ins T ↔ j + 1 ≤ m := by
        rw [mem_foldl, mem_begs, h j (by omega)]
        constructor
        · rintro (q | ⟨n, hn, e⟩)
          · exact q
          · have := congrArg List.length e
            rw [List.length_take, List.length_take] at this
            omega
        · exact .inl
      by_cases c : p.take (j + 1) ∈ (begs p j).foldl ins T
      · have := mem.mp c
        rw [ins_old c]
        omega
      · have : ¬ j + 1 ≤ m := fun q => c (mem.mpr q)
        rw [ins_new c, List.length_append]
        show _ + 1 = _
        omega
  exact go _ (Nat.le_refl _)
def ltW (x y : W) : Bool := PySem.W.dataLt (wD x) (wD y)
def ltR (x y : List W) : Bool := PySem.W.rowLt (x.map wD) (y.map wD)
theorem alikeW (x y : W) : PySem.W.alike (wD x) (wD y) = true := by
  unfold wD
  simp [PySem.W.alike, PySem.W.alikeAll]
theorem ltR_nil (y : W) (ys : List W) : ltR [] (y :: ys) = true := by
  unfold ltR PySem.W.rowLt
  rw [List.map_nil, List.map_cons, PySem.W.toks_all_cons]
  simp only [PySem.W.keyToksAll]
  rw [lex_diff (O := itemOrd) (by simp)]
  rfl
theorem ltR_cons (x y : W) (xs ys : List W) : ltR (x :: xs) (y :: ys) = if x = y then ltR xs ys else ltW x y := by
  unfold ltR PySem.W.rowLt
  rw [List.map_cons, List.map_cons, PySem.W.dataLt_cons (alikeW x y), wD_eqv]
  by_cases e : x = y
  · rw [if_pos (decide_eq_true e), if_pos e]
  · rw [if_neg (by rw [decide_eq_false e]; exact Bool.false_ne_true), if_neg e]
    rfl
theorem ltW_tri {x y : W} (h : x ≠ y) (h1 : ltW x y = false) : ltW y x = true := by
  obtain ⟨s, n⟩ := x
  obtain ⟨t, m⟩ := y
  unfold ltW wD at *
  rw [PySem.W.dataLt_pair (by simp [PySem.W.alike]) (by simp [PySem.W.alike])] at *
  simp only [PyData.eqv, PySem.W.dataLt_str, PySem.W.dataLt_int, beq_iff_eq] at *
  by_cases e : s = t
  · subst e
    rw [if_pos rfl] at *
    by_cases e2 : n = m
    · subst e2
      exact absurd rfl h
    · rw [if_neg e2] at h1
      rw [if_neg (fun q => e2 q.symm)]
      rw [decide_eq_false_iff_not] at h1
      rw [decide_eq_true_eq]
      omega
  · rw [if_neg e] at h1
    rw [if_neg (fun q => e q.symm)]
    rw [decide_eq_false_iff_not] at h1
    rw [decide_eq_true_eq]
    by_cases q : t.cps.toList < s.cps.toList
    · exact q
    · exact absurd (Str.ext' (Array.toList_inj.mp (List.le_antisymm (List.not_lt.mp q) (List.not_lt.mp h1)))) e
/-- a beginning of the one ahead and of the one behind is one of those between -/
theorem mid_pre : ∀ {q a b c : List W}, ltR b a = false → ltR c b = false → q <+: a → q <+: c → q <+: b
  | [], _, _, _, _, _, _, _ => List.nil_prefix
  | z :: q, a, b, c, h1, h2, pa, pc => by
    cases a with
    | nil => simp at pa
    | cons x xs =>
      cases c with
      | nil => simp at pc
      | cons y ys =>
        rw [List.cons_prefix_cons] at pa pc
        obtain ⟨rfl, pa⟩ := pa
        obtain ⟨rfl, pc⟩ := pc
        cases b with
        | nil => rw [ltR_nil] at h1; cases h1
        | cons w ws =>
          rw [ltR_cons] at h1 h2
          by_cases e : w = z
          · subst e
            rw [if_pos rfl] at h1 h2
            rw [List.cons_prefix_cons]
            exact ⟨rfl, mid_pre h1 h2 pa pc⟩
          · rw [if_neg e] at h1
            rw [if_neg (fun q => e q.symm)] at h2
            rw [ltW_tri e h1] at h2
            cases h2
theorem ltR_irrefl (a : List W) : ltR a a = false := lex_irrefl _
/-- as the law counts -/
def sumL : List W → List (List W) → Nat
  | _, [] => 0
  | prev, p :: ps => (p.length - lcp prev p) + sumL p ps
theorem trie_snoc (l : List (List W)) (p : List W) : trie (l ++ [p]) = insPile (trie l) p := by
  unfold trie
  rw [List.foldl_append] <;> rfl
theorem trie_step {l : List (List W)} {prev p : List W} (hl : (l = [] ∧ prev = []) ∨ (prev ∈ l ∧ ∀ a ∈ l, ltR prev a = false)) (hp : ltR p prev = false) :
    (trie (l ++ [p])).length = (trie l).length + (p.length - lcp prev p) := by
  rw [trie_snoc]
  refine insPile_len (lcp_le prev p).1 fun n hn => ?_
  rw [mem_trie, ← take_pre prev p (n + 1) hn]
  constructor
  · rintro ⟨a, ha, k, hk, e⟩
    have e2 : p.take (n + 1) <+: a := by rw [e]; exact List.take_prefix _ _
    rcases hl with ⟨rfl, _⟩ | ⟨_, hl⟩
    · cases ha
    · exact mid_pre (hl a ha) hp e2 (List.take_prefix _ _)
  · intro h
    rcases hl with ⟨_, rfl⟩ | ⟨hm, _⟩
    · have := List.prefix_nil.mp h
      have := congrArg List.length this
      rw [List.length_take, List.length_nil] at this
      omega
    · refine ⟨prev, hm, n, ?_, ?_⟩
      · have := h.length_le
        rw [List.length_take] at this
        omega
      · have e := List.prefix_iff_eq_take.mp h
        rw [List.length_take, Nat.min_eq_left (by omega)] at e
        exact e
theorem sum_trie : ∀ {r l : List (List W)} {prev : List W}, ((l = [] ∧ prev = []) ∨ (prev ∈ l ∧ ∀ a ∈ l, ltR prev a = false)) → (l ++ r).Pairwise (fun a b => ltR b a = false) → (∀ p ∈ r, ltR p prev = false) →
    (trie (l ++ r)).length = (trie l).length + sumL prev r
  | [], l, prev, _, _, _ => by rw [List.append_nil]; rfl
  | p :: r, l, prev, hl, hs, hr => by
    have hp := hr p List.mem_cons_self
    have h1 := trie_step hl hp
    have es : l ++ p :: r = (l ++ [p]) ++ r := by rw [List.append_assoc] <;> rfl
    rw [es] at hs ⊢
    have hs' := List.pairwise_append.mp hs
    have hs2 := List.pairwise_append.mp hs'.1
    rw [sum_trie (l := l ++ [p]) (prev := p) (.inr ⟨List.mem_append_right _ List.mem_cons_self, fun a ha => ?_⟩) hs fun q hq => hs'.2.2 p (List.mem_append_right _ List.mem_cons_self) q hq, h1]
    · show _ + _ + _ = _ + ((p.length - lcp prev p) + sumL p r)
      omega
    · rcases List.mem_append.mp ha with ha | ha
      · exact hs2.2.2 a ha p List.mem_cons_self
      · rw [List.mem_singleton.mp ha]
        exact ltR_irrefl p
theorem ltR_nil_r (p : List W) : ltR p [] = false := by
  cases p with
  | nil => exact ltR_irrefl _
  | cons x xs =>
    unfold ltR PySem.W.rowLt
    rw [List.map_nil, List.map_cons, PySem.W.toks_all_cons]
    simp only [PySem.W.keyToksAll]
    rw [lex_diff (O := itemOrd) (by simp)]
    rfl
theorem sorted_sum {ps qs : List (List W)} (hp : qs.Perm ps) (hs : qs.Pairwise (fun a b => ltR b a = false)) : sumL [] qs = (trie ps).length := by
  have h := sum_trie (r := qs) (l := []) (prev := []) (.inl ⟨rfl, rfl⟩) hs (fun p _ => ltR_nil_r p)
  rw [trie_len_perm (ps := ps) (qs := qs) (fun p => hp.symm.mem_iff)]
  rw [List.nil_append] at h
  rw [h]
  show _ = 0 + _
  omega
end Wk

/-! The program's dict of beginnings, as a mirror of the trie. -/
namespace Wk
open PySem PySem.Spec PyProof.Rows L2 Wp Wq Wr Wd
def numOf (T : List (List W)) (q : List W) : Nat := if q = [] then 0 else T.idxOf q + 1
def lastW (q : List W) : W := q.getLast?.getD (Str.empty, 0)
def entT (T : List (List W)) (q : List W) : KW × V := ((((numOf T q.dropLast : Nat) : Int), lastW q), V.int ((numOf T q : Nat) : Int))
def kvsT (T : List (List W)) : List (KW × V) := T.map (entT T)
structure TOk (T : List (List W)) : Prop where
  nd : T.Nodup
  ne : ∀ q ∈ T, q ≠ []
  cl : ∀ q ∈ T, q.dropLast = [] ∨ q.dropLast ∈ T
theorem TOk.nil : TOk [] := ⟨List.nodup_nil, (fun _ h => nomatch h), (fun _ h => nomatch h)⟩
theorem numOf_nil (T : List (List W)) : numOf T [] = 0 := if_pos rfl
theorem numOf_mem {T : List (List W)} {q : List W} (h : q ≠ []) : numOf T q = T.idxOf q + 1 := if_neg h
theorem numOf_inj {T : List (List W)} {a b : List W} (ha : a = [] ∨ a ∈ T) (hb : b = [] ∨ b ∈ T) (e : numOf T a = numOf T b) : a = b := by
  by_cases ca : a = []
  · by_cases cb : b = []
    · rw [ca, cb]
    · rw [ca, numOf_nil, numOf_mem cb] at e
      omega
  · by_cases cb : b = []
    · rw [cb, numOf_nil, numOf_mem ca] at e
      omega
    · rw [numOf_mem ca, numOf_mem cb] at e
      have ha := ha.resolve_left ca
      have hb := hb.resolve_left cb
      have h1 := List.getElem_idxOf (List.idxOf_lt_length_of_mem ha)
      have h2 := List.getElem_idxOf (List.idxOf_lt_length_of_mem hb)
      have e' : T.idxOf a = T.idxOf b := by omega
      rw [← h1, ← h2]
      simp only [e']
theorem numOf_app {T : List (List W)} {q x : List W} (h : q = [] ∨ q ∈ T) : numOf (T ++ [x]) q = numOf T q := by
  by_cases c : q = []
  · rw [c, numOf_nil, numOf_nil]
  · have h := h.resolve_left c
    rw [numOf_mem c, numOf_mem c, List.idxOf_append, if_pos h]
theorem numOf_new {T : List (List W)} {x : List W} (h : x ∉ T) (c : x ≠ []) : numOf (T ++ [x]) x = T.length + 1 := by
  rw [numOf_mem c, List.idxOf_append, if_neg h]
  simp
theorem lastW_app (p : List W) (z : W) : lastW (p ++ [z]) = z := by
  unfold lastW
  simp
theorem drop_last {q : List W} (h : q ≠ []) : q.dropLast ++ [lastW q] = q := by
  have e := List.dropLast_concat_getLast h
  unfold lastW
  rw [List.getLast?_eq_some_getLast h]
  exact e
theorem valV_none {T : List (List W)} {f : List W → KW × V} {k : KW} (h : ∀ q ∈ T, (f q).1 ≠ k) : valV (T.map f) k = none := by
  induction T with
  | nil => rfl
  | cons q T ih =>
    rw [List.map_cons, valV_neg (h q List.mem_cons_self)]
    exact ih fun x hx => h x (List.mem_cons_of_mem _ hx)
theorem valV_some {T : List (List W)} {f : List W → KW × V} {k : KW} {q : List W} (hq : q ∈ T) (h : ∀ x ∈ T, (f x).1 = k ↔ x = q) : valV (T.map f) k = some (f q).2 := by
  induction T with
  | nil => cases hq
  | cons x T ih =>
    rw [List.map_cons]
    by_cases c : (f x).1 = k
    · have e := (h x List.mem_cons_self).mp c
      subst e
      exact valV_pos c
    · rw [valV_neg c]
      have hx : q ∈ T := by
        rcases List.mem_cons.mp hq with e | e
        · subst e
          exact absurd ((h q List.mem_cons_self).mpr rfl) c
        · exact e
      exact ih hx fun y hy => h y (List.mem_cons_of_mem _ hy)
theorem key_iff {T : List (List W)} (h : TOk T) {p q : List W} {z : W} (hp : p = [] ∨ p ∈ T) (hq : q ∈ T) : (entT T q).1 = (((numOf T p : Nat) : Int), z) ↔ q = p ++ [z] := by
  constructor
  · intro e
    have e1 : ((numOf T q.dropLast : Nat) : Int) = ((numOf T p : Nat) : Int) := congrArg Prod.fst e
    have e2 : lastW q = z := congrArg Prod.snd e
    have e3 := numOf_inj (h.cl q hq) hp (by omega)
    rw [← drop_last (h.ne q hq), e3, e2]
  · rintro rfl
    unfold entT
    rw [List.dropLast_concat, lastW_app]
theorem step_old {T : List (List W)} (h : TOk T) {p : List W} {z : W} (hp : p = [] ∨ p ∈ T) (hq : p ++ [z] ∈ T) : valV (kvsT T) (((numOf T p : Nat) : Int), z) = some (.int ((numOf T (p ++ [z]) : Nat) : Int)) :=
  valV_some hq fun x hx => key_iff h hp hx
theorem step_none {T : List (List W)} (h : TOk T) {p : List W} {z : W} (hp : p = [] ∨ p ∈ T) (hq : p ++ [z] ∉ T) : valV (kvsT T) (((numOf T p : Nat) : Int), z) = none :=
  valV_none fun x hx e => hq (by rw [← (key_iff h hp hx).mp e]; exact hx)
theorem step_new {T : List (List W)} (h : TOk T) {p : List W} {z : W} (hp : p = [] ∨ p ∈ T) (hq : p ++ [z] ∉ T) : kvsT (T ++ [p ++ [z]]) = kvsT T ++ [((((numOf T p : Nat) : Int), z), .int ((T.length + 1 : Nat) : Int))] := by
  unfold kvsT
  rw [List.map_append]
  congr 1
  · refine List.map_congr_left fun q hm => ?_
    unfold entT
    rw [numOf_app (h.cl q hm), numOf_app (.inr hm)]
  · rw [List.map_cons, List.map_nil]
    unfold entT
    rw [List.dropLast_concat, lastW_app, numOf_app hp, numOf_new hq (by simp)]
theorem TOk.app {T : List (List W)} (h : TOk T) {p : List W} {z : W} (hp : p = [] ∨ p ∈ T) (hq : p ++ [z] ∉ T) : TOk (T ++ [p ++ [z]]) := by
  refine ⟨?_, fun q hm => ?_, fun q hm => ?_⟩
  · have := ins_nodup (q := p ++ [z]) h.nd
    rw [ins_new hq] at this
    exact this
  · rcases List.mem_append.mp hm with hm | hm
    · exact h.ne q hm
    · rw [List.mem_singleton.mp hm]; simp
  · rcases List.mem_append.mp hm with hm | hm
    · rcases h.cl q hm with e | e
      · exact .inl e
      · exact .inr (List.mem_append_left _ e)
    · rw [List.mem_singleton.mp hm, List.dropLast_concat]
      rcases hp with e | e
      · exact .inl e
      · exact .inr (List.mem_append_left _ e)
/-- the trie behind j worths of a pile -/
def at_ (T : List (List W)) (p : List W) (j : Nat) : List (List W) := (begs p j).foldl ins T
theorem at_zero (T : List (List W)) (p : List W) : at_ T p 0 = T := rfl
theorem at_succ {T : List (List W)} {p : List W} {j : Nat} {z : W} (h : p[j]? = some z) : at_ T p (j + 1) = ins (at_ T p j) (p.take j ++ [z]) := by
  unfold at_
  rw [begs_succ, List.foldl_append, List.take_add_one, h]
  rfl
theorem at_len (T : List (List W)) (p : List W) : at_ T p p.length = insPile T p := rfl
theorem at_here {T : List (List W)} {p : List W} {j : Nat} (hj : j ≤ p.length) : p.take j = [] ∨ p.take j ∈ at_ T p j := by
  cases j with
  | zero => exact .inl (List.take_zero)
  | succ j =>
    refine .inr ?_
    unfold at_
    rw [mem_foldl, mem_begs]
    exact .inr ⟨j, Nat.lt_succ_self _, rfl⟩
theorem at_ok {T : List (List W)} {p : List W} (h : TOk T) : ∀ j, j ≤ p.length → TOk (at_ T p j)
  | 0, _ => h
  | j + 1, hj => by
    have ih := at_ok (p := p) h j (by omega)
    obtain ⟨z, hz⟩ : ∃ z, p[j]? = some z := ⟨p[j]'(by omega), List.getElem?_eq_getElem (by omega)⟩
    rw [at_succ hz]
    by_cases c : p.take j ++ [z] ∈ at_ T p j
    · rw [ins_old c]; exact ih
    · rw [ins_new c]; exact ih.app (at_here (T := T) (p := p) (j := j) (by omega)) c
theorem trie_ok' : ∀ {ps T : List (List W)}, TOk T → TOk (ps.foldl insPile T)
  | [], _, h => h
  | p :: ps, _, h => trie_ok' (ps := ps) (at_ok h p.length (Nat.le_refl _))
theorem trie_ok (ps : List (List W)) : TOk (trie ps) := trie_ok' TOk.nil
theorem at_size {T : List (List W)} {p : List W} : ∀ j, (at_ T p j).length ≤ T.length + j
  | 0 => Nat.le_refl _
  | j + 1 => by
    have ih := at_size (T := T) (p := p) j
    unfold at_ at *
    rw [begs_succ, List.foldl_append]
    show (ins ((begs p j).foldl ins T) (p.take (j + 1))).length ≤ _
    by_cases c : p.take (j + 1) ∈ (begs p j).foldl ins T
    · rw [ins_old c]; omega
    · rw [ins_new c, List.length_append]
      show _ + 1 ≤ _
      omega
theorem trie_size : ∀ {ps T : List (List W)} {m : Nat}, (∀ p ∈ ps, p.length ≤ m) → (ps.foldl insPile T).length ≤ T.length + ps.length * m
  | [], T, m, _ => by simp
  | p :: ps, T, m, h => by
    have h1 := at_size (T := T) (p := p) p.length
    have h2 := trie_size (ps := ps) (T := insPile T p) (m := m) (fun q hq => h q (List.mem_cons_of_mem _ hq))
    have h3 := h p List.mem_cons_self
    rw [at_len] at h1
    rw [List.foldl_cons, List.length_cons, Nat.succ_mul]
    omega
end Wk

/-! A raw paper numbered as its pieces are come to. -/
namespace Wn
open PySem PySem.Spec PyProof.Rows L2 Wp Wq Wr
def pcAt (R : List Pc) (a : Int) : Pc := R.getD a.toNat (-1, [])
def walkM (R : List Pc) : Nat → List Int → Int → List Int
  | 0, o, _ => o
  | f + 1, o, a => if a = -1 ∨ a ∈ o then o else walkM R f (o ++ [a]) (pcAt R a).1
def orderM (R : List Pc) (tops : List Int) : List Int := tops.foldl (fun o t => walkM R (t + 1).toNat o t) []
def placeM (o : List Int) (a : Int) : Int := if a = -1 then -1 else (o.idxOf a : Int)
def numberedM (R : List Pc) (tops : List Int) : Pap := ((orderM R tops).map fun a => (placeM (orderM R tops) (pcAt R a).1, (pcAt R a).2), tops.map (placeM (orderM R tops)))
theorem pcAt_some {R : List Pc} {a : Int} (h0 : 0 ≤ a) (h1 : a < R.length) : R[a.toNat]? = some (pcAt R a) := by
  have h : a.toNat < R.length := by omega
  unfold pcAt
  rw [List.getD_eq_getElem?_getD, List.getElem?_eq_getElem h] <;> rfl
theorem pcAt_ok {size : Int} {R : List Pc} (ok : RawOk size R) {a : Int} (h0 : 0 ≤ a) (h1 : a < R.length) : -1 ≤ (pcAt R a).1 ∧ (pcAt R a).1 < a ∧ 1 ≤ (pcAt R a).2.length ∧ ((pcAt R a).2.length : Int) ≤ size ∧ ∀ z ∈ (pcAt R a).2, Wok z := by
  have := ok a.toNat _ (pcAt_some h0 h1)
  obtain ⟨x1, x2, x3, x4, x5⟩ := this
  exact ⟨x1, by omega, x3, x4, x5⟩
section
variable {size : Int} {R : List Pc}
theorem walk_two (ok : RawOk size R) : ∀ (f g : Nat) (o : List Int) (a : Int), -1 ≤ a → a < R.length → (a + 1).toNat ≤ f → (a + 1).toNat ≤ g → walkM R f o a = walkM R g o a := by
  intro f
  induction f with
  | zero =>
    intro g o a h0 h1 hf hg
    have c : a = -1 := by omega
    cases g with
    | zero => rfl
    | succ g =>
      show o = (if a = -1 ∨ a ∈ o then o else _)
      rw [if_pos (.inl c)]
  | succ f ih =>
    intro g o a h0 h1 hf hg
    show (if a = -1 ∨ a ∈ o then o else walkM R f (o ++ [a]) (pcAt R a).1) = walkM R g o a
    by_cases c2 : a = -1 ∨ a ∈ o
    · rw [if_pos c2]
      cases g with
      | zero => rfl
      | succ g =>
        show o = (if a = -1 ∨ a ∈ o then o else _)
        rw [if_pos c2]
    · rw [if_neg c2]
      have c : a ≠ -1 := fun e => c2 (.inl e)
      obtain ⟨m, rfl⟩ : ∃ m, g = m + 1 := ⟨g - 1, by omega⟩
      show _ = (if a = -1 ∨ a ∈ o then o else walkM R m (o ++ [a]) (pcAt R a).1)
      rw [if_neg c2]
      obtain ⟨u0, u1, _⟩ := pcAt_ok ok (a := a) (by omega) h1
      exact ih m _ _ u0 (by omega) (by omega) (by omega)
/-- one turn -/
theorem walk_step (ok : RawOk size R) {o : List Int} {a : Int} (h0 : -1 ≤ a) (h1 : a < R.length) (c : a ≠ -1) (n : a ∉ o) :
    walkM R (a + 1).toNat o a = walkM R ((pcAt R a).1 + 1).toNat (o ++ [a]) (pcAt R a).1 := by
  obtain ⟨m, hm⟩ : ∃ m, (a + 1).toNat = m + 1 := ⟨a.toNat, by omega⟩
  rw [hm]
  show (if a = -1 ∨ a ∈ o then o else walkM R m (o ++ [a]) (pcAt R a).1) = _
  rw [if_neg (fun h => h.elim c n)]
  obtain ⟨u0, u1, _⟩ := pcAt_ok ok (a := a) (by omega) h1
  exact walk_two ok _ _ _ _ u0 (by omega) (by omega) (Nat.le_refl _)
theorem walk_end {f : Nat} {o : List Int} {a : Int} (c : a = -1 ∨ a ∈ o) : walkM R f o a = o := by
  cases f with
  | zero => rfl
  | succ f =>
    show (if a = -1 ∨ a ∈ o then o else _) = o
    rw [if_pos c]
/-- what a walk keeps and reaches -/
structure OrdOk (R : List Pc) (o : List Int) : Prop where
  rng : ∀ a ∈ o, 0 ≤ a ∧ a < R.length
  nd : o.Nodup
theorem OrdOk.app {o : List Int} {a : Int} (h : OrdOk R o) (h0 : 0 ≤ a) (h1 : a < R.length) (n : a ∉ o) : OrdOk R (o ++ [a]) := by
  refine ⟨fun x hx => ?_, ?_⟩
  · rcases List.mem_append.mp hx with hx | hx
    · exact h.rng x hx
    · rw [List.mem_singleton.mp hx]; exact ⟨h0, h1⟩
  · rw [List.nodup_append]
    refine ⟨h.nd, List.nodup_cons.mpr ⟨List.not_mem_nil, List.nodup_nil⟩, fun x hx y hy e => ?_⟩
    rw [List.mem_singleton.mp hy] at e
    exact n (e ▸ hx)
theorem OrdOk.nil : OrdOk R [] := ⟨(fun _ h => nomatch h), List.nodup_nil⟩
theorem nodup_bound : ∀ {n : Nat} {o : List Int}, o.Nodup → (∀ a ∈ o, 0 ≤ a ∧ a < n) → o.length ≤ n
  | 0, o, _, h => by
    cases o with
    | nil => exact Nat.le_refl _
    | cons a r => have := h a List.mem_cons_self; omega
  | n + 1, o, nd, h => by
    by_cases c : (n : Int) ∈ o
    · have e := List.length_erase_of_mem c
      have q := nodup_bound (n := n) (nd.erase (n : Int)) fun a ha => by
        have h2 := (List.Nodup.mem_erase_iff nd).mp ha
        have h3 := h a h2.2
        have h4 := h2.1
        omega
      omega
    · have q := nodup_bound (n := n) nd fun a ha => by
        have h3 := h a ha
        have h4 : a ≠ n := fun e => c (e ▸ ha)
        omega
      omega
def Near (R : List Pc) (o : List Int) (x : Int) : Prop := ∀ a ∈ o, (pcAt R a).1 = -1 ∨ (pcAt R a).1 ∈ o ∨ (pcAt R a).1 = x
theorem walk_all (ok : RawOk size R) : ∀ (f : Nat) (o : List Int) (a : Int), -1 ≤ a → a < R.length → (a + 1).toNat ≤ f → OrdOk R o → Near R o a →
    OrdOk R (walkM R f o a) ∧ Near R (walkM R f o a) (-1) ∧ (∃ m, walkM R f o a = o ++ m) ∧ (a = -1 ∨ a ∈ walkM R f o a) := by
  intro f
  induction f with
  | zero =>
    intro o a h0 h1 hf ho hn
    have c : a = -1 := by omega
    subst c
    exact ⟨ho, hn, ⟨[], (List.append_nil _).symm⟩, .inl rfl⟩
  | succ f ih =>
    intro o a h0 h1 hf ho hn
    by_cases c2 : a = -1 ∨ a ∈ o
    · rw [walk_end c2]
      refine ⟨ho, fun x hx => ?_, ⟨[], (List.append_nil _).symm⟩, c2⟩
      rcases hn x hx with q | q | q
      · exact .inl q
      · exact .inr (.inl q)
      · rcases c2 with c | c
        · exact .inl (q.trans c)
        · exact .inr (.inl (q ▸ c))
    · have c : a ≠ -1 := fun e => c2 (.inl e)
      have n : a ∉ o := fun e => c2 (.inr e)
      obtain ⟨u0, u1, _⟩ := pcAt_ok ok (a := a) (by omega) h1
      have hn2 : Near R (o ++ [a]) (pcAt R a).1 := by
        intro x hx
        rcases List.mem_append.mp hx with hx | hx
        · rcases hn x hx with q | q | q
          · exact .inl q
          · exact .inr (.inl (List.mem_append_left _ q))
          · exact .inr (.inl (List.mem_append_right _ (q ▸ List.mem_cons_self)))
        · rw [List.mem_singleton.mp hx]
          exact .inr (.inr rfl)
      have h := ih (o ++ [a]) (pcAt R a).1 u0 (by omega) (by omega) (ho.app (by omega) h1 n) hn2
      have e : walkM R (f + 1) o a = walkM R f (o ++ [a]) (pcAt R a).1 := by
        show (if a = -1 ∨ a ∈ o then o else _) = _
        rw [if_neg c2]
      rw [e]
      obtain ⟨q1, q2, ⟨m, q3⟩, q4⟩ := h
      refine ⟨q1, q2, ⟨a :: m, by rw [q3, List.append_assoc] <;> rfl⟩, .inr ?_⟩
      rw [q3]
      exact List.mem_append_left _ (List.mem_append_right _ List.mem_cons_self)
theorem fold_all (ok : RawOk size R) : ∀ (tops : List Int) (o : List Int), (∀ t ∈ tops, -1 ≤ t ∧ t < R.length) → OrdOk R o → Near R o (-1) →
    OrdOk R (tops.foldl (fun o t => walkM R (t + 1).toNat o t) o) ∧ Near R (tops.foldl (fun o t => walkM R (t + 1).toNat o t) o) (-1) ∧ (∃ m, tops.foldl (fun o t => walkM R (t + 1).toNat o t) o = o ++ m) ∧ ∀ t ∈ tops, t = -1 ∨ t ∈ tops.foldl (fun o t => walkM R (t + 1).toNat o t) o
  | [], o, _, ho, hn => ⟨ho, hn, ⟨[], (List.append_nil _).symm⟩, fun _ h => nomatch h⟩
  | t :: tops, o, ht, ho, hn => by
    have h0 := ht t List.mem_cons_self
    obtain ⟨q1, q2, ⟨m, q3⟩, q4⟩ := walk_all ok (t + 1).toNat o t h0.1 h0.2 (Nat.le_refl _) ho (fun x hx => (hn x hx).elim .inl fun q => q.elim (fun q => .inr (.inl q)) .inl)
    obtain ⟨p1, p2, ⟨m2, p3⟩, p4⟩ := fold_all ok tops (walkM R (t + 1).toNat o t) (fun x hx => ht x (List.mem_cons_of_mem _ hx)) q1 q2
    rw [List.foldl_cons]
    refine ⟨p1, p2, ⟨m ++ m2, by rw [p3, q3, List.append_assoc]⟩, fun x hx => ?_⟩
    rcases List.mem_cons.mp hx with e | hx
    · subst e
      rcases q4 with q | q
      · exact .inl q
      · rw [p3]
        exact .inr (List.mem_append_left _ q)
    · exact p4 x hx
theorem order_all (ok : RawOk size R) {tops : List Int} (ht : ∀ t ∈ tops, -1 ≤ t ∧ t < R.length) : OrdOk R (orderM R tops) ∧ (∀ a ∈ orderM R tops, (pcAt R a).1 = -1 ∨ (pcAt R a).1 ∈ orderM R tops) ∧ ∀ t ∈ tops, t = -1 ∨ t ∈ orderM R tops := by
  obtain ⟨h1, h2, _, h4⟩ := fold_all ok tops [] ht OrdOk.nil (fun _ h => nomatch h)
  exact ⟨h1, fun a ha => (h2 a ha).elim .inl fun q => q.elim .inr .inl, h4⟩
/-! ### the dict of places -/
def ents : Nat → List Int → List (Key × V)
  | _, [] => []
  | i, a :: r => (.inl a, .int i) :: ents (i + 1) r
def placesK (o : List Int) : List (Key × V) := (.inl (-1), .int (-1)) :: ents 0 o
theorem ents_len : ∀ (i : Nat) (o : List Int), (ents i o).length = o.length
  | _, [] => rfl
  | i, _ :: r => by show (ents (i + 1) r).length + 1 = r.length + 1; rw [ents_len]
theorem ents_val {a : Int} : ∀ (i : Nat) (o : List Int), valV (ents i o) (.inl a) = if a ∈ o then some (.int ((i + o.idxOf a : Nat) : Int)) else none
  | _, [] => by rw [if_neg List.not_mem_nil]; rfl
  | i, b :: r => by
    show valV ((Sum.inl b, V.int i) :: ents (i + 1) r) (Sum.inl a) = _
    by_cases e : b = a
    · subst e
      rw [valV_pos rfl, if_pos List.mem_cons_self, List.idxOf_cons_self] <;> rfl
    · rw [valV_neg (fun q => e (Sum.inl.inj q)), ents_val (i + 1) r]
      by_cases c : a ∈ r
      · have h2 : (b :: r).idxOf a = r.idxOf a + 1 := by
          rw [List.idxOf_cons]
          have e2 : (b == a) = false := by simpa using e
          rw [e2] <;> rfl
        rw [if_pos c, if_pos (List.mem_cons_of_mem _ c), h2, show i + 1 + r.idxOf a = i + (r.idxOf a + 1) by omega]
      · rw [if_neg c, if_neg (fun h => (List.mem_cons.mp h).elim (fun q => e q.symm) c)]
theorem places_val {o : List Int} {a : Int} : valV (placesK o) (.inl a) = if a = -1 ∨ a ∈ o then some (.int (placeM o a)) else none := by
  unfold placesK placeM
  by_cases e : a = -1
  · subst e
    rw [valV_pos rfl, if_pos (.inl rfl), if_pos rfl]
  · rw [valV_neg (fun q => e (Sum.inl.inj q).symm), ents_val]
    by_cases c : a ∈ o
    · rw [if_pos c, if_pos (.inr c), if_neg e, Nat.zero_add]
    · rw [if_neg c, if_neg (fun h => h.elim e c)]
theorem ents_app (a : Int) : ∀ (i : Nat) (o : List Int), ents i o ++ [(.inl a, .int ((i + o.length : Nat) : Int))] = ents i (o ++ [a])
  | _, [] => rfl
  | i, b :: r => by
    have := ents_app a (i + 1) r
    show (Sum.inl b, V.int i) :: (ents (i + 1) r ++ [(Sum.inl a, V.int ((i + (r.length + 1) : Nat) : Int))]) = (Sum.inl b, V.int i) :: ents (i + 1) (r ++ [a])
    rw [← this, show i + (r.length + 1) = i + 1 + r.length by omega]
theorem places_put {o : List Int} {a : Int} (c : a ≠ -1) (n : a ∉ o) : putK (placesK o) (.inl a) (.int o.length) = placesK (o ++ [a]) := by
  have h : ((placesK o).any fun kv => decide (kv.1 = (Sum.inl a : Key))) = false := by
    rw [List.any_eq_false]
    intro kv hkv
    rw [decide_eq_true_eq]
    intro e
    have hv : valV (placesK o) (.inl a) = none := by rw [places_val, if_neg (fun h => h.elim c n)]
    unfold valV at hv
    have hf : (placesK o).find? (fun kv => decide (kv.1 = (Sum.inl a : Key))) = none := by
      cases q : (placesK o).find? (fun kv => decide (kv.1 = (Sum.inl a : Key))) with
      | none => rfl
      | some x => rw [q] at hv; cases hv
    have := List.find?_eq_none.mp hf kv hkv
    exact this (decide_eq_true e)
  unfold putK
  rw [h, if_neg Bool.false_ne_true]
  have := ents_app a 0 o
  rw [Nat.zero_add] at this
  unfold placesK
  rw [← this] <;> rfl
end
end Wn

/-! A top's pile, piece by piece. -/
namespace Wo
open PySem PySem.Spec PyProof.Rows L2 Wp Wq Wr Wn
inductive OpensN (L : List Pc) : Nat → Int → List W → Prop where
  | nil : OpensN L 0 (-1) []
  | cons {n : Nat} {i : Int} {u : Int} {ws q : List W} (h : L[i.toNat]? = some (u, ws)) (h0 : 0 ≤ i) (t : OpensN L n u q) : OpensN L (n + 1) i (q ++ ws)
theorem OpensN.none {L : List Pc} {n : Nat} {q : List W} (h : OpensN L n (-1) q) : q = [] := by
  generalize e : (-1 : Int) = i at h
  cases h with
  | nil => rfl
  | cons _ h0 _ => omega
theorem OpensN.some {L : List Pc} {n : Nat} {i : Int} {q : List W} (h : OpensN L n i q) (c : i ≠ -1) : ∃ m u ws p, n = m + 1 ∧ L[i.toNat]? = some (u, ws) ∧ 0 ≤ i ∧ OpensN L m u p ∧ q = p ++ ws := by
  cases h with
  | nil => exact absurd rfl c
  | cons h h0 t => exact ⟨_, _, _, _, rfl, h, h0, t, rfl⟩
theorem idx_get : ∀ {o : List Int} {a : Int}, a ∈ o → o[o.idxOf a]? = some a
  | b :: r, a, h => by
    rw [List.idxOf_cons]
    by_cases e : b = a
    · subst e
      rw [beq_self_eq_true] <;> rfl
    · have e2 : (b == a) = false := by simpa using e
      rw [e2]
      show (b :: r)[r.idxOf a + 1]? = _
      rw [List.getElem?_cons_succ]
      exact idx_get ((List.mem_cons.mp h).resolve_left fun q => e q.symm)
/-- of a numbered paper -/
theorem numbered_opens {size : Int} {R : List Pc} {Ps : List (List W)} {tops : List Int} (ok : RawOk size R) (pok : PilesOk R Ps) (ht : ∀ t ∈ tops, -1 ≤ t ∧ t < R.length) :
    ∀ (k : Nat) (a : Int), (a + 1).toNat ≤ k → a = -1 ∨ a ∈ orderM R tops → ∃ n, n ≤ k ∧ OpensN (numberedM R tops).1 n (placeM (orderM R tops) a) (belowM Ps a) := by
  obtain ⟨h1, h2, h3⟩ := order_all ok ht
  have hnil : ∀ k : Nat, ∃ n, n ≤ k ∧ OpensN (numberedM R tops).1 n (placeM (orderM R tops) (-1)) (belowM Ps (-1)) := fun k => ⟨0, Nat.zero_le _, .nil⟩
  intro k
  induction k with
  | zero =>
    intro a ha h
    rcases h with rfl | h
    · exact hnil 0
    · have := (h1.rng a h).1
      omega
  | succ k ih =>
    intro a ha h
    rcases h with rfl | h
    · exact hnil _
    · obtain ⟨a0, a1⟩ := h1.rng a h
      obtain ⟨u0, u1, _⟩ := pcAt_ok ok a0 a1
      obtain ⟨n, hn, hop⟩ := ih (pcAt R a).1 (by omega) (h2 a h)
      refine ⟨n + 1, by omega, ?_⟩
      have e1 : belowM Ps a = belowM Ps (pcAt R a).1 ++ (pcAt R a).2 := by
        have := pok.2 a.toNat _ (pcAt_some a0 a1)
        show (if 0 ≤ a then Ps.getD a.toNat [] else []) = _
        rw [if_pos a0, List.getD_eq_getElem?_getD, this] <;> rfl
      have e2 : placeM (orderM R tops) a = ((orderM R tops).idxOf a : Int) := by
        unfold placeM
        rw [if_neg (by omega)]
      rw [e1, e2]
      refine .cons (u := placeM (orderM R tops) (pcAt R a).1) ?_ (by omega) hop
      show ((orderM R tops).map fun a => (placeM (orderM R tops) (pcAt R a).1, (pcAt R a).2))[((orderM R tops).idxOf a : Int).toNat]? = _
      rw [Int.toNat_natCast, List.getElem?_map, idx_get h] <;> rfl
end Wo

/-! max(xs, default=d) of a list of ints. -/
namespace Wm
open PySem PySem.Spec PyProof.Rows L2 Wp
theorem hold_ints {h : Heap} : ∀ {vs : List Value} {ns : List Int}, IntsAre vs ns → PySem.W.HoldAll h vs ns
  | _, _, .nil => PySem.W.HoldAll.nil
  | _, _, .cons n t r => PySem.W.HoldAll.cons ⟨_, Reads.int n t⟩ (hold_ints r)
theorem maxOf_is : ∀ (xs : List Int) (x : Int), PySem.W.maxOf x xs ∈ x :: xs ∧ ∀ y ∈ x :: xs, y ≤ PySem.W.maxOf x xs := by
  intro xs
  induction xs with
  | nil =>
    intro x
    exact ⟨List.mem_cons_self, fun y hy => by rw [List.mem_singleton.mp hy]; exact Int.le_refl _⟩
  | cons z zs ih =>
    intro x
    have e : PySem.W.maxOf x (z :: zs) = PySem.W.maxOf (if PySem.W.DatumOrd.lt x z = true then z else x) zs := rfl
    have d : PySem.W.DatumOrd.lt x z = decide (x < z) := rfl
    rw [e, d]
    obtain ⟨h1, h2⟩ := ih (if decide (x < z) = true then z else x)
    generalize PySem.W.maxOf (if decide (x < z) = true then z else x) zs = m at h1 h2
    by_cases c : x < z
    · rw [if_pos (decide_eq_true c)] at h1 h2
      refine ⟨List.mem_cons_of_mem _ h1, fun y hy => ?_⟩
      rcases List.mem_cons.mp hy with rfl | hy
      · have := h2 z List.mem_cons_self
        omega
      · exact h2 y hy
    · have c2 : ¬ (decide (x < z) = true) := by simpa using c
      rw [if_neg c2] at h1 h2
      refine ⟨?_, fun y hy => ?_⟩
      · rcases List.mem_cons.mp h1 with h | h
        · rw [h]; exact List.mem_cons_self
        · exact List.mem_cons_of_mem _ (List.mem_cons_of_mem _ h)
      · rcases List.mem_cons.mp hy with rfl | hy
        · exact h2 _ List.mem_cons_self
        · rcases List.mem_cons.mp hy with rfl | hy
          · have := h2 x List.mem_cons_self
            omega
          · exact h2 y (List.mem_cons_of_mem _ hy)
section
variable {X : Cx}
def rMaxD (K : PySem.W.Frag) : List V → List V → Hp → VK → Prop := fun vs zs H Q => ∃ (a : Addr) (ns : List Int) (d : Int), vs = [V.ref a] ∧ zs = [.int d] ∧ SqL K H a (ns.map V.int) ∧ ∀ m, (ns = [] ∧ m = d ∨ m ∈ ns ∧ ∀ y ∈ ns, y ≤ m) → Q (.int m) H
theorem cr_maxD (hc : X.calm = true) (hu : X.A.units + 64 < cLine) : CallRK X (.builtin "max") [Str.ofString "default"] (rMaxD X.K) := by
  intro pins s σ H vs zs us ws Q I r rz h
  obtain ⟨a, ns, d, rfl, rfl, hs, q⟩ := h
  obtain ⟨its, rv, hl, _⟩ := I.list hs
  rw [Vals.ref1 r]
  obtain ⟨w1, rfl, t, rfl⟩ := vals1 rz
  have hi := rv.ints
  refine PySem.W.max_list_datum_default (α := Int) (I.ok.hd hc) hl.isList (xs := ns) ?_ ?_ (fun e h' tk k => ⟨.int d, H, I.kept k, ⟨_, rfl⟩, q d (.inl ⟨e, rfl⟩)⟩) fun y ys i v h' tk e hv hh k => ?_
  · exact hold_ints hi
  · have : PySem.W.Datum.depth Int = 0 := rfl
    omega
  · obtain ⟨as, rd⟩ := hh
    obtain ⟨m1, m2⟩ := maxOf_is ys y
    have rd' : Reads h' v (.int (PySem.W.maxOf y ys)) as := rd
    cases rd'
    exact ⟨.int _, H, I.kept k, ⟨_, rfl⟩, q _ (.inr ⟨e ▸ m1, e ▸ m2⟩)⟩
end
section
variable {K : PySem.W.Frag} {σ : L2.St} {H : Hp} {Q : VK}
theorem augN {i : Nat} {te : TE} {ti : TIp} {D : Ends} {x : V} (h : σ[i]? = some (some x)) (q : te σ H fun y H1 => ti x y H1 fun z H2 => D.nx (σ.set i (some z)) H2) : tAug i te ti D σ H := ⟨x, h, q⟩
theorem idx_mem {a : Int} : ∀ {l : List Int} (m : List Int), a ∈ l → (l ++ m).idxOf a = l.idxOf a
  | b :: l, m, h => by
    rw [List.cons_append, List.idxOf_cons, List.idxOf_cons]
    cases e : b == a with
    | true => rfl
    | false =>
      have h2 : a ∈ l := (List.mem_cons.mp h).resolve_left fun q => by rw [q] at e; simp at e
      show (l ++ m).idxOf a + 1 = l.idxOf a + 1
      rw [idx_mem m h2]
theorem idx_not {a : Int} : ∀ {l : List Int} (m : List Int), a ∉ l → (l ++ m).idxOf a = l.length + m.idxOf a
  | [], m, _ => (Nat.zero_add _).symm
  | b :: l, m, h => by
    rw [List.cons_append, List.idxOf_cons]
    have e : (b == a) = false := by
      have : b ≠ a := fun q => h (q ▸ List.mem_cons_self)
      simpa using this
    rw [e]
    show (l ++ m).idxOf a + 1 = l.length + 1 + m.idxOf a
    rw [idx_not m (fun q => h (List.mem_cons_of_mem _ q))]
    omega
theorem cbK {r : List V → List V → Hp → VK → Prop} {t tk : TA} (h : t σ H fun vs H1 => tk σ H1 fun zs H2 => r vs zs H2 Q) : tCKw r t tk σ H Q := h
theorem maxD_ {a : Addr} {ns : List Int} {d : Int} (h : SqL K H a (ns.map V.int)) (q : ∀ m, (ns = [] ∧ m = d ∨ m ∈ ns ∧ ∀ y ∈ ns, y ≤ m) → Q (.int m) H) : rMaxD K [.ref a] [.int d] H Q := ⟨a, ns, d, rfl, rfl, h, q⟩
end
end Wm

/-! The program's check of the numbers, and the document's clauses walked pile by pile: one answer. -/
namespace Wx
/-! ### as the program goes -/
def uAt (u : List Int) (a : Int) : Int := u.getD a.toNat 0
def runM (u : List Int) : Nat → Nat → Int → Nat × Int
  | 0, m, a => (m, a)
  | f + 1, m, a => if a = m ∧ m < u.length then runM u f (m + 1) (uAt u m) else (m, a)
def numGo (u : List Int) : Nat → List Int → Option Nat
  | m, [] => some m
  | m, t :: ts => if (runM u (u.length - m) m t).2 ≠ -1 ∧ ¬ (0 ≤ (runM u (u.length - m) m t).2 ∧ (runM u (u.length - m) m t).2 < m) then none else numGo u (runM u (u.length - m) m t).1 ts
def numdM (u : List Int) (tops : List Int) : Bool := match numGo u 0 tops with
  | some m => decide (m = u.length)
  | none => false
/-! ### by the clauses -/
def rowM (u : List Int) : Nat → Int → List Int
  | 0, a => [a]
  | f + 1, a => if a = -1 then [a] else a :: rowM u f (uAt u a)
def addM (o : List Int) (l : List Int) : List Int := l.foldl (fun o a => if a ∈ o then o else o ++ [a]) o
def rightGo (u : List Int) : List Int → List Int → Option (List Int)
  | o, [] => some o
  | o, t :: ts => if t < -1 ∨ t ≥ u.length then none else if (rowM u u.length t).getLast? ≠ some (-1) then none else rightGo u (addM o (rowM u u.length t).dropLast) ts
def inR (u : List Int) : Prop := ∀ a ∈ u, -1 ≤ a ∧ a < u.length
def rng (m : Nat) : List Int := (List.range m).map fun i : Nat => (i : Int)
theorem rng_succ {m : Nat} : rng (m + 1) = rng m ++ [(m : Int)] := by
  unfold rng
  rw [List.range_succ, List.map_append] <;> rfl
theorem rng_len {m : Nat} : (rng m).length = m := by unfold rng; rw [List.length_map, List.length_range]
theorem rng_mem {m : Nat} {a : Int} : a ∈ rng m ↔ 0 ≤ a ∧ a < m := by
  unfold rng
  rw [List.mem_map]
  constructor
  · rintro ⟨i, hi, rfl⟩
    have := List.mem_range.mp hi
    omega
  · rintro ⟨h0, h1⟩
    exact ⟨a.toNat, List.mem_range.mpr (by omega), by omega⟩
theorem rng_at {m i : Nat} (h : i < m) : (rng m)[i]? = some (i : Int) := by
  unfold rng
  rw [List.getElem?_map, List.getElem?_range h] <;> rfl
/-- the chain from a ends on nothing in k steps, all below m -/
inductive Ends (u : List Int) (m : Nat) : Nat → Int → Prop where
  | nil : Ends u m 0 (-1)
  | cons {k : Nat} {a : Int} (h0 : 0 ≤ a) (h1 : a < m) (t : Ends u m k (uAt u a)) : Ends u m (k + 1) a
section
variable {u : List Int} {m m' b k : Nat} {a : Int}
theorem Ends.mono (h : Ends u m k a) (hm : m ≤ m') : Ends u m' k a := by
  induction h with
  | nil => exact .nil
  | cons h0 h1 t ih => exact .cons h0 (by omega) ih
theorem Ends.one {k2 m2 : Nat} (h : Ends u m k a) (h2 : Ends u m2 k2 a) : k = k2 := by
  induction h generalizing k2 with
  | nil =>
    cases h2 with
    | nil => rfl
    | cons h0 _ _ => omega
  | cons h0 h1 t ih =>
    cases h2 with
    | nil => omega
    | cons g0 g1 t2 => rw [ih t2]
theorem row_nil {F : Nat} : rowM u F (-1) = [-1] := by
  cases F with
  | zero => rfl
  | succ F => show (if (-1 : Int) = -1 then _ else _) = _; rw [if_pos rfl]
theorem row_ne : ∀ (F : Nat) (a : Int), rowM u F a ≠ []
  | 0, a => List.cons_ne_nil _ _
  | F + 1, a => by
    show (if a = -1 then [a] else a :: rowM u F (uAt u a)) ≠ []
    split <;> exact List.cons_ne_nil _ _
theorem row_cons {F : Nat} (h : a ≠ -1) : rowM u (F + 1) a = a :: rowM u F (uAt u a) := by
  show (if a = -1 then _ else _) = _
  rw [if_neg h]
theorem row_drop {F : Nat} (h : a ≠ -1) : (rowM u (F + 1) a).dropLast = a :: (rowM u F (uAt u a)).dropLast := by
  rw [row_cons h]
  cases e : rowM u F (uAt u a) with
  | nil => exact absurd e (row_ne _ _)
  | cons x r => rfl
theorem row_of {F : Nat} (h : Ends u m k a) (hk : k ≤ F) : (rowM u F a).getLast? = some (-1) ∧ ∀ x ∈ (rowM u F a).dropLast, 0 ≤ x ∧ x < m := by
  induction h generalizing F with
  | nil => rw [row_nil]; exact ⟨rfl, (fun _ h => nomatch h)⟩
  | cons h0 h1 t ih =>
    obtain ⟨G, rfl⟩ : ∃ G, F = G + 1 := ⟨F - 1, by omega⟩
    obtain ⟨i1, i2⟩ := ih (F := G) (by omega)
    rename_i a'
    have hne : a' ≠ -1 := by omega
    refine ⟨?_, ?_⟩
    · rw [row_cons hne, List.getLast?_cons, i1] <;> rfl
    · rw [row_drop hne]
      intro x hx
      rcases List.mem_cons.mp hx with rfl | hx
      · exact ⟨h0, h1⟩
      · exact i2 x hx
theorem ends_of (hr : inR u) : ∀ (F : Nat) (a : Int), -1 ≤ a → a < u.length → (rowM u F a).getLast? = some (-1) → ∃ k, k ≤ F ∧ Ends u u.length k a
  | 0, a, _, _, h => by
    have e : a = -1 := Option.some.inj h
    subst e
    exact ⟨0, Nat.le_refl _, .nil⟩
  | F + 1, a, h0, h1, h => by
    by_cases e : a = -1
    · subst e
      exact ⟨0, Nat.zero_le _, .nil⟩
    · rw [row_cons e, List.getLast?_cons] at h
      have hu : a.toNat < u.length := by omega
      have hm : uAt u a ∈ u := by
        unfold uAt
        rw [List.getD_eq_getElem?_getD, List.getElem?_eq_getElem hu]
        exact List.getElem_mem hu
      have h2 := hr _ hm
      cases e2 : (rowM u F (uAt u a)).getLast? with
      | none => exact absurd (List.getLast?_eq_none_iff.mp e2) (row_ne _ _)
      | some z =>
        rw [e2] at h
        have ez : z = -1 := Option.some.inj h
        rw [ez] at e2
        obtain ⟨k, hk, he⟩ := ends_of hr F (uAt u a) h2.1 h2.2 e2
        exact ⟨k + 1, by omega, .cons (by omega) h1 he⟩
theorem add_in : ∀ (l o : List Int), (∀ x ∈ l, x ∈ o) → addM o l = o
  | [], _, _ => rfl
  | x :: l, o, h => by
    show addM (if x ∈ o then o else o ++ [x]) l = o
    rw [if_pos (h x List.mem_cons_self)]
    exact add_in l o fun y hy => h y (List.mem_cons_of_mem _ hy)
theorem add_pre : ∀ (l o : List Int), ∃ r, addM o l = o ++ r
  | [], o => ⟨[], (List.append_nil _).symm⟩
  | x :: l, o => by
    show ∃ r, addM (if x ∈ o then o else o ++ [x]) l = o ++ r
    by_cases c : x ∈ o
    · rw [if_pos c]; exact add_pre l o
    · rw [if_neg c]
      obtain ⟨r, e⟩ := add_pre l (o ++ [x])
      exact ⟨x :: r, by rw [e, List.append_assoc] <;> rfl⟩
theorem add_cons {o l : List Int} {x : Int} (h : x ∉ o) : addM o (x :: l) = addM (o ++ [x]) l := by
  show addM (if x ∈ o then o else o ++ [x]) l = _
  rw [if_neg h]
theorem rng_pre {n : Nat} {l r : List Int} (h : rng n = l ++ r) : l = rng l.length ∧ l.length ≤ n := by
  have hl : l.length ≤ n := by
    have := congrArg List.length h
    rw [rng_len, List.length_append] at this
    omega
  refine ⟨?_, hl⟩
  apply List.ext_getElem?
  intro i
  by_cases c : i < l.length
  · have h1 : (l ++ r)[i]? = l[i]? := List.getElem?_append_left c
    rw [← h1, ← h, rng_at (by omega), rng_at c]
  · rw [List.getElem?_eq_none (by omega), List.getElem?_eq_none (by rw [rng_len]; omega)]
/-! ### the program's yes is the clauses' -/
theorem run_spec (hb : b ≤ u.length) (cl : ∀ p : Nat, p < b → ∃ k, k ≤ b ∧ Ends u b k p) : ∀ (f m : Nat) (a : Int) (m' : Nat) (a' : Int), runM u f m a = (m', a') → u.length - m ≤ f → m ≤ u.length → b ≤ m → (a' = -1 ∨ 0 ≤ a' ∧ a' < b) →
    m ≤ m' ∧ m' ≤ u.length ∧ ∃ k, k ≤ (m' - m) + b ∧ Ends u m' k a ∧ (∀ p : Nat, m ≤ p → p < m' → ∃ k, k ≤ m' ∧ Ends u m' k p) ∧ ∀ F, k ≤ F → addM (rng m) (rowM u F a).dropLast = rng m' := by
  have stop : ∀ (m : Nat) (a : Int), m ≤ u.length → b ≤ m → (a = -1 ∨ 0 ≤ a ∧ a < b) → m ≤ m ∧ m ≤ u.length ∧ ∃ k, k ≤ (m - m) + b ∧ Ends u m k a ∧ (∀ p : Nat, m ≤ p → p < m → ∃ k, k ≤ m ∧ Ends u m k p) ∧ ∀ F, k ≤ F → addM (rng m) (rowM u F a).dropLast = rng m := by
    intro m a hm hbm ha
    rcases ha with rfl | ⟨a0, a1⟩
    · exact ⟨Nat.le_refl _, hm, 0, Nat.zero_le _, .nil, (fun p h1 h2 => by omega), fun F _ => by rw [row_nil] <;> rfl⟩
    · obtain ⟨k, hk, he⟩ := cl a.toNat (by omega)
      have ea : ((a.toNat : Nat) : Int) = a := by omega
      rw [ea] at he
      refine ⟨Nat.le_refl _, hm, k, by omega, he.mono hbm, (fun p h1 h2 => by omega), fun F hF => add_in _ _ fun x hx => ?_⟩
      have := (row_of he hF).2 x hx
      exact rng_mem.mpr ⟨this.1, by omega⟩
  intro f
  induction f with
  | zero =>
    intro m a m' a' h hf hm hbm ha
    have e : (m, a) = (m', a') := h
    cases e
    exact stop m a hm hbm ha
  | succ f ih =>
    intro m a m' a' h hf hm hbm ha
    have e : (if a = m ∧ m < u.length then runM u f (m + 1) (uAt u m) else (m, a)) = (m', a') := h
    by_cases c : a = m ∧ m < u.length
    · rw [if_pos c] at e
      obtain ⟨i1, i2, k, i3, i4, i5, i6⟩ := ih (m + 1) _ m' a' e (by omega) (by omega) (by omega) ha
      obtain ⟨rfl, c2⟩ := c
      have e4 : Ends u m' (k + 1) (m : Int) := .cons (by omega) (by omega) i4
      refine ⟨by omega, i2, k + 1, by omega, e4, fun p h1 h2 => ?_, fun F hF => ?_⟩
      · by_cases q : p = m
        · subst q; exact ⟨k + 1, by omega, e4⟩
        · exact i5 p (by omega) h2
      · obtain ⟨G, rfl⟩ : ∃ G, F = G + 1 := ⟨F - 1, by omega⟩
        rw [row_drop (by omega), add_cons (fun h => by have := rng_mem.mp h; omega), ← rng_succ]
        exact i6 G (by omega)
    · rw [if_neg c] at e
      cases e
      exact stop m a hm hbm ha
def Cl (u : List Int) (b : Nat) : Prop := ∀ p : Nat, p < b → ∃ k, k ≤ b ∧ Ends u b k p
theorem go_yes : ∀ (ts : List Int) (m n : Nat), numGo u m ts = some n → m ≤ u.length → Cl u m → n ≤ u.length ∧ Cl u n ∧ rightGo u (rng m) ts = some (rng n)
  | [], m, n, h, hm, cl => by
    have e : m = n := Option.some.inj h
    subst e
    exact ⟨hm, cl, rfl⟩
  | t :: ts, m, n, h, hm, cl => by
    have h' : (if (runM u (u.length - m) m t).2 ≠ -1 ∧ ¬ (0 ≤ (runM u (u.length - m) m t).2 ∧ (runM u (u.length - m) m t).2 < m) then none else numGo u (runM u (u.length - m) m t).1 ts) = some n := h
    cases er : runM u (u.length - m) m t with
    | mk m' a' =>
      rw [er] at h'
      by_cases c : a' ≠ -1 ∧ ¬ (0 ≤ a' ∧ a' < m)
      · rw [if_pos c] at h'; cases h'
      · rw [if_neg c] at h'
        have ha : a' = -1 ∨ 0 ≤ a' ∧ a' < m := by omega
        obtain ⟨i1, i2, k, i3, i4, i5, i6⟩ := run_spec hm cl _ _ _ _ _ er (Nat.le_refl _) hm (Nat.le_refl _) ha
        have cl2 : Cl u m' := fun p hp => by
          by_cases q : p < m
          · obtain ⟨k, hk, he⟩ := cl p q
            exact ⟨k, by omega, he.mono i1⟩
          · exact i5 p (by omega) hp
        obtain ⟨j1, j2, j3⟩ := go_yes ts m' n h' i2 cl2
        refine ⟨j1, j2, ?_⟩
        have kn : k ≤ u.length := by omega
        have hrow := (row_of i4 kn).1
        have ht : ¬ (t < -1 ∨ t ≥ u.length) := by
          cases i4 with
          | nil => omega
          | cons h0 h1 _ => omega
        show (if t < -1 ∨ t ≥ u.length then none else if (rowM u u.length t).getLast? ≠ some (-1) then none else rightGo u (addM (rng m) (rowM u u.length t).dropLast) ts) = _
        rw [if_neg ht, if_neg (fun q => q hrow), i6 u.length kn]
        exact j3
theorem yes_right {tops : List Int} (h : numdM u tops = true) : inR u ∧ rightGo u [] tops = some (rng u.length) := by
  unfold numdM at h
  cases e : numGo u 0 tops with
  | none => rw [e] at h; cases h
  | some m =>
    rw [e] at h
    have em : m = u.length := of_decide_eq_true h
    subst em
    obtain ⟨_, cl, hg⟩ := go_yes tops 0 _ e (Nat.zero_le _) (fun p h => absurd h (Nat.not_lt_zero _))
    refine ⟨fun a ha => ?_, hg⟩
    obtain ⟨i, hi, rfl⟩ := List.getElem_of_mem ha
    obtain ⟨k, hk, he⟩ := cl i hi
    have eu : uAt u (i : Int) = u[i] := by
      unfold uAt
      rw [show ((i : Int)).toNat = i from Int.toNat_natCast i, List.getD_eq_getElem?_getD, List.getElem?_eq_getElem hi] <;> rfl
    cases he with
    | cons h0 h1 t =>
      rw [eu] at t
      generalize u[i] = z at t
      cases t with
      | nil => omega
      | cons g0 g1 _ => omega
/-! ### the clauses' yes is the program's -/
theorem run_back (hr : inR u) (clb : ∀ p : Nat, p < b → uAt u p = -1 ∨ 0 ≤ uAt u p ∧ uAt u p < b) {n' : Nat} : ∀ (k : Nat) (a : Int) (M f F : Nat), Ends u u.length k a → b ≤ M → M ≤ u.length → u.length - M ≤ f → k ≤ F →
    (∀ p : Nat, b ≤ p → p < M → ∃ j, k < j ∧ Ends u u.length j p) → (∀ p : Nat, p < M → uAt u p = -1 ∨ 0 ≤ uAt u p ∧ uAt u p < M ∨ uAt u p = a) → (∃ r, rng u.length = addM (rng M) (rowM u F a).dropLast ++ r) →
    ∃ m' a', runM u f M a = (m', a') ∧ (a' = -1 ∨ 0 ≤ a' ∧ a' < b) ∧ M ≤ m' ∧ m' ≤ u.length ∧ addM (rng M) (rowM u F a).dropLast = rng m' ∧ ∀ p : Nat, p < m' → uAt u p = -1 ∨ 0 ≤ uAt u p ∧ uAt u p < m' := by
  have halt : ∀ (f M : Nat) (a : Int), ¬ (a = M ∧ M < u.length) → runM u f M a = (M, a) := by
    intro f M a h
    cases f with
    | zero => rfl
    | succ f =>
      show (if a = M ∧ M < u.length then _ else _) = _
      rw [if_neg h]
  have low : ∀ (k : Nat) (a : Int), Ends u u.length k a → (a = -1 ∨ 0 ≤ a ∧ a < b) → Ends u b k a := by
    intro k a h
    induction h with
    | nil => intro _; exact .nil
    | cons h0 h1 t ih =>
      rename_i k2 a2
      intro hb
      have hb2 : 0 ≤ a2 ∧ a2 < b := by omega
      have e2 : ((a2.toNat : Nat) : Int) = a2 := by omega
      have := clb a2.toNat (by omega)
      rw [e2] at this
      exact .cons h0 hb2.2 (ih this)
  intro k
  induction k with
  | zero =>
    intro a M f F he hbM hM hf hF hj hc hp
    cases he
    refine ⟨M, -1, halt _ _ _ (by omega), .inl rfl, Nat.le_refl _, hM, by rw [row_nil] <;> rfl, fun p hp => ?_⟩
    have := hc p hp
    omega
  | succ k ih =>
    intro a M f F he hbM hM hf hF hj hc hp
    have he0 := he
    cases he with
    | cons h0 h1 t =>
      by_cases c : a < b
      · refine ⟨M, a, halt _ _ _ (by omega), .inr ⟨h0, c⟩, Nat.le_refl _, hM, ?_, fun p hp => ?_⟩
        · refine add_in _ _ fun x hx => ?_
          have := (row_of (low _ _ he0 (.inr ⟨h0, c⟩)) hF).2 x hx
          exact rng_mem.mpr ⟨this.1, by omega⟩
        · have := hc p hp
          omega
      · obtain ⟨G, rfl⟩ : ∃ G, F = G + 1 := ⟨F - 1, by omega⟩
        have hne : a ≠ -1 := by omega
        have nin : a ∉ rng M := by
          intro q
          have q2 := rng_mem.mp q
          obtain ⟨j, hj1, hj2⟩ := hj a.toNat (by omega) (by omega)
          rw [show ((a.toNat : Nat) : Int) = a by omega] at hj2
          have := he0.one hj2
          omega
        rw [row_drop hne, add_cons nin] at hp ⊢
        obtain ⟨r, er⟩ := hp
        obtain ⟨r2, er2⟩ := add_pre (rowM u G (uAt u a)).dropLast (rng M ++ [a])
        have er3 := er
        rw [er2, List.append_assoc] at er3
        obtain ⟨g1, g2⟩ := rng_pre er3
        rw [List.length_append, rng_len] at g1 g2
        have g2' : M + 1 ≤ u.length := g2
        have ea : a = M := by
          have g1' : rng M ++ [a] = rng (M + 1) := g1
          rw [rng_succ] at g1'
          exact (List.cons.inj (List.append_cancel_left g1')).1
        subst ea
        rw [← rng_succ] at er ⊢
        obtain ⟨f2, rfl⟩ : ∃ f2, f = f2 + 1 := ⟨f - 1, by omega⟩
        have step : runM u (f2 + 1) M (M : Int) = runM u f2 (M + 1) (uAt u M) := by
          show (if (M : Int) = M ∧ M < u.length then _ else _) = _
          rw [if_pos ⟨rfl, by omega⟩]
        rw [step]
        have hj' : ∀ p : Nat, b ≤ p → p < M + 1 → ∃ j, k < j ∧ Ends u u.length j p := fun p hp1 hp2 => by
          by_cases q : p = M
          · rw [q]; exact ⟨k + 1, by omega, he0⟩
          · obtain ⟨j, hj1, hj2⟩ := hj p hp1 (by omega)
            exact ⟨j, by omega, hj2⟩
        have hc' : ∀ p : Nat, p < M + 1 → uAt u p = -1 ∨ 0 ≤ uAt u p ∧ uAt u p < ((M + 1 : Nat) : Int) ∨ uAt u p = uAt u M := fun p hp => by
          by_cases q : p = M
          · rw [q]; exact .inr (.inr rfl)
          · have := hc p (by omega)
            omega
        obtain ⟨m', a', q1, q2, q3, q4, q5, q6⟩ := ih (uAt u M) (M + 1) f2 G t (by omega) g2' (by omega) (by omega) hj' hc' ⟨r, er⟩
        exact ⟨m', a', q1, q2, by omega, q4, q5, q6⟩
theorem go_back (hr : inR u) : ∀ (ts : List Int) (m : Nat), rightGo u (rng m) ts = some (rng u.length) → m ≤ u.length → (∀ p : Nat, p < m → uAt u p = -1 ∨ 0 ≤ uAt u p ∧ uAt u p < m) → numGo u m ts = some u.length
  | [], m, h, hm, cl => by
    have e : rng m = rng u.length := Option.some.inj h
    have e2 := congrArg List.length e
    rw [rng_len, rng_len] at e2
    show some m = some u.length
    rw [e2]
  | t :: ts, m, h, hm, cl => by
    have h' : (if t < -1 ∨ t ≥ u.length then none else if (rowM u u.length t).getLast? ≠ some (-1) then none else rightGo u (addM (rng m) (rowM u u.length t).dropLast) ts) = some (rng u.length) := h
    by_cases c1 : t < -1 ∨ t ≥ u.length
    · rw [if_pos c1] at h'; cases h'
    rw [if_neg c1] at h'
    by_cases c2 : (rowM u u.length t).getLast? ≠ some (-1)
    · rw [if_pos c2] at h'; cases h'
    rw [if_neg c2] at h'
    have c2' : (rowM u u.length t).getLast? = some (-1) := Classical.not_not.mp c2
    obtain ⟨k, hk, he⟩ := ends_of hr u.length t (by omega) (by omega) c2'
    have hp : ∃ r, rng u.length = addM (rng m) (rowM u u.length t).dropLast ++ r := go_pre ts _ _ h'
    obtain ⟨m', a', q1, q2, q3, q4, q5, q6⟩ := run_back hr cl (n' := 0) k t m (u.length - m) u.length he (Nat.le_refl _) hm (Nat.le_refl _) hk (fun p h1 h2 => by omega) (fun p hp => (cl p hp).elim .inl fun q => .inr (.inl q)) hp
    rw [q5] at h'
    have ih := go_back hr ts m' h' q4 q6
    show (if (runM u (u.length - m) m t).2 ≠ -1 ∧ ¬ (0 ≤ (runM u (u.length - m) m t).2 ∧ (runM u (u.length - m) m t).2 < m) then none else numGo u (runM u (u.length - m) m t).1 ts) = _
    rw [q1, if_neg (by show ¬ (a' ≠ -1 ∧ ¬ (0 ≤ a' ∧ a' < m)); omega)]
    exact ih
where
  go_pre : ∀ (ts : List Int) (o e : List Int), rightGo u o ts = some e → ∃ r, e = o ++ r
    | [], o, e, h => ⟨[], by rw [List.append_nil]; exact (Option.some.inj h).symm⟩
    | t :: ts, o, e, h => by
      have h' : (if t < -1 ∨ t ≥ u.length then none else if (rowM u u.length t).getLast? ≠ some (-1) then none else rightGo u (addM o (rowM u u.length t).dropLast) ts) = some e := h
      by_cases c1 : t < -1 ∨ t ≥ u.length
      · rw [if_pos c1] at h'; cases h'
      rw [if_neg c1] at h'
      by_cases c2 : (rowM u u.length t).getLast? ≠ some (-1)
      · rw [if_pos c2] at h'; cases h'
      rw [if_neg c2] at h'
      obtain ⟨r, e1⟩ := go_pre ts _ _ h'
      obtain ⟨r2, e2⟩ := add_pre (rowM u u.length t).dropLast o
      exact ⟨r2 ++ r, by rw [e1, e2, List.append_assoc]⟩
theorem right_yes {tops : List Int} (hr : inR u) (h : rightGo u [] tops = some (rng u.length)) : numdM u tops = true := by
  unfold numdM
  have h0 : rightGo u (rng 0) tops = some (rng u.length) := h
  rw [go_back hr tops 0 h0 (Nat.zero_le _) (fun p h => absurd h (Nat.not_lt_zero _))]
  exact decide_eq_true rfl
end

/-! ### a dict walked by its keys, locked -/
section
open PySem PySem.Spec PyProof.Rows L2 Wp
variable {σ : L2.St} {H : Hp} {Q : VK} {te ta : TE} {K : PySem.W.Frag}
theorem lock_ {t : TE} {d : Addr} {kvs : List (Key × V)} (h : H d = some (.dK kvs)) (q : ∀ od, t σ (upd H d (.frz od (.dK kvs))) fun v H' => H' d = some (.frz od (.dK kvs)) ∧ Q v (upd H' d (.dK kvs))) : tLockE t σ H Q := ⟨d, _, h, trivial, q⟩
theorem lcK {g : TG} {tt : TT} {vs : List Nat} (h : ta σ H fun x H1 => ∃ d o, x = .ref d ∧ ((∃ kvs, H1 d = some (.frz o (.dK kvs)) ∧ ∀ D, H1 D = none → LoopC (Itk d o kvs) g tt te vs σ D (fun H => Q (.ref D) H) (upd H1 D (.lst []))) ∨
    ∃ kvs, H1 d = some (.frz o (.dT kvs)) ∧ ∀ D, H1 D = none → LoopC (Itkt d o kvs) g tt te vs σ D (fun H => Q (.ref D) H) (upd H1 D (.lst [])))) : tLc (iKeys ta) g tt te vs σ H Q := h
theorem loopCK {d : Addr} {o : Obj} {kvs : List (Key × V)} {g : TG} {tt : TT} {vs : List Nat} {D : Addr} {Qd : Hp → Prop} (Pv : Nat → Hp → Prop) (h0 : Pv 0 H) (hl : ∀ i H, i ≤ kvs.length → Pv i H → H d = some (.frz o (.dK kvs)))
    (hs : ∀ i k v H, kvs[i]? = some (k, v) → Pv i H → g (kV k) (wipe σ vs) H fun σ2 H2 => wipe σ2 vs = wipe σ vs ∧ tt σ2 H2 fun b H3 =>
      if b = true then te σ2 H3 fun y H4 => ∃ acc, H4 D = some (.lst acc) ∧ acc.length < sizeLine ∧ Pv (i + 1) (upd H4 D (.lst (acc ++ [y]))) else Pv (i + 1) H3) (hd : ∀ H, Pv kvs.length H → Qd H) : LoopC (Itk d o kvs) g tt te vs σ D Qd H := by
  refine ⟨fun i m H => m = kvs.length - i ∧ i ≤ kvs.length ∧ Pv i H, ⟨kvs.length, by simp, Nat.zero_le _, h0⟩, ?_⟩
  rintro i m H ⟨rfl, hi, p⟩
  have q := hl i H hi p
  by_cases hlt : i < kvs.length
  · refine .inr ⟨⟨q, hlt⟩, Pv (i + 1), fun H' p' => ⟨kvs.length - (i + 1), by omega, rfl, hlt, p'⟩, fun x H' y => ?_⟩
    obtain ⟨e, k, v, ek, ex⟩ := y
    subst e
    subst ex
    exact hs i k v _ ek p
  · have e : i = kvs.length := by omega
    subst e
    exact .inl ⟨⟨q, Nat.le_refl _⟩, hd H p⟩
end
end Wx

/-! The tight paper: a mirror over beginnings. -/
namespace Wg
open PySem PySem.Spec PyProof.Rows L2 Wp Wq Wr Wk
/-! ### where piles are cut -/
section
variable {st : List W → Bool} {s : Nat} {p q : List W}
def E (st : List W → Bool) (s : Nat) (p : List W) : Nat → List Nat
  | 0 => [0]
  | h + 1 => if st (p.take (h + 1)) = true ∨ h + 1 - (E st s p h).getLastD 0 = s then E st s p h ++ [h + 1] else E st s p h
theorem E_take : ∀ (h m : Nat), h ≤ m → E st s (p.take m) h = E st s p h
  | 0, _, _ => rfl
  | h + 1, m, hm => by
    unfold E
    rw [E_take h m (by omega), List.take_take, Nat.min_eq_left hm]
theorem E_succ (h : Nat) : E st s p (h + 1) = E st s p h ++ [h + 1] ∨ E st s p (h + 1) = E st s p h := by
  show (if _ then _ else _) = _ ∨ (if _ then _ else _) = _
  split
  · exact .inl rfl
  · exact .inr rfl
theorem E_pre : ∀ {h m : Nat}, h ≤ m → E st s p h <+: E st s p m
  | h, 0, hm => by
    obtain rfl : h = 0 := by omega
    exact List.prefix_refl _
  | h, m + 1, hm => by
    by_cases e : h = m + 1
    · subst e; exact List.prefix_refl _
    · have ih := E_pre (h := h) (m := m) (by omega)
      rcases E_succ (st := st) (s := s) (p := p) m with e | e
      · rw [e]; exact ih.trans (List.prefix_append _ _)
      · rw [e]; exact ih
theorem E_ne (h : Nat) : E st s p h ≠ [] := by
  have := (E_pre (st := st) (s := s) (p := p) (Nat.zero_le h)).length_le
  intro e
  rw [e] at this
  simp [E] at this
/-- rising, ending at most at h -/
theorem E_rise : ∀ (h : Nat), (E st s p h).Pairwise (· < ·) ∧ ∀ x ∈ E st s p h, x ≤ h
  | 0 => by
    refine ⟨?_, fun x hx => ?_⟩
    · show List.Pairwise _ [0]
      simp
    · have : x = 0 := by simpa [E] using hx
      omega
  | h + 1 => by
    have ih := E_rise h
    rcases E_succ (st := st) (s := s) (p := p) h with e | e
    · rw [e]
      refine ⟨List.pairwise_append.mpr ⟨ih.1, by simp, fun a ha b hb => ?_⟩, fun x hx => ?_⟩
      · have := ih.2 a ha
        rw [List.mem_singleton.mp hb]
        omega
      · rcases List.mem_append.mp hx with hx | hx
        · have := ih.2 x hx; omega
        · rw [List.mem_singleton.mp hx]; exact Nat.le_refl _
    · rw [e]
      exact ⟨ih.1, fun x hx => by have := ih.2 x hx; omega⟩
theorem getD_app1 {l r : List Nat} {k d : Nat} (h : k < l.length) : (l ++ r).getD k d = l.getD k d := by
  rw [List.getD_eq_getElem?_getD, List.getD_eq_getElem?_getD, List.getElem?_append_left h]
theorem getD_app2 {l r : List Nat} {k d : Nat} (h : l.length ≤ k) : (l ++ r).getD k d = r.getD (k - l.length) d := by
  rw [List.getD_eq_getElem?_getD, List.getD_eq_getElem?_getD, List.getElem?_append_right h]
theorem last_mem {l : List Nat} (h : l ≠ []) : l.getLastD 0 ∈ l := by
  rw [List.getLastD_eq_getLast?, List.getLast?_eq_some_getLast h]
  exact List.getLast_mem h
/-- steps of at most s -/
theorem E_step (hs : 1 ≤ s) : ∀ (h : Nat), h - (E st s p h).getLastD 0 < s ∧ ∀ k, k + 1 < (E st s p h).length → (E st s p h).getD (k + 1) 0 - (E st s p h).getD k 0 ≤ s
  | 0 => by
    refine ⟨?_, fun k hk => ?_⟩
    · show 0 - 0 < s
      omega
    · simp [E] at hk
  | h + 1 => by
    have ih := E_step hs h
    have rise := E_rise (st := st) (s := s) (p := p) h
    have ne := E_ne (st := st) (s := s) (p := p) h
    have lm := rise.2 _ (last_mem ne)
    by_cases c : st (p.take (h + 1)) = true ∨ h + 1 - (E st s p h).getLastD 0 = s
    · have e : E st s p (h + 1) = E st s p h ++ [h + 1] := if_pos c
      rw [e]
      refine ⟨by simp; omega, fun k hk => ?_⟩
      rw [List.length_append, List.length_singleton] at hk
      by_cases ck : k + 1 < (E st s p h).length
      · rw [getD_app1 ck, getD_app1 (by omega)]
        exact ih.2 k ck
      · have e1 : k + 1 = (E st s p h).length := by omega
        rw [getD_app1 (show k < (E st s p h).length by omega), getD_app2 (by omega), e1, Nat.sub_self]
        have e2 : (E st s p h).getD k 0 = (E st s p h).getLastD 0 := by
          rw [List.getLastD_eq_getLast?, List.getLast?_eq_getElem?, List.getD_eq_getElem?_getD, ← e1]
          rfl
        rw [e2]
        show h + 1 - _ ≤ s
        omega
    · have e : E st s p (h + 1) = E st s p h := if_neg c
      rw [e]
      refine ⟨?_, ih.2⟩
      have : h + 1 - (E st s p h).getLastD 0 ≠ s := fun q => c (.inr q)
      omega
/-! ### cuts -/
def es (st : List W → Bool) (s : Nat) (p : List W) : List Nat := E st s p p.length
def hi (st : List W → Bool) (s : Nat) (p : List W) (k : Nat) : Nat := (es st s p).getD k 0
def cut (st : List W → Bool) (s : Nat) (p : List W) (k : Nat) : List W := p.take (hi st s p k)
def top (st : List W → Bool) (s : Nat) (p : List W) : Nat := (es st s p).length - 1
theorem es_ne : es st s p ≠ [] := E_ne _
theorem es_len : (es st s p).length = top st s p + 1 := by
  have := List.length_pos_iff.mpr (es_ne (st := st) (s := s) (p := p))
  unfold top
  omega
theorem hi_zero : hi st s p 0 = 0 := by
  have h := E_pre (st := st) (s := s) (p := p) (Nat.zero_le p.length)
  obtain ⟨r, hr⟩ := h
  unfold hi es
  rw [← hr]
  rfl
theorem hi_mem {k : Nat} (hk : k ≤ top st s p) : hi st s p k ∈ es st s p := by
  have h : k < (es st s p).length := by rw [es_len]; omega
  unfold hi
  rw [List.getD_eq_getElem?_getD, List.getElem?_eq_getElem h]
  exact List.getElem_mem h
theorem hi_le {k : Nat} (hk : k ≤ top st s p) : hi st s p k ≤ p.length := (E_rise p.length).2 _ (hi_mem hk)
theorem hi_lt {j k : Nat} (hj : j < k) (hk : k ≤ top st s p) : hi st s p j < hi st s p k := by
  have h : k < (es st s p).length := by rw [es_len]; omega
  have h2 : j < (es st s p).length := by omega
  have r := List.pairwise_iff_getElem.mp (show (es st s p).Pairwise (· < ·) from (E_rise (st := st) (s := s) (p := p) p.length).1) j k h2 h hj
  unfold hi
  rw [List.getD_eq_getElem?_getD, List.getD_eq_getElem?_getD, List.getElem?_eq_getElem h, List.getElem?_eq_getElem (show j < (es st s p).length by omega)]
  exact r
theorem cut_zero : cut st s p 0 = [] := by
  unfold cut
  rw [hi_zero, List.take_zero]
theorem cut_len {k : Nat} (hk : k ≤ top st s p) : (cut st s p k).length = hi st s p k := by
  unfold cut
  rw [List.length_take, Nat.min_eq_left (hi_le hk)]
theorem cut_ne {k : Nat} (h1 : 1 ≤ k) (hk : k ≤ top st s p) : cut st s p k ≠ [] := by
  intro e
  have l := cut_len hk
  rw [e] at l
  have := hi_lt (show 0 < k by omega) hk
  rw [hi_zero] at this
  simp at l
  omega
theorem cut_inj {j k : Nat} (hj : j ≤ top st s p) (hk : k ≤ top st s p) (e : cut st s p j = cut st s p k) : j = k := by
  have l := congrArg List.length e
  rw [cut_len hj, cut_len hk] at l
  by_cases c : j < k
  · have := hi_lt c hk; omega
  · by_cases c2 : k < j
    · have := hi_lt c2 hj; omega
    · omega
/-- a cut's own edges -/
theorem E_at : ∀ {h : Nat} {k : Nat}, k < (E st s p h).length → E st s p ((E st s p h).getD k 0) = (E st s p h).take (k + 1)
  | 0, k, hk => by
    have : k = 0 := by simp [E] at hk; omega
    subst this
    rfl
  | h + 1, k, hk => by
    rcases E_succ (st := st) (s := s) (p := p) h with e | e
    · rw [e] at hk ⊢
      rw [List.length_append, List.length_singleton] at hk
      by_cases c : k < (E st s p h).length
      · rw [getD_app1 c, E_at c, List.take_append_of_le_length (by omega)]
      · have e1 : k = (E st s p h).length := by omega
        rw [getD_app2 (by omega), e1, Nat.sub_self]
        show E st s p (h + 1) = _
        rw [e, List.take_of_length_le (by rw [List.length_append, List.length_singleton]; omega)]
    · rw [e] at hk ⊢
      exact E_at hk
theorem es_cut {k : Nat} (hk : k ≤ top st s p) : es st s (cut st s p k) = (es st s p).take (k + 1) := by
  unfold es
  rw [cut_len hk]
  unfold cut
  rw [E_take _ _ (Nat.le_refl _)]
  exact E_at (by have := es_len (st := st) (s := s) (p := p); unfold es at this; omega)
theorem top_cut {k : Nat} (hk : k ≤ top st s p) : top st s (cut st s p k) = k := by
  unfold top
  rw [es_cut hk, List.length_take, es_len]
  omega
theorem cut_cut {j k : Nat} (hj : j ≤ k) (hk : k ≤ top st s p) : cut st s (cut st s p k) j = cut st s p j := by
  have e : hi st s (cut st s p k) j = hi st s p j := by
    unfold hi
    rw [es_cut hk, List.getD_eq_getElem?_getD, List.getD_eq_getElem?_getD, List.getElem?_take_of_lt (by omega)]
  have l : hi st s p j ≤ hi st s p k := by
    by_cases c : j = k
    · subst c; exact Nat.le_refl _
    · exact Nat.le_of_lt (hi_lt (by omega) hk)
  show (cut st s p k).take (hi st s (cut st s p k) j) = _
  rw [e]
  unfold cut
  rw [List.take_take, Nat.min_eq_left l]
/-! ### laying -/
def place (L : List (List W)) (q : List W) : Int := if q = [] then -1 else (L.idxOf q : Int)
def lowOf (st : List W → Bool) (s : Nat) (q : List W) : List W := cut st s q (top st s q - 1)
def pieceOf (st : List W → Bool) (s : Nat) (L : List (List W)) (q : List W) : Pc := (place L (lowOf st s q), q.drop (lowOf st s q).length)
/-- q ends at a cut -/
def IsCut (st : List W → Bool) (s : Nat) (q : List W) : Prop := q ≠ [] ∧ cut st s q (top st s q) = q ∧ 1 ≤ top st s q
theorem low_cut {k : Nat} (hk : k ≤ top st s p) : lowOf st s (cut st s p k) = cut st s p (k - 1) := by
  unfold lowOf
  rw [top_cut hk, cut_cut (by omega) hk]
theorem cut_isCut {k : Nat} (h1 : 1 ≤ k) (hk : k ≤ top st s p) : IsCut st s (cut st s p k) := by
  refine ⟨cut_ne h1 hk, ?_, by rw [top_cut hk]; exact h1⟩
  rw [top_cut hk, cut_cut (Nat.le_refl _) hk]
structure LOk (st : List W → Bool) (s : Nat) (L : List (List W)) : Prop where
  nd : L.Nodup
  ic : ∀ q ∈ L, IsCut st s q
  cl : ∀ q ∈ L, lowOf st s q = [] ∨ lowOf st s q ∈ L
theorem LOk.nil : LOk st s [] := ⟨List.nodup_nil, (fun _ h => nomatch h), (fun _ h => nomatch h)⟩
theorem LOk.down {L : List (List W)} (h : LOk st s L) {k : Nat} (h1 : 2 ≤ k) (hk : k ≤ top st s p) (m : cut st s p k ∈ L) : cut st s p (k - 1) ∈ L := by
  rcases h.cl _ m with e | e
  · rw [low_cut hk] at e
    exact absurd e (cut_ne (by omega) (by omega))
  · rw [low_cut hk] at e
    exact e
/-- how many cuts are there already -/
theorem known {L : List (List W)} (h : LOk st s L) : ∀ n, n ≤ top st s p → ∃ k0, k0 ≤ n ∧ ∀ k, 1 ≤ k → k ≤ n → (cut st s p k ∈ L ↔ k ≤ k0)
  | 0, _ => ⟨0, Nat.le_refl _, fun k h1 h2 => by omega⟩
  | n + 1, hn => by
    by_cases c : cut st s p (n + 1) ∈ L
    · refine ⟨n + 1, Nat.le_refl _, fun k h1 h2 => ⟨fun _ => h2, fun _ => ?_⟩⟩
      have go : ∀ d, d ≤ n → cut st s p (n + 1 - d) ∈ L := by
        intro d
        induction d with
        | zero => intro _; exact c
        | succ d ih =>
          intro hd
          have := h.down (show 2 ≤ n + 1 - d by omega) (by omega) (ih (by omega))
          rw [show n + 1 - d - 1 = n + 1 - (d + 1) by omega] at this
          exact this
      have := go (n + 1 - k) (by omega)
      rw [show n + 1 - (n + 1 - k) = k by omega] at this
      exact this
    · obtain ⟨k0, h0, hk⟩ := known h n (by omega)
      refine ⟨k0, by omega, fun k h1 h2 => ?_⟩
      by_cases e : k = n + 1
      · subst e
        exact ⟨fun m => absurd m c, fun q => by omega⟩
      · exact hk k h1 (by omega)
def freshK (st : List W → Bool) (s : Nat) (L : List (List W)) (p : List W) : List Nat :=
  ((List.range (top st s p)).map fun i => top st s p - i).filter fun k => decide (cut st s p k ∉ L)
theorem fresh_eq {L : List (List W)} {k0 : Nat} (h0 : k0 ≤ top st s p) (hk : ∀ k, 1 ≤ k → k ≤ top st s p → (cut st s p k ∈ L ↔ k ≤ k0)) :
    freshK st s L p = (List.range (top st s p - k0)).map fun i => top st s p - i := by
  unfold freshK
  have e : List.range (top st s p) = List.range (top st s p - k0) ++ (List.range k0).map (top st s p - k0 + ·) := by
    rw [← List.range_add, Nat.sub_add_cancel h0]
  rw [e, List.map_append, List.filter_append]
  have a1 : ((List.range (top st s p - k0)).map fun i => top st s p - i).filter (fun k => decide (cut st s p k ∉ L)) = (List.range (top st s p - k0)).map fun i => top st s p - i := by
    rw [List.filter_eq_self]
    intro k hm
    obtain ⟨i, hi, rfl⟩ := List.mem_map.mp hm
    have hi := List.mem_range.mp hi
    rw [decide_eq_true_eq, hk _ (by omega) (by omega)]
    omega
  have a2 : (((List.range k0).map (top st s p - k0 + ·)).map fun i => top st s p - i).filter (fun k => decide (cut st s p k ∉ L)) = [] := by
    rw [List.filter_eq_nil_iff]
    intro k hm
    obtain ⟨j, hj, rfl⟩ := List.mem_map.mp hm
    obtain ⟨i, hi, rfl⟩ := List.mem_map.mp hj
    have hi := List.mem_range.mp hi
    rw [decide_eq_true_eq, hk _ (by omega) (by omega)]
    omega
  rw [a1, a2, List.append_nil]
def layL (st : List W → Bool) (s : Nat) (L : List (List W)) (p : List W) : List (List W) := L ++ (freshK st s L p).map (cut st s p)
end
end Wg

/-! The tight paper: right, and open to its piles. -/
namespace Wg
open PySem PySem.Spec PyProof.Rows L2 Wp Wq Wr Wk Wo
section
variable {st : List W → Bool} {s : Nat} {p q : List W} {L M : List (List W)}
theorem lay_eq {k0 : Nat} (h0 : k0 ≤ top st s p) (hk : ∀ k, 1 ≤ k → k ≤ top st s p → (cut st s p k ∈ L ↔ k ≤ k0)) :
    layL st s L p = L ++ (List.range (top st s p - k0)).map fun i => cut st s p (top st s p - i) := by
  unfold layL
  rw [fresh_eq h0 hk, List.map_map]
  rfl
theorem mem_lay (h : LOk st s L) : q ∈ layL st s L p ↔ q ∈ L ∨ ∃ k, 1 ≤ k ∧ k ≤ top st s p ∧ q = cut st s p k := by
  obtain ⟨k0, h0, hk⟩ := known (p := p) h _ (Nat.le_refl _)
  rw [lay_eq h0 hk, List.mem_append, List.mem_map]
  constructor
  · rintro (m | ⟨i, hi, rfl⟩)
    · exact .inl m
    · have := List.mem_range.mp hi
      exact .inr ⟨_, by omega, by omega, rfl⟩
  · rintro (m | ⟨k, h1, h2, rfl⟩)
    · exact .inl m
    · by_cases c : k ≤ k0
      · exact .inl ((hk k h1 h2).mpr c)
      · exact .inr ⟨top st s p - k, List.mem_range.mpr (by omega), by rw [show top st s p - (top st s p - k) = k by omega]⟩
theorem lay_ok (h : LOk st s L) (p : List W) : LOk st s (layL st s L p) := by
  obtain ⟨k0, h0, hk⟩ := known (p := p) h _ (Nat.le_refl _)
  refine ⟨?_, fun q hq => ?_, fun q hq => ?_⟩
  · rw [lay_eq h0 hk, List.nodup_append]
    refine ⟨h.nd, ?_, fun a ha b hb e => ?_⟩
    · rw [List.nodup_iff_pairwise_ne, List.pairwise_map]
      refine List.Pairwise.imp_of_mem (fun {i j} hi hj hij e => ?_) (List.pairwise_lt_range)
      have hi := List.mem_range.mp hi
      have hj := List.mem_range.mp hj
      have := cut_inj (by omega) (by omega) e
      omega
    · obtain ⟨i, hi, rfl⟩ := List.mem_map.mp hb
      have hi := List.mem_range.mp hi
      rw [e] at ha
      have := (hk _ (by omega) (by omega)).mp ha
      omega
  · rcases (mem_lay h).mp hq with m | ⟨k, h1, h2, rfl⟩
    · exact h.ic q m
    · exact cut_isCut h1 h2
  · rcases (mem_lay h).mp hq with m | ⟨k, h1, h2, rfl⟩
    · exact (h.cl q m).imp id fun m => (mem_lay h).mpr (.inl m)
    · rw [low_cut h2]
      by_cases c : k = 1
      · left
        rw [c]
        exact cut_zero
      · right
        exact (mem_lay h).mpr (.inr ⟨k - 1, by omega, by omega, rfl⟩)
def tightL (st : List W → Bool) (s : Nat) (Ps : List (List W)) (L : List (List W)) : List (List W) := Ps.foldl (layL st s) L
theorem tight_ok : ∀ {Ps L : List (List W)}, LOk st s L → LOk st s (tightL st s Ps L)
  | [], _, h => h
  | p :: Ps, _, h => tight_ok (Ps := Ps) (lay_ok h p)
theorem lay_pre : L <+: layL st s L p := List.prefix_append _ _
theorem tight_pre : ∀ {Ps L : List (List W)}, L <+: tightL st s Ps L
  | [], _ => List.prefix_refl _
  | p :: Ps, L => (lay_pre (p := p)).trans (tight_pre (Ps := Ps))
/-! ### places -/
theorem place_nil : place L [] = -1 := if_pos rfl
theorem place_mem (h : q ≠ []) : place L q = (L.idxOf q : Int) := if_neg h
theorem place_pre (hp : L <+: M) (h : q = [] ∨ q ∈ L) : place M q = place L q := by
  obtain ⟨r, rfl⟩ := hp
  by_cases c : q = []
  · rw [c, place_nil, place_nil]
  · rw [place_mem c, place_mem c, List.idxOf_append, if_pos (h.resolve_left c)]
theorem place_lt (h : q = [] ∨ q ∈ L) : -1 ≤ place L q ∧ place L q < L.length := by
  by_cases c : q = []
  · rw [c, place_nil]; omega
  · rw [place_mem c]
    have := List.idxOf_lt_length_of_mem (h.resolve_left c)
    omega
theorem place_ge (c : q ≠ []) : 0 ≤ place L q := by rw [place_mem c]; omega
theorem place_get (c : q ≠ []) (h : q ∈ L) : L[(place L q).toNat]? = some q := by
  rw [place_mem c, Int.toNat_natCast, List.getElem?_eq_getElem (List.idxOf_lt_length_of_mem h), List.getElem_idxOf]
theorem place_at {i : Nat} (nd : L.Nodup) (h : L[i]? = some q) (c : q ≠ []) : place L q = (i : Int) := by
  rw [place_mem c]
  obtain ⟨hi, e⟩ := List.getElem?_eq_some_iff.mp h
  have := nd.idxOf_getElem i hi
  rw [e] at this
  rw [this]
/-! ### the pieces -/
def piecesOf (st : List W → Bool) (s : Nat) (L : List (List W)) : List Pc := L.map (pieceOf st s L)
theorem piece_pre (h : LOk st s L) (hp : L <+: M) (m : q ∈ L) : pieceOf st s M q = pieceOf st s L q := by
  unfold pieceOf
  rw [place_pre hp (h.cl q m)]
def newPc (st : List W → Bool) (s : Nat) (L : List (List W)) (p : List W) (k : Nat) : Pc := (place L (cut st s p (k - 1)), (p.drop (hi st s p (k - 1))).take (hi st s p k - hi st s p (k - 1)))
theorem piece_cut {k : Nat} (h1 : 1 ≤ k) (hk : k ≤ top st s p) : pieceOf st s M (cut st s p k) = newPc st s M p k := by
  unfold pieceOf newPc
  rw [low_cut hk, cut_len (by omega)]
  congr 1
  unfold cut
  rw [List.drop_take]
theorem pieces_lay (h : LOk st s L) : piecesOf st s (layL st s L p) = piecesOf st s L ++ (freshK st s L p).map (newPc st s (layL st s L p) p) := by
  obtain ⟨k0, h0, hk⟩ := known (p := p) h _ (Nat.le_refl _)
  unfold piecesOf
  have e : layL st s L p = L ++ (freshK st s L p).map (cut st s p) := rfl
  generalize hM : layL st s L p = M at *
  conv => lhs; arg 2; rw [e]
  rw [List.map_append]
  congr 1
  · exact List.map_congr_left fun q hq => piece_pre h (by rw [e]; exact List.prefix_append _ _) hq
  · rw [List.map_map, fresh_eq h0 hk, List.map_map, List.map_map]
    refine List.map_congr_left fun i hi => ?_
    have := List.mem_range.mp hi
    exact piece_cut (k := top st s p - i) (by omega) (by omega)
theorem low_pre (h : IsCut st s q) : ∃ r, lowOf st s q ++ r = q ∧ q.drop (lowOf st s q).length = r ∧ 1 ≤ r.length ∧ (1 ≤ s → r.length ≤ s) := by
  obtain ⟨hn, hc, h1⟩ := h
  have hl : (lowOf st s q).length = hi st s q (top st s q - 1) := cut_len (by omega)
  have e : lowOf st s q = q.take (hi st s q (top st s q - 1)) := rfl
  have ht : hi st s q (top st s q) = q.length := by
    rw [← cut_len (Nat.le_refl _), hc]
  have hlt := hi_lt (show top st s q - 1 < top st s q by omega) (Nat.le_refl (top st s q))
  refine ⟨q.drop (hi st s q (top st s q - 1)), by rw [e, List.take_append_drop], by rw [hl], ?_, fun hs => ?_⟩
  · rw [List.length_drop]; omega
  · rw [List.length_drop]
    have stp := (E_step (st := st) (s := s) (p := q) hs q.length).2 (top st s q - 1) (by have := es_len (st := st) (s := s) (p := q); unfold es at this; omega)
    rw [show top st s q - 1 + 1 = top st s q by omega] at stp
    have s2 : hi st s q (top st s q) - hi st s q (top st s q - 1) ≤ s := stp
    omega
theorem down_all (h : LOk st s L) (m : q ∈ L) : ∀ k, 1 ≤ k → k ≤ top st s q → cut st s q k ∈ L := by
  have hc := (h.ic q m).2.1
  have go : ∀ d, d < top st s q → cut st s q (top st s q - d) ∈ L := by
    intro d
    induction d with
    | zero => intro _; rw [Nat.sub_zero, hc]; exact m
    | succ d ih =>
      intro hd
      have := h.down (show 2 ≤ top st s q - d by omega) (by omega) (ih (by omega))
      rw [show top st s q - d - 1 = top st s q - (d + 1) by omega] at this
      exact this
  intro k h1 h2
  have := go (top st s q - k) (by omega)
  rw [show top st s q - (top st s q - k) = k by omega] at this
  exact this
theorem opens_cut (h : LOk st s L) (m : q ∈ L) : ∀ k, k ≤ top st s q → OpensN (piecesOf st s L) k (place L (cut st s q k)) (cut st s q k)
  | 0, _ => by
    rw [cut_zero, place_nil]
    exact .nil
  | k + 1, hk => by
    have ih := opens_cut h m k (by omega)
    have mc := down_all h m (k + 1) (by omega) hk
    have ic := h.ic _ mc
    obtain ⟨r, e1, e2, _⟩ := low_pre ic
    have el : lowOf st s (cut st s q (k + 1)) = cut st s q k := low_cut hk
    have hg : (piecesOf st s L)[(place L (cut st s q (k + 1))).toNat]? = some (pieceOf st s L (cut st s q (k + 1))) := by
      unfold piecesOf
      rw [List.getElem?_map, place_get ic.1 mc]
      rfl
    unfold pieceOf at hg
    rw [e2, el] at hg
    rw [el] at e1
    have := OpensN.cons hg (place_ge ic.1) ih
    rw [e1] at this
    exact this
theorem opens (h : LOk st s L) (m : q = [] ∨ q ∈ L) : ∃ n, n ≤ q.length ∧ OpensN (piecesOf st s L) n (place L q) q := by
  by_cases c : q = []
  · subst c
    refine ⟨0, Nat.le_refl _, ?_⟩
    rw [place_nil]
    exact .nil
  · have m := m.resolve_left c
    have ho := opens_cut h m (top st s q) (Nat.le_refl _)
    rw [(h.ic q m).2.1] at ho
    refine ⟨_, ?_, ho⟩
    have := (E_rise (st := st) (s := s) (p := q) q.length).1
    have h2 : ∀ k, k ≤ top st s q → k ≤ hi st s q k := by
      intro k
      induction k with
      | zero => intro _; omega
      | succ k ih =>
        intro hk
        have := ih (by omega)
        have := hi_lt (show k < k + 1 by omega) hk
        omega
    exact Nat.le_trans (h2 _ (Nat.le_refl _)) (hi_le (Nat.le_refl _))
/-! ### numbered as they are come to -/
def undersOf (st : List W → Bool) (s : Nat) (L : List (List W)) : List Int := (piecesOf st s L).map (·.1)
theorem unders_len : (undersOf st s L).length = L.length := by unfold undersOf piecesOf; rw [List.length_map, List.length_map]
theorem unders_at {i : Nat} (hp : L <+: M) (h : LOk st s L) (e : L[i]? = some q) : Wx.uAt (undersOf st s M) (i : Int) = place L (lowOf st s q) := by
  obtain ⟨r, rfl⟩ := hp
  unfold Wx.uAt undersOf piecesOf
  have hi := (List.getElem?_eq_some_iff.mp e).1
  rw [Int.toNat_natCast, List.getD_eq_getElem?_getD, List.getElem?_map, List.getElem?_map, List.getElem?_append_left hi, e]
  show place _ _ = _
  exact place_pre (List.prefix_append _ _) (h.cl q (List.mem_of_getElem? e))
theorem full (h : st p = true) (hn : p ≠ []) : cut st s p (top st s p) = p ∧ 1 ≤ top st s p := by
  have hl : 1 ≤ p.length := List.length_pos_iff.mpr hn
  have e : es st s p = E st s p (p.length - 1) ++ [p.length] := by
    unfold es
    obtain ⟨n, hn⟩ : ∃ n, p.length = n + 1 := ⟨p.length - 1, by omega⟩
    rw [hn]
    show E st s p (n + 1) = E st s p (n + 1 - 1) ++ [n + 1]
    have : E st s p (n + 1) = E st s p n ++ [n + 1] := if_pos (.inl (by rw [← hn, List.take_length]; exact h))
    rw [this, Nat.add_sub_cancel]
  have hne := List.length_pos_iff.mpr (E_ne (st := st) (s := s) (p := p) (p.length - 1))
  have ht : top st s p = (E st s p (p.length - 1)).length := by
    unfold top
    rw [e, List.length_append, List.length_singleton, Nat.add_sub_cancel]
  refine ⟨?_, by omega⟩
  have : hi st s p (top st s p) = p.length := by
    unfold hi
    rw [e, ht, getD_app2 (Nat.le_refl _), Nat.sub_self]
    rfl
  unfold cut
  rw [this, List.take_length]
theorem run_stop {u : List Int} {f m : Nat} {a : Int} (h : a ≠ m) : Wx.runM u f m a = (m, a) := by
  cases f with
  | zero => rfl
  | succ f =>
    show (if a = m ∧ m < u.length then _ else _) = _
    rw [if_neg fun q => h q.1]
theorem run_go {u : List Int} {f m : Nat} (h : m < u.length) : Wx.runM u (f + 1) m m = Wx.runM u f (m + 1) (Wx.uAt u m) := by
  show (if (m : Int) = m ∧ m < u.length then _ else _) = _
  rw [if_pos ⟨rfl, h⟩]
theorem numbered : ∀ (Ps L : List (List W)), LOk st s L → (∀ p ∈ Ps, p ≠ [] → st p = true) → Wx.numGo (undersOf st s (tightL st s Ps L)) L.length (Ps.map (place (tightL st s Ps L))) = some (tightL st s Ps L).length
  | [], L, _, _ => rfl
  | p :: Ps, L, h, hst => by
    have h1 := lay_ok h p
    have hp1 : layL st s L p <+: tightL st s Ps (layL st s L p) := tight_pre
    have ih := numbered Ps (layL st s L p) h1 fun q hq => hst q (List.mem_cons_of_mem _ hq)
    have eF : tightL st s (p :: Ps) L = tightL st s Ps (layL st s L p) := rfl
    rw [eF]
    generalize tightL st s Ps (layL st s L p) = F at *
    rw [List.map_cons]
    obtain ⟨k0, h0, hk⟩ := known (p := p) h _ (Nat.le_refl _)
    have el := lay_eq h0 hk
    have ll : (layL st s L p).length = L.length + (top st s p - k0) := by rw [el, List.length_append, List.length_map, List.length_range]
    have lF := hp1.length_le
    have hu : (undersOf st s F).length = F.length := unders_len
    -- the way down
    have lowk : cut st s p k0 = [] ∨ cut st s p k0 ∈ L := by
      by_cases c : k0 = 0
      · left; rw [c]; exact cut_zero
      · right; exact (hk k0 (by omega) h0).mpr (Nat.le_refl _)
    have pl := place_lt lowk
    have at_ : ∀ i, i < top st s p - k0 → (layL st s L p)[L.length + i]? = some (cut st s p (top st s p - i)) := by
      intro i hi
      rw [el, List.getElem?_append_right (by omega), Nat.add_sub_cancel_left, List.getElem?_map, List.getElem?_range hi]
      rfl
    have down : ∀ (j i fuel : Nat), i + j = top st s p - k0 → j ≤ fuel → Wx.runM (undersOf st s F) fuel (L.length + i) (if i < top st s p - k0 then ((L.length + i : Nat) : Int) else place L (cut st s p k0)) = (L.length + (top st s p - k0), place L (cut st s p k0)) := by
      intro j
      induction j with
      | zero =>
        intro i fuel hi _
        rw [if_neg (by omega), run_stop (by omega), show L.length + i = L.length + (top st s p - k0) by omega]
      | succ j ihj =>
        intro i fuel hi hf
        rw [if_pos (by omega)]
        obtain ⟨f', rfl⟩ : ∃ f', fuel = f' + 1 := ⟨fuel - 1, by omega⟩
        rw [run_go (by rw [hu]; omega), unders_at hp1 h1 (at_ i (by omega)), low_cut (by omega)]
        have e2 : place (layL st s L p) (cut st s p (top st s p - i - 1)) = if i + 1 < top st s p - k0 then ((L.length + (i + 1) : Nat) : Int) else place L (cut st s p k0) := by
          by_cases c : i + 1 < top st s p - k0
          · rw [if_pos c]
            have a2 := at_ (i + 1) c
            rw [show top st s p - i - 1 = top st s p - (i + 1) by omega]
            exact place_at h1.nd a2 (cut_ne (by omega) (by omega))
          · rw [if_neg c, show top st s p - i - 1 = k0 by omega]
            exact place_pre lay_pre lowk
        rw [e2]
        exact ihj (i + 1) f' (by omega) (by omega)
    have first : place F p = if 0 < top st s p - k0 then ((L.length + 0 : Nat) : Int) else place L (cut st s p k0) := by
      by_cases c : p = []
      · subst c
        have t0 : top st s ([] : List W) = 0 := rfl
        rw [t0] at h0 ⊢
        rw [if_neg (by omega), place_nil, show k0 = 0 by omega, cut_zero, place_nil]
      · obtain ⟨fc, f1⟩ := full (s := s) (hst p List.mem_cons_self c) c
        have pm : p ∈ layL st s L p := (mem_lay h).mpr (.inr ⟨top st s p, f1, Nat.le_refl _, fc.symm⟩)
        rw [place_pre hp1 (.inr pm)]
        by_cases c2 : 0 < top st s p - k0
        · rw [if_pos c2]
          have a2 := at_ 0 c2
          rw [Nat.sub_zero, fc] at a2
          exact place_at h1.nd a2 c
        · rw [if_neg c2, show k0 = top st s p by omega, fc]
          rw [show k0 = top st s p by omega, fc] at lowk
          exact place_pre lay_pre lowk
    have run := down (top st s p - k0) 0 ((undersOf st s F).length - L.length) (by omega) (by rw [hu]; omega)
    rw [← first, Nat.add_zero] at run
    show (if (Wx.runM (undersOf st s F) ((undersOf st s F).length - L.length) L.length (place F p)).2 ≠ -1 ∧ ¬ (0 ≤ (Wx.runM (undersOf st s F) ((undersOf st s F).length - L.length) L.length (place F p)).2 ∧ (Wx.runM (undersOf st s F) ((undersOf st s F).length - L.length) L.length (place F p)).2 < L.length) then none else Wx.numGo (undersOf st s F) (Wx.runM (undersOf st s F) ((undersOf st s F).length - L.length) L.length (place F p)).1 (Ps.map (place F))) = some F.length
    rw [run]
    dsimp only
    rw [if_neg (by omega), ← ll]
    exact ih
end
end Wg

/-! Bags; lists of drawn worths. -/
namespace Wb
open PySem PySem.Spec PyProof.Rows L2 Wp Wq Wr
def Bag (H : Hp) (b : Addr) (n : Nat) : Prop := ∃ x y z : Int, H b = some (.lst [.int x, .int y, .int z]) ∧ 0 ≤ y ∧ y < 4611686018427387904 ∧ 0 ≤ z ∧ z ≤ n
theorem Bag.mono {H : Hp} {b : Addr} {n m : Nat} (h : Bag H b n) (k : n ≤ m) : Bag H b m := by
  obtain ⟨x, y, z, h1, h2, h3, h4, h5⟩ := h
  exact ⟨x, y, z, h1, h2, h3, h4, by omega⟩
theorem Bag.ne_new {H : Hp} {b p : Addr} {n : Nat} (h : Bag H b n) (k : H p = none) : p ≠ b := by
  obtain ⟨x, y, z, h1, h⟩ := h
  exact (ne_of_none h1 k).symm
theorem Bag.keep {H H' : Hp} {b : Addr} {n : Nat} (h : Bag H b n) (k : Same H H') : Bag H' b n := by
  obtain ⟨x, y, z, h1, h⟩ := h
  exact ⟨x, y, z, k _ _ h1, h⟩
theorem Bag.upd {H : Hp} {b r : Addr} {n : Nat} {o : HO} (h : Bag H b n) (k : r ≠ b) : Bag (L2.upd H r o) b n := by
  obtain ⟨x, y, z, h1, h⟩ := h
  exact ⟨x, y, z, by rw [upd_ne k.symm]; exact h1, h⟩
theorem Bag.ks {H H' : Hp} {b : Addr} {n : Nat} (h : Bag H b n) (k : Kp b H H') : Ks [b] H H' := by
  obtain ⟨x, y, z, h1, h⟩ := h
  exact Ks.kp k h1 List.mem_cons_self
theorem Bag.at {H H' : Hp} {b : Addr} {n : Nat} (h : Bag H b n) (k : ∀ o, H b = some o → H' b = some o) : Bag H' b n := by
  obtain ⟨x, y, z, h1, h⟩ := h
  exact ⟨x, y, z, k _ h1, h⟩
theorem small {n : Nat} (h : n < 1000000) : n < sizeLine := Nat.lt_of_lt_of_le h (by decide)
section
variable {S : List Addr} {H H1 H2 : Hp} {a b D : Addr} {σ : L2.St} {g : TG} {te : TE} {vs : List Nat} {Qd : Hp → Prop}
/-- a new list is not looked at by what stood -/
theorem Ks.drop (x : Ks (D :: S) H1 H2) (s : Ks S H H1) (n : H D = none) : Ks S H H2 :=
  ⟨fun a o na e => x.keep a o (fun q => (List.mem_cons.mp q).elim (fun q => by rw [q, n] at e; cases e) na) (s.keep a o na e), s.tk.trans x.tk⟩
theorem Ks.kpOf (x : Ks [b] H H1) : Kp b H H1 := fun a o n e => x.keep a o (fun q => n (List.mem_singleton.mp q)) e
theorem Ks.kpNew (x : Ks (D :: [b]) H1 H2) (s : Same H H1) (n : H D = none) : Kp b H H2 := Ks.kpOf (Ks.drop x (Ks.same s) n)
theorem Ks.updD {o : HO} {bs : List V} (h : H D = some (.lst bs)) : Ks [D] H (upd H D o) := Ks.upd h List.mem_cons_self
/-- [.. for j in range(m)], a bag and a new list of worths -/
theorem lc_worths {m n inc : Nat} {ok : W → Prop} (hm : m < 1000) (hb : Bag H b n) (hD : H D = none)
    (body : ∀ (j : Nat) (H1 : Hp), j < m → ∀ R : V → Hp → Prop, Bag H1 b (n + inc * j) → Ks [D, b] (upd H D (.lst [])) H1 → (∀ v z H2, IsW H2 v z → ok z → Bag H2 b (n + inc * j + inc) → Kp b H1 H2 → R v H2) →
      g (.int (0 + (j : Int))) (wipe σ vs) H1 fun σ2 H2 => wipe σ2 vs = wipe σ vs ∧ te σ2 H2 R)
    (done : ∀ (H1 : Hp) (acc : List V) (ws : List W), Bag H1 b (n + inc * m) → Ks [b] H H1 → H1 D = some (.lst acc) → Pile H1 acc ws → ws.length = m → (∀ z ∈ ws, ok z) → Qd H1) :
    LoopC (Itr 0 m) g tYes te vs σ D Qd (upd H D (.lst [])) := by
  have hDb : D ≠ b := hb.ne_new hD
  refine loopCR (fun j H' => Bag H' b (n + inc * j) ∧ Ks [D, b] (upd H D (.lst [])) H' ∧ ∃ acc ws, H' D = some (.lst acc) ∧ Pile H' acc ws ∧ ws.length = j ∧ ∀ z ∈ ws, ok z) ⟨hb.keep (same_new hD), Ks.refl, [], [], upd_same, Pile.nil, rfl, (fun _ h => nomatch h)⟩ ?_ ?_
  · rintro j H3 hj ⟨hb3, k3, acc, ws, hD3, p3, wl, wok⟩
    refine body j H3 hj (fun y H4 => ∃ acc, H4 D = some (.lst acc) ∧ acc.length < sizeLine ∧ _) hb3 k3 fun v z H4 wz oz hb4 k4 => ?_
    have tk4 : Tk H3 H4 := (hb3.ks k4).tk
    have hD4 := k4 _ _ hDb hD3
    refine ⟨acc, hD4, ?_, ?_, ?_, _, _, upd_same, (Pile.app (p3.keep tk4) (Pile.one wz)).keep (Tk.lst hD4), ?_, ?_⟩
    · rw [p3.len]; exact small (by omega)
    · rw [Nat.mul_succ, ← Nat.add_assoc]
      exact hb4.upd hDb
    · exact k3.trans ((Ks.mono (hb3.ks k4) (by simp)).trans (Ks.upd hD4 List.mem_cons_self))
    · rw [List.length_append, wl] <;> rfl
    · intro x hx
      rcases List.mem_append.mp hx with hx | hx
      · exact wok x hx
      · rw [List.mem_singleton.mp hx]; exact oz
  · rintro H3 ⟨hb3, k3, acc, ws, hD3, p3, wl, wok⟩
    exact done H3 acc ws hb3 (Ks.drop k3 (Ks.same (same_new hD)) hD) hD3 p3 wl wok
end
end Wb

/-! Lists of piles as data; sorted. -/
namespace Wc
open PySem PySem.Spec PyProof.Rows L2 Wp Wq Wr Wk Wb
def lD (p : List W) : PyData := .list (p.map wD)
def PsOk (Ps : List (List W)) : Prop := ∀ q ∈ Ps, q.length ≤ 400 ∧ ∀ z ∈ q, Wok z
section
variable {S : List Addr} {H H1 H2 : Hp} {a b D : Addr} {K : PySem.W.Frag} {ys : List V} {Ps : List (List W)} {v : V} {p : List W}
theorem IsLs.dp (h : IsLs S H v p) : Dp K H v (lD p) := by
  obtain ⟨l, vs, rfl, hl, hp, _⟩ := h
  exact hp.dp (SqL.of hl)
theorem Lists.dpAll (h : Lists S H ys Ps) : DpAll K H ys (Ps.map lD) := by
  unfold Lists at h
  induction h with
  | nil => exact .nil
  | cons r t ih => exact .cons (IsLs.dp r) ih
theorem Lists.dp (h : Lists S H ys Ps) (e : SqL K H a ys) : Dp K H (.ref a) (.list (Ps.map lD)) := .lst e (Lists.dpAll h)
theorem lD_lay (h : ∀ z ∈ p, Wok z) : (lD p).canLay0 = true := by
  unfold lD
  simp only [PyData.canLay0]
  exact wDs_lay p h
theorem lDs_lay : ∀ Ps : List (List W), PsOk Ps → PyData.canLayAll0 (Ps.map lD) = true
  | [], _ => by simp [PyData.canLayAll0]
  | p :: Ps, h => by
    rw [List.map_cons]
    simp only [PyData.canLayAll0]
    rw [lD_lay (h p List.mem_cons_self).2, lDs_lay Ps (fun x hx => h x (List.mem_cons_of_mem _ hx))] <;> rfl
theorem lD_depth (p : List W) : (lD p).depth ≤ 2 := by
  have := wDs_depth p
  unfold lD
  simp only [PyData.depth]
  omega
theorem lDs_depth : ∀ Ps : List (List W), PyData.depthAll (Ps.map lD) ≤ 2
  | [] => by simp [PyData.depthAll]
  | p :: Ps => by
    have h := lDs_depth Ps
    have h2 := lD_depth p
    rw [List.map_cons]
    simp only [PyData.depthAll]
    omega
theorem lDs_shaped (h : PsOk Ps) : SeqAt.shaped (.list (Ps.map lD)) = true := by
  have h2 := lDs_depth Ps
  have h3 : (PyData.list (Ps.map lD)).depth ≤ 64 := by
    simp only [PyData.depth]
    omega
  show (PyData.canLay0 (.list (Ps.map lD)) && decide ((PyData.list (Ps.map lD)).depth ≤ 64)) = true
  rw [decide_eq_true h3, Bool.and_true]
  simp only [PyData.canLay0]
  exact lDs_lay Ps h
/-! ### sorted -/
def RB (S : List Addr) (H : Hp) (b : Ws.VD) (p : List W) : Prop := b.2 = lD p ∧ IsLs S H b.1 p
theorem lists_bs (h : Lists S H ys Ps) : ∃ bs : List Ws.VD, bs.map (·.1) = ys ∧ Paired (RB S H) bs Ps := by
  unfold Lists at h
  induction h with
  | nil => exact ⟨[], rfl, .nil⟩
  | @cons x p l1 l2 r t ih =>
    obtain ⟨bs, e, q⟩ := ih
    exact ⟨(x, lD p) :: bs, by rw [List.map_cons, e], .cons ⟨rfl, r⟩ q⟩
theorem bs_lists {bs : List Ws.VD} (h : Paired (RB S H) bs Ps) : Lists S H (bs.map (·.1)) Ps := by
  induction h with
  | nil => exact .nil
  | cons r t ih => exact .cons r.2 ih
theorem perm_pair {α β : Type} {R : α → β → Prop} {l1 l1' : List α} (h : l1'.Perm l1) : ∀ {l2 : List β}, Paired R l1 l2 → ∃ l2', l2'.Perm l2 ∧ Paired R l1' l2' := by
  induction h with
  | nil => intro l2 q; cases q; exact ⟨[], .nil, .nil⟩
  | cons x _ ih =>
    intro l2 q
    cases q with
    | @cons _ y _ t r q =>
      obtain ⟨t', ht, qt⟩ := ih q
      exact ⟨y :: t', .cons _ ht, .cons r qt⟩
  | swap x y l =>
    intro l2 q
    cases q with
    | cons r q => cases q with
      | cons r2 q => exact ⟨_, .swap _ _ _, .cons r2 (.cons r q)⟩
  | trans _ _ ih1 ih2 =>
    intro l2 q
    obtain ⟨m, hm, qm⟩ := ih2 q
    obtain ⟨l', hl, ql⟩ := ih1 qm
    exact ⟨l', hl.trans hm, ql⟩
theorem le_lt {a b : Ws.VD} {p q : List W} (ha : a.2 = lD p) (hb : b.2 = lD q) (h : Ws.leD a b = true) : ltR q p = false := by
  have h2 : (!PySem.W.dataLt b.2 a.2) = true := h
  rw [ha, hb] at h2
  have e : PySem.W.dataLt (lD q) (lD p) = ltR q p := PySem.W.dataLt_list _ _
  rw [e] at h2
  cases c : ltR q p with
  | false => rfl
  | true => rw [c] at h2; cases h2
theorem pair_wise {bs : List Ws.VD} (h : Paired (RB S H) bs Ps) (hs : bs.Pairwise (fun a b => Ws.leD a b = true)) : Ps.Pairwise (fun a b => ltR b a = false) := by
  induction h with
  | nil => exact .nil
  | @cons x p l1 l2 r t ih =>
    rw [List.pairwise_cons] at hs ⊢
    refine ⟨fun q hq => ?_, ih hs.2⟩
    obtain ⟨i, hi⟩ := List.mem_iff_getElem?.mp hq
    obtain ⟨b, hb, rb⟩ := pair_at t hi
    exact le_lt r.1 rb.1 (hs.1 b (List.mem_of_getElem? hb))
theorem leD_total : PySem.W.TotalLe Ws.leD := PySem.W.sortLe_total _ false _
theorem sorted_bs {bs : List Ws.VD} (h : Paired (RB S H) bs Ps) : ∃ Ps', Ps'.Perm Ps ∧ Lists S H ((bs.mergeSort Ws.leD).map (·.1)) Ps' ∧ Ps'.Pairwise (fun a b => ltR b a = false) := by
  obtain ⟨Ps', hp, q⟩ := perm_pair (List.mergeSort_perm bs Ws.leD) h
  exact ⟨Ps', hp, bs_lists q, pair_wise q (PySem.W.sort_pairwise leD_total bs)⟩
theorem bs_dp {bs : List Ws.VD} (h : Paired (RB S H) bs Ps) : ∀ b ∈ bs, Dp K H b.1 b.2 := fun b hb => by
  obtain ⟨i, hi⟩ := List.mem_iff_getElem?.mp hb
  obtain ⟨p, _, e, r⟩ := pair_at1 h hi
  rw [e]
  exact IsLs.dp r
theorem alikeL : ∀ (p q : List W), PySem.W.alikeAll (p.map wD) (q.map wD) = true
  | [], _ => by simp [PySem.W.alikeAll]
  | _ :: _, [] => by simp [PySem.W.alikeAll]
  | x :: p, y :: q => by
    rw [List.map_cons, List.map_cons]
    simp only [PySem.W.alikeAll]
    rw [alikeW, alikeL p q] <;> rfl
theorem bs_alike {bs : List Ws.VD} (h : Paired (RB S H) bs Ps) : PySem.W.AllAlike (bs.map (·.2)) := by
  intro d hd d' hd'
  obtain ⟨b, hb, rfl⟩ := List.mem_map.mp hd
  obtain ⟨b', hb', rfl⟩ := List.mem_map.mp hd'
  obtain ⟨i, hi⟩ := List.mem_iff_getElem?.mp hb
  obtain ⟨j, hj⟩ := List.mem_iff_getElem?.mp hb'
  obtain ⟨p, _, e, _⟩ := pair_at1 h hi
  obtain ⟨q, _, e', _⟩ := pair_at1 h hj
  rw [e, e']
  unfold lD
  simp only [PySem.W.alike]
  exact alikeL p q
theorem bs_sortable {bs : List Ws.VD} (h : Paired (RB S H) bs Ps) : PySem.W.Sortable (bs.map (·.2)) := .inr fun d hd => by
  obtain ⟨b, hb, rfl⟩ := List.mem_map.mp hd
  obtain ⟨i, hi⟩ := List.mem_iff_getElem?.mp hb
  obtain ⟨p, _, e, _⟩ := pair_at1 h hi
  rw [e]
  exact ⟨(fun q => nomatch q), fun xs q => nomatch q⟩
theorem bs_depth {bs : List Ws.VD} (h : Paired (RB S H) bs Ps) : ∀ b ∈ bs, b.2.depth ≤ 60 := fun b hb => by
  obtain ⟨i, hi⟩ := List.mem_iff_getElem?.mp hb
  obtain ⟨p, _, e, _⟩ := pair_at1 h hi
  rw [e]
  exact Nat.le_trans (lD_depth p) (by decide)
/-- the sorted list of piles -/
theorem sort_lists {Q : VK} {X : List V} (h : Lists S H ys Ps) (e : X = [.ref a]) (hs : SqL K H a ys) (q : ∀ (q : Addr) (ys' : List V) (Ps' : List (List W)), H q = none → Ps'.Perm Ps → Lists S H ys' Ps' → Ps'.Pairwise (fun a b => ltR b a = false) → Q (.ref q) (upd H q (.lst ys'))) : Ws.rSortD K X H Q := by
  obtain ⟨bs, eb, hb⟩ := lists_bs h
  obtain ⟨Ps', hp, L, hw⟩ := sorted_bs hb
  exact ⟨a, bs, e, by rw [eb]; exact hs, bs_dp hb, bs_alike hb, bs_sortable hb, bs_depth hb, fun p hp0 => q p _ Ps' hp0 hp L hw⟩
end
/-! ### sums -/
theorem sumL_snoc : ∀ (l : List (List W)) (prev p : List W), sumL prev (l ++ [p]) = sumL prev l + (p.length - lcp (l.getLastD prev) p)
  | [], prev, p => by
    show (p.length - lcp prev p) + 0 = 0 + _
    rw [Nat.add_zero, Nat.zero_add]
    rfl
  | q :: l, prev, p => by
    show (q.length - lcp prev q) + sumL q (l ++ [p]) = (q.length - lcp prev q) + sumL q l + _
    rw [sumL_snoc l q p, Nat.add_assoc]
    congr 3
    cases l <;> simp [List.getLastD]
theorem lcp_step : ∀ {a b : List W} {m : Nat}, m ≤ lcp a b → (m < lcp a b ↔ ∃ z, a[m]? = some z ∧ b[m]? = some z)
  | [], b, m, h => by
    have e : lcp [] b = 0 := lcp_nil b
    rw [e] at h ⊢
    simp
  | x :: xs, [], m, h => by
    have e : lcp (x :: xs) [] = 0 := rfl
    rw [e] at h ⊢
    simp
  | x :: xs, y :: ys, m, h => by
    rw [lcp_cons] at h ⊢
    by_cases c : x = y
    · rw [if_pos c] at h ⊢
      subst c
      cases m with
      | zero => simp
      | succ m =>
        have ih := lcp_step (a := xs) (b := ys) (m := m) (by omega)
        rw [List.getElem?_cons_succ, List.getElem?_cons_succ, ← ih]
        omega
    · rw [if_neg c] at h ⊢
      have e : m = 0 := by omega
      subst e
      simp only [List.getElem?_cons_zero]
      constructor
      · intro q; omega
      · rintro ⟨z, h1, h2⟩
        cases h1
        cases h2
        exact absurd rfl c
theorem cut_drop {xs : List V} {n : Nat} : cutV xs (some (n : Int)) none = xs.drop n := by
  unfold cutV
  rw [show HT.sIx xs.length 0 (some (n : Int)) = min n xs.length from HT.sIx_nat .., show HT.sIx xs.length xs.length none = xs.length from HT.sIx_none ..]
  by_cases h : n ≤ xs.length
  · rw [Nat.min_eq_left h, List.take_of_length_le (by rw [List.length_drop]; omega)]
  · rw [Nat.min_eq_right (by omega), List.drop_of_length_le (Nat.le_refl _), List.drop_of_length_le (by omega), List.take_nil]
theorem Lists.take {S : List Addr} {H : Hp} {ys : List V} {Ps : List (List W)} (h : Lists S H ys Ps) : ∀ n, Lists S H (ys.take n) (Ps.take n) := by
  unfold Lists at *
  induction h with
  | nil => intro n; cases n <;> exact .nil
  | cons r t ih => intro n; cases n with
    | zero => exact .nil
    | succ n => exact .cons r (ih n)
theorem Lists.drop {S : List Addr} {H : Hp} {ys : List V} {Ps : List (List W)} (h : Lists S H ys Ps) : ∀ n, Lists S H (ys.drop n) (Ps.drop n) := by
  unfold Lists at *
  induction h with
  | nil => intro n; cases n <;> exact .nil
  | cons r t ih => intro n; cases n with
    | zero => exact .cons r t
    | succ n => exact ih n
theorem Lists.rev {S : List Addr} {H : Hp} {ys : List V} {Ps : List (List W)} (h : Lists S H ys Ps) : Lists S H ys.reverse Ps.reverse := by
  unfold Lists at *
  induction h with
  | nil => exact .nil
  | cons r t ih =>
    rw [List.reverse_cons, List.reverse_cons]
    exact pair_app ih (.cons r .nil)
theorem revL {σ : L2.St} {H : Hp} {Q : VK} {te : TE} {K : PySem.W.Frag} (h : te σ H fun x H1 => ∃ a xs, x = .ref a ∧ SqL K H1 a xs ∧ ∀ p, H1 p = none → Q (.ref p) (upd H1 p (.lst xs.reverse))) : tRevL K te σ H Q := h
end Wc

/-! More steps: pairs stored, dict comprehensions over a list, zip. -/
namespace Wz
open PySem PySem.Spec PyProof.Rows L2 Wp Wq Wr
section
variable {σ : L2.St} {H : Hp} {Q : VK} {D : Ends} {ta : TA} {te : TE} {g : TG} {tb : TS} {tt : TT} {tk tv : TE} {vs : List Nat} {K : PySem.W.Frag} {a b : Addr} {xs ys : List V} {i j : Nat}
theorem par (h : ta σ H fun us H1 => ∃ v w, us = [v, w] ∧ D.nx ((σ.set i (some v)).set j (some w)) H1) : tPar i j ta D σ H := h
def LoopD (J : It) (g : TG) (tt : TT) (tk tv : TE) (vs : List Nat) (σ : L2.St) (D : Addr) (Qd : Hp → Prop) (H0 : Hp) : Prop := ∃ W : Nat → Nat → Hp → Prop, (∃ m, W 0 m H0) ∧ ∀ i m H, W i m H →
  (J.stop i H ∧ Qd H) ∨ (J.go i H ∧ ∃ Nx : Hp → Prop, (∀ H', Nx H' → ∃ m', m' < m ∧ W (i + 1) m' H') ∧ ∀ x H', J.yld i H x H' → g x (wipe σ vs) H' fun σ2 H2 => wipe σ2 vs = wipe σ vs ∧ tt σ2 H2 fun b H3 =>
    if b = true then tk σ2 H3 fun y H4 => tv σ2 H4 fun z H5 => ∃ kvs k, y = kV k ∧ H5 D = some (.dK kvs) ∧ kvs.length < sizeLine ∧ Nx (upd H5 D (.dK (putK kvs k z))) else Nx H3)
theorem dcL (h : te σ H fun x H1 => ∃ a, x = .ref a ∧ (∃ xs, SqL K H1 a xs) ∧ ∀ D, H1 D = none → LoopD (Itl K a) g tt tk tv vs σ D (fun H => Q (.ref D) H) (upd H1 D (.dK []))) : tDc (iList K te) g tt tk tv vs σ H Q := h
theorem loopDL {D : Addr} {Qd : Hp → Prop} (Pv : Nat → Hp → Prop) (h0 : Pv 0 H) (hl : ∀ i H, i ≤ xs.length → Pv i H → SqL K H a xs)
    (hs : ∀ i x H, xs[i]? = some x → Pv i H → g x (wipe σ vs) H fun σ2 H2 => wipe σ2 vs = wipe σ vs ∧ tt σ2 H2 fun b H3 =>
      if b = true then tk σ2 H3 fun y H4 => tv σ2 H4 fun z H5 => ∃ kvs k, y = kV k ∧ H5 D = some (.dK kvs) ∧ kvs.length < sizeLine ∧ Pv (i + 1) (upd H5 D (.dK (putK kvs k z))) else Pv (i + 1) H3) (hd : ∀ H, Pv xs.length H → Qd H) : LoopD (Itl K a) g tt tk tv vs σ D Qd H := by
  refine ⟨fun i m H => m = xs.length - i ∧ i ≤ xs.length ∧ Pv i H, ⟨xs.length, by simp, Nat.zero_le _, h0⟩, ?_⟩
  rintro i m H ⟨rfl, hi, p⟩
  have q := hl i H hi p
  by_cases hlt : i < xs.length
  · refine .inr ⟨⟨xs, xs[i], q, by simp [hlt]⟩, Pv (i + 1), fun H' p' => ⟨xs.length - (i + 1), by omega, rfl, hlt, p'⟩, fun x H' y => ?_⟩
    obtain ⟨e, y⟩ := y
    subst e
    exact hs i x _ (y xs q) p
  · have e : i = xs.length := by omega
    subst e
    exact .inl ⟨⟨xs, q, Nat.le_refl _⟩, hd H p⟩
theorem forZ (h : ta σ H fun us H1 => ∃ a b xs ys, us = [.ref a, .ref b] ∧ SqL K H1 a xs ∧ SqL K H1 b ys ∧ Loop (Itz K a b) g tb D σ H1) : tFor (iZip K ta) g tb D σ H := h
theorem loopZ (Pv : Nat → L2.St → Hp → Prop) (el : xs.length = ys.length) (h0 : Pv 0 σ H) (hl : ∀ i σ H, i ≤ xs.length → Pv i σ H → SqL K H a xs ∧ SqL K H b ys)
    (hs : ∀ i x y T σ H, xs[i]? = some x → ys[i]? = some y → Pv i σ H → H T = none → g (.ref T) σ (upd H T (.tup [x, y])) fun σ2 H2 => tb { D with nx := Pv (i + 1), ct := Pv (i + 1), bk := D.nx } σ2 H2) (hd : ∀ σ H, Pv xs.length σ H → D.nx σ H) : Loop (Itz K a b) g tb D σ H := by
  refine ⟨fun i m σ H => m = xs.length - i ∧ i ≤ xs.length ∧ Pv i σ H, ⟨xs.length, by simp, Nat.zero_le _, h0⟩, ?_⟩
  rintro i m σ H ⟨rfl, hi, p⟩
  obtain ⟨q1, q2⟩ := hl i σ H hi p
  by_cases hlt : i < xs.length
  · have hlt2 : i < ys.length := by omega
    refine .inr ⟨⟨xs, ys, xs[i], ys[i], q1, q2, List.getElem?_eq_getElem hlt, List.getElem?_eq_getElem hlt2⟩, Pv (i + 1), fun σ' H' p' => ⟨xs.length - (i + 1), by omega, rfl, hlt, p'⟩, fun x H' y => ?_⟩
    obtain ⟨T, x1, y1, rfl, hT, rfl, e1, e2⟩ := y
    exact hs i x1 y1 T σ H (e1 xs q1) (e2 ys q2) p hT
  · have e : i = xs.length := by omega
    subst e
    exact .inl ⟨⟨xs, ys, q1, q2, .inl (Nat.le_refl _)⟩, hd σ H p⟩
theorem lcR3 {tt : TT} {vs : List Nat} (h : ta σ H fun us H1 => ∃ (i j c : Int) (n : Nat), us = [.int i, .int j, .int c] ∧ RgC i j c n ∧ ∀ D, H1 D = none → LoopC (Itc i c n) g tt te vs σ D (fun H => Q (.ref D) H) (upd H1 D (.lst []))) : tLc (iRng3 ta) g tt te vs σ H Q := h
theorem loopCc {lo c : Int} {n : Nat} {D : Addr} {Qd : Hp → Prop} (Pv : Nat → Hp → Prop) (h0 : Pv 0 H)
    (hs : ∀ i H, i < n → Pv i H → g (.int (lo + i * c)) (wipe σ vs) H fun σ2 H2 => wipe σ2 vs = wipe σ vs ∧ tt σ2 H2 fun b H3 =>
      if b = true then te σ2 H3 fun y H4 => ∃ acc, H4 D = some (.lst acc) ∧ acc.length < sizeLine ∧ Pv (i + 1) (upd H4 D (.lst (acc ++ [y]))) else Pv (i + 1) H3) (hd : ∀ H, Pv n H → Qd H) : LoopC (Itc lo c n) g tt te vs σ D Qd H := by
  refine ⟨fun i m H => m = n - i ∧ i ≤ n ∧ Pv i H, ⟨n, by simp, Nat.zero_le _, h0⟩, ?_⟩
  rintro i m H ⟨rfl, hi, p⟩
  by_cases hlt : i < n
  · refine .inr ⟨hlt, Pv (i + 1), fun H' p' => ⟨n - (i + 1), by omega, rfl, hlt, p'⟩, fun x H' y => ?_⟩
    obtain ⟨e, y⟩ := y
    subst e y
    exact hs i _ hlt p
  · have e : i = n := by omega
    subst e
    exact .inl ⟨Nat.le_refl _, hd H p⟩
theorem forN {P : Program} {w : World} (h : te σ H fun x H1 => ∃ d o es, x = .ref d ∧ Wd.NDictF P w H1 d o es ∧ Loop (Wd.Itn P w d o es) g tb D σ H1) : tFor (Wd.iKeysN P w te) g tb D σ H := h
theorem loopN {P : Program} {w : World} {d : Addr} {o : Obj} {es : List Wd.NE} (Pv : Nat → L2.St → Hp → Prop) (h0 : Pv 0 σ H) (hl : ∀ i σ H, i ≤ es.length → Pv i σ H → Wd.NDictF P w H d o es)
    (hs : ∀ i e σ H, es[i]? = some e → Pv i σ H → g (.ref e.2.1) σ H fun σ2 H2 => tb { D with nx := Pv (i + 1), ct := Pv (i + 1), bk := D.nx } σ2 H2) (hd : ∀ σ H, Pv es.length σ H → D.nx σ H) : Loop (Wd.Itn P w d o es) g tb D σ H := by
  refine ⟨fun i m σ H => m = es.length - i ∧ i ≤ es.length ∧ Pv i σ H, ⟨es.length, by simp, Nat.zero_le _, h0⟩, ?_⟩
  rintro i m σ H ⟨rfl, hi, p⟩
  have q1 := hl i σ H hi p
  by_cases hlt : i < es.length
  · refine .inr ⟨⟨q1, hlt⟩, Pv (i + 1), fun σ' H' p' => ⟨es.length - (i + 1), by omega, rfl, hlt, p'⟩, fun x H' y => ?_⟩
    obtain ⟨rfl, e, he, rfl⟩ := y
    exact hs i e σ H' he p
  · have e : i = es.length := by omega
    subst e
    exact .inl ⟨⟨q1, Nat.le_refl _⟩, hd σ H p⟩
theorem lockN {t : TS} {d : Addr} {u : HO} (h : H d = some u) (m : Mut (some u)) (q : ∀ od, t ⟨fun σ' H' => H' d = some (.frz od u) ∧ D.nx σ' (upd H' d u), fun v H' => H' d = some (.frz od u) ∧ D.rt v (upd H' d u), fun σ' H' => H' d = some (.frz od u) ∧ D.bk σ' (upd H' d u), fun σ' H' => H' d = some (.frz od u) ∧ D.ct σ' (upd H' d u)⟩ σ (upd H d (.frz od u))) : tLock t D σ H := ⟨d, u, h, m, q⟩
end
end Wz

/-! The tight paper over the heap: what its defs hand to one another. -/
namespace Wy
open PySem PySem.Spec PyProof.Rows L2 Wp Wq Wr Wk Wg
theorem at_end {xs : List V} {y : V} : atI (xs ++ [y]) (-1) = some y := by
  unfold atI ixN
  have hl : (xs ++ [y]).length = xs.length + 1 := by rw [List.length_append] <;> rfl
  rw [if_neg (by decide), if_pos (by rw [hl]; omega), hl]
  show (xs ++ [y])[(-1 + ((xs.length + 1 : Nat) : Int)).toNat]? = _
  rw [show (-1 + ((xs.length + 1 : Nat) : Int)).toNat = xs.length by omega, List.getElem?_append_right (Nat.le_refl _), Nat.sub_self] <;> rfl
/-- the numbers of a pile's beginnings, none to j worths -/
def pathU (T : List (List W)) (p : List W) (j : Nat) : List V := (List.range (j + 1)).map fun h => V.int ((numOf T (p.take h) : Nat) : Int)
def pathV (T : List (List W)) (p : List W) : List V := pathU T p p.length
theorem pathU_succ {T : List (List W)} {p : List W} {j : Nat} : pathU T p (j + 1) = pathU T p j ++ [V.int ((numOf T (p.take (j + 1)) : Nat) : Int)] := by
  unfold pathU
  rw [List.range_succ, List.map_append] <;> rfl
theorem pathU_last {T : List (List W)} {p : List W} {j : Nat} : atI (pathU T p j) (-1) = some (V.int ((numOf T (p.take j) : Nat) : Int)) := by
  cases j with
  | zero => exact at_end (xs := [])
  | succ j => rw [pathU_succ]; exact at_end
theorem pathV_last {T : List (List W)} {p : List W} : atI (pathV T p) (-1) = some (V.int ((numOf T p : Nat) : Int)) := by
  have := pathU_last (T := T) (p := p) (j := p.length)
  rw [List.take_length] at this
  exact this
theorem pathV_len {T : List (List W)} {p : List W} : (pathV T p).length = p.length + 1 := by unfold pathV pathU; rw [List.length_map, List.length_range]
theorem pathV_at {T : List (List W)} {p : List W} {h : Nat} (hh : h ≤ p.length) : (pathV T p)[h]? = some (V.int ((numOf T (p.take h) : Nat) : Int)) := by
  unfold pathV pathU
  rw [List.getElem?_map, List.getElem?_range (by omega)] <;> rfl
/-- a stop: a pile, or two go on from it -/
def stB (T : List (List W)) (Ps : List (List W)) (q : List W) : Bool := decide (q ∈ Ps) || decide (2 ≤ (T.filter fun x => decide (x.dropLast = q)).length)
def IsPath (T : List (List W)) (H : Hp) (v : V) (p : List W) : Prop := ∃ r, v = .ref r ∧ H r = some (.lst (pathV T p))
def Within (T : List (List W)) (p : List W) : Prop := ∀ h, p.take h = [] ∨ p.take h ∈ T
theorem within_trie {Ps : List (List W)} {p : List W} (hp : p ∈ Ps) : Within (trie Ps) p := by
  intro h
  by_cases c : p.take h = []
  · exact .inl c
  · right
    rw [mem_trie]
    have hl : 1 ≤ (p.take h).length := List.length_pos_iff.mpr c
    rw [List.length_take] at hl
    refine ⟨p, hp, min h p.length - 1, by omega, ?_⟩
    rw [show min h p.length - 1 + 1 = min h p.length by omega]
    by_cases e : h ≤ p.length
    · rw [Nat.min_eq_left e]
    · rw [Nat.min_eq_right (by omega), List.take_length, List.take_of_length_le (by omega)]
/-- the places: none at -1, what is laid at its number -/
def Places (T L : List (List W)) (kvs : List (Key × V)) : Prop := kvs.length = L.length + 1 ∧ ∀ q, (q = [] ∨ q ∈ T) → valV kvs (.inl ((numOf T q : Nat) : Int)) = if q = [] ∨ q ∈ L then some (.int (place L q)) else none
theorem Places.new {T : List (List W)} (h : TOk T) : Places T [] [(.inl 0, .int (-1))] := by
  refine ⟨rfl, fun q hq => ?_⟩
  by_cases c : q = []
  · subst c
    rw [numOf_nil, if_pos (.inl rfl), place_nil]
    exact valV_pos rfl
  · rw [if_neg (by rintro (e | e); exact c e; cases e), numOf_mem c]
    rw [valV_neg (by
      intro e
      have := Sum.inl.inj e
      omega)]
    rfl
theorem Places.put {T L : List (List W)} {kvs : List (Key × V)} (h : Places T L kvs) {q : List W} (hq : q ∈ T) (hT : TOk T) (hL : ∀ x ∈ L, x ∈ T) (n : q ∉ L) : Places T (L ++ [q]) (putK kvs (.inl ((numOf T q : Nat) : Int)) (.int ((kvs.length : Nat) - 1 : Int))) := by
  have qn := hT.ne q hq
  have old := h.2 q (.inr hq)
  rw [if_neg (by rintro (e | e); exact qn e; exact n e)] at old
  refine ⟨?_, fun x hx => ?_⟩
  · rw [putK_new _ old, List.length_append, List.length_append, h.1] <;> rfl
  · rw [valV_put]
    by_cases c : x = q
    · subst c
      rw [if_pos rfl, if_pos (.inr (List.mem_append_right _ List.mem_cons_self)), place_mem qn, List.idxOf_append, if_neg n, h.1]
      congr 2
      simp
    · have ne : ¬ (Sum.inl ((numOf T x : Nat) : Int) : Key) = .inl ((numOf T q : Nat) : Int) := fun e => by
        have e1 := Sum.inl.inj e
        exact c (numOf_inj hx (.inr hq) (by omega))
      rw [if_neg ne, h.2 x hx]
      by_cases m : x = [] ∨ x ∈ L
      · rw [if_pos m, if_pos (m.imp id fun m => List.mem_append_left _ m), place_pre (List.prefix_append _ _) m]
      · rw [if_neg m, if_neg]
        rintro (e | e)
        · exact m (.inl e)
        · rcases List.mem_append.mp e with e | e
          · exact m (.inr e)
          · exact c (List.mem_singleton.mp e)
/-- no two pieces have one list, and each list is new to H0 -/
def Dist (H0 H : Hp) (xs : List V) : Prop := (∀ (i j : Nat) (ti tj li lj : Addr) (u v : V), i ≠ j → xs[i]? = some (.ref ti) → xs[j]? = some (.ref tj) → H ti = some (.tup [u, .ref li]) → H tj = some (.tup [v, .ref lj]) → li ≠ lj) ∧
  ∀ (i : Nat) (ti li : Addr) (u : V), xs[i]? = some (.ref ti) → H ti = some (.tup [u, .ref li]) → H0 li = none
theorem Dist.nil {H0 H : Hp} : Dist H0 H [] := ⟨(fun i _ _ _ _ _ _ _ _ h => by cases i <;> cases h), (fun i _ _ _ h => by cases i <;> cases h)⟩
/-- what every def keeps of a list of pieces -/
theorem Dist.keep {S : List Addr} {H0 H H' : Hp} {xs : List V} {R : List Pc} (h : Dist H0 H xs) (p : Pieces S H xs R) (k : Tk H H') : Dist H0 H' xs := by
  have back : ∀ {i : Nat} {t l : Addr} {u : V}, xs[i]? = some (.ref t) → H' t = some (.tup [u, .ref l]) → H t = some (.tup [u, .ref l]) := by
    intro i t l u hi ht
    obtain ⟨y, _, t', l', vs, e, h1, _⟩ := pair_at1 p hi
    cases e
    have := k _ _ h1
    rw [ht] at this
    cases this
    exact h1
  exact ⟨fun i j ti tj li lj u v n hi hj h1 h2 => h.1 i j ti tj li lj u v n hi hj (back hi h1) (back hj h2), fun i ti li u hi h1 => h.2 i ti li u hi (back hi h1)⟩
theorem Dist.app {S : List Addr} {H0 H : Hp} {xs : List V} {R : List Pc} {t l : Addr} {u : V} (h : Dist H0 H xs) (p : Pieces S H xs R) (ht : H t = some (.tup [u, .ref l])) (new : H0 l = none)
    (fresh : ∀ (i : Nat) (ti li : Addr) (v : V), xs[i]? = some (.ref ti) → H ti = some (.tup [v, .ref li]) → li ≠ l) : Dist H0 H (xs ++ [.ref t]) := by
  have cases_ : ∀ {i : Nat} {y : V}, (xs ++ [.ref t])[i]? = some y → xs[i]? = some y ∨ (i = xs.length ∧ y = .ref t) := fun h => get_app1 h
  refine ⟨fun i j ti tj li lj v w n hi hj h1 h2 => ?_, fun i ti li v hi h1 => ?_⟩
  · rcases cases_ hi with hi | ⟨ei, e1⟩ <;> rcases cases_ hj with hj | ⟨ej, e2⟩
    · exact h.1 i j ti tj li lj v w n hi hj h1 h2
    · cases e2
      rw [ht] at h2
      cases h2
      exact fresh i ti li v hi h1
    · cases e1
      rw [ht] at h1
      cases h1
      exact (fresh j tj lj w hj h2).symm
    · exact absurd (ei.trans ej.symm) n
  · rcases cases_ hi with hi | ⟨ei, e1⟩
    · exact h.2 i ti li v hi h1
    · cases e1
      rw [ht] at h1
      cases h1
      exact new
theorem E_len {st : List W → Bool} {s : Nat} {p : List W} : ∀ h, (E st s p h).length ≤ h + 1
  | 0 => Nat.le_refl _
  | h + 1 => by
    have ih := E_len (st := st) (s := s) (p := p) h
    rcases E_succ (st := st) (s := s) (p := p) h with e | e
    · rw [e, List.length_append, List.length_singleton]; omega
    · rw [e]; omega
theorem stB_pile {T Ps : List (List W)} {p : List W} (h : p ∈ Ps) : stB T Ps p = true := by
  unfold stB
  rw [decide_eq_true h, Bool.true_or]
theorem tight_mem {st : List W → Bool} {s : Nat} : ∀ {Ps L : List (List W)} {p : List W}, LOk st s L → p ∈ Ps → p ≠ [] → st p = true → p ∈ tightL st s Ps L
  | q :: Ps, L, p, h, hp, hn, hs => by
    show p ∈ tightL st s Ps (layL st s L q)
    rcases List.mem_cons.mp hp with e | e
    · subst e
      obtain ⟨fc, f1⟩ := full (s := s) hs hn
      exact (tight_pre (Ps := Ps)).subset ((mem_lay h).mpr (.inr ⟨_, f1, Nat.le_refl _, fc.symm⟩))
    · exact tight_mem (lay_ok h q) e hn hs
theorem tight_in {st : List W → Bool} {s : Nat} {T : List (List W)} : ∀ {Ps L : List (List W)}, LOk st s L → (∀ q ∈ L, q ∈ T) → (∀ p ∈ Ps, Within T p) → ∀ q ∈ tightL st s Ps L, q ∈ T
  | [], L, _, h, _ => h
  | p :: Ps, L, hl, h, hw => by
    show ∀ q ∈ tightL st s Ps (layL st s L p), q ∈ T
    refine tight_in (lay_ok hl p) (fun q hq => ?_) (fun x hx => hw x (List.mem_cons_of_mem _ hx))
    rcases (mem_lay hl).mp hq with m | ⟨k, k1, k2, rfl⟩
    · exact h q m
    · exact (hw p List.mem_cons_self _).resolve_left (cut_ne k1 k2)
theorem tight_snoc {st : List W → Bool} {s : Nat} {Ps : List (List W)} {p : List W} : tightL st s (Ps ++ [p]) [] = layL st s (tightL st s Ps []) p := by
  unfold tightL
  rw [List.foldl_append] <;> rfl
/-- the tight paper of a list of piles -/
def stT (Ps : List (List W)) : List W → Bool := stB (trie Ps) Ps
def tL (s : Nat) (Ps : List (List W)) : List (List W) := tightL (stT Ps) s Ps []
def tPap (s : Nat) (Ps : List (List W)) : Pap := (piecesOf (stT Ps) s (tL s Ps), Ps.map (place (tL s Ps)))
end Wy

/-! Wells; powers of wide numbers. -/
namespace Ww
open PySem PySem.Spec PyProof.Rows L2 Wp Wq Wr Wb
def Well (H : Hp) (b : Addr) (n : Nat) : Prop := ∃ x y z : Int, H b = some (.lst [.int x, .int y, .int z]) ∧ 0 ≤ x ∧ 0 ≤ y ∧ y < 10 ^ 43 ∧ 0 ≤ z ∧ z ≤ n
theorem Well.mono {H : Hp} {b : Addr} {n m : Nat} (h : Well H b n) (k : n ≤ m) : Well H b m := by
  obtain ⟨x, y, z, h1, h2, h3, h4, h5, h6⟩ := h
  exact ⟨x, y, z, h1, h2, h3, h4, h5, by omega⟩
theorem Well.ne_new {H : Hp} {b p : Addr} {n : Nat} (h : Well H b n) (k : H p = none) : p ≠ b := by
  obtain ⟨x, y, z, h1, h⟩ := h
  exact (ne_of_none h1 k).symm
theorem Well.keep {H H' : Hp} {b : Addr} {n : Nat} (h : Well H b n) (k : Same H H') : Well H' b n := by
  obtain ⟨x, y, z, h1, h⟩ := h
  exact ⟨x, y, z, k _ _ h1, h⟩
theorem Well.upd {H : Hp} {b r : Addr} {n : Nat} {o : HO} (h : Well H b n) (k : r ≠ b) : Well (L2.upd H r o) b n := by
  obtain ⟨x, y, z, h1, h⟩ := h
  exact ⟨x, y, z, by rw [upd_ne k.symm]; exact h1, h⟩
theorem Well.ks {H H' : Hp} {b : Addr} {n : Nat} (h : Well H b n) (k : Kp b H H') : Ks [b] H H' := by
  obtain ⟨x, y, z, h1, h⟩ := h
  exact Ks.kp k h1 List.mem_cons_self
theorem Well.at {H H' : Hp} {b : Addr} {n : Nat} (h : Well H b n) (k : ∀ o, H b = some o → H' b = some o) : Well H' b n := by
  obtain ⟨x, y, z, h1, h⟩ := h
  exact ⟨x, y, z, k _ h1, h⟩
section
variable {X : Cx}
def CPowW (i j : Int) : Prop := 0 ≤ j ∧ (Builtin.Int.intBits i : Int) * j ≤ 2 ^ 27
theorem op_powW : OpR X (binaryOp .Pow) (rI CPowW fun i j => .int (i ^ j.toNat)) := opI fun _ _ _ _ _ _ _ hc q => pow_int hc.1 hc.2 q
theorem bits_of {x : Int} {b : Nat} (h : x.natAbs < 2 ^ b) (hb : 0 < b) : Builtin.Int.intBits x ≤ b := by
  have e : Builtin.Int.intBits x ≤ x.natAbs.log2 + 1 := by
    unfold Builtin.Int.intBits
    split <;> omega
  by_cases c : x.natAbs = 0
  · rw [c] at e
    have : (0 : Nat).log2 = 0 := by decide
    omega
  · have := (Nat.log2_lt c).mpr h
    omega
theorem mulW {x y : Int} {a b : Nat} (h : x.natAbs < 2 ^ a) (k : y.natAbs < 2 ^ b) (ha : 0 < a := by decide) (hb : 0 < b := by decide) (hs : a + b < 1000000 := by decide) : CMulW x y := by
  have e1 := PySem.Flt.log2_lt_of ha h
  have e2 := PySem.Flt.log2_lt_of hb k
  show _ + _ < 1000000
  omega
theorem pow5 {x : Int} (h : x.natAbs < 2 ^ 300) : CPowW x 5 := ⟨by decide, by
  have := bits_of h (by decide)
  omega⟩
end
section
variable {S : List Addr} {H H1 H2 : Hp} {a b D : Addr} {σ : L2.St} {g : TG} {te : TE} {vs : List Nat} {Qd : Hp → Prop}
/-- [.. for j in range(m)], a bag and a new list of worths -/
theorem lc_wells {m n inc : Nat} {ok : W → Prop} (hm : m < 1000) (hb : Well H b n) (hD : H D = none)
    (body : ∀ (j : Nat) (H1 : Hp), j < m → ∀ R : V → Hp → Prop, Well H1 b (n + inc * j) → Ks [D, b] (upd H D (.lst [])) H1 → (∀ v z H2, IsW H2 v z → ok z → Well H2 b (n + inc * j + inc) → Kp b H1 H2 → R v H2) →
      g (.int (0 + (j : Int))) (wipe σ vs) H1 fun σ2 H2 => wipe σ2 vs = wipe σ vs ∧ te σ2 H2 R)
    (done : ∀ (H1 : Hp) (acc : List V) (ws : List W), Well H1 b (n + inc * m) → Ks [b] H H1 → H1 D = some (.lst acc) → Pile H1 acc ws → ws.length = m → (∀ z ∈ ws, ok z) → Qd H1) :
    LoopC (Itr 0 m) g tYes te vs σ D Qd (upd H D (.lst [])) := by
  have hDb : D ≠ b := hb.ne_new hD
  refine loopCR (fun j H' => Well H' b (n + inc * j) ∧ Ks [D, b] (upd H D (.lst [])) H' ∧ ∃ acc ws, H' D = some (.lst acc) ∧ Pile H' acc ws ∧ ws.length = j ∧ ∀ z ∈ ws, ok z) ⟨hb.keep (same_new hD), Ks.refl, [], [], upd_same, Pile.nil, rfl, (fun _ h => nomatch h)⟩ ?_ ?_
  · rintro j H3 hj ⟨hb3, k3, acc, ws, hD3, p3, wl, wok⟩
    refine body j H3 hj (fun y H4 => ∃ acc, H4 D = some (.lst acc) ∧ acc.length < sizeLine ∧ _) hb3 k3 fun v z H4 wz oz hb4 k4 => ?_
    have tk4 : Tk H3 H4 := (hb3.ks k4).tk
    have hD4 := k4 _ _ hDb hD3
    refine ⟨acc, hD4, ?_, ?_, ?_, _, _, upd_same, (Pile.app (p3.keep tk4) (Pile.one wz)).keep (Tk.lst hD4), ?_, ?_⟩
    · rw [p3.len]; exact small (by omega)
    · rw [Nat.mul_succ, ← Nat.add_assoc]
      exact hb4.upd hDb
    · exact k3.trans ((Ks.mono (hb3.ks k4) (by simp)).trans (Ks.upd hD4 List.mem_cons_self))
    · rw [List.length_append, wl] <;> rfl
    · intro x hx
      rcases List.mem_append.mp hx with hx | hx
      · exact wok x hx
      · rw [List.mem_singleton.mp hx]; exact oz
  · rintro H3 ⟨hb3, k3, acc, ws, hD3, p3, wl, wok⟩
    exact done H3 acc ws hb3 (Ks.drop k3 (Ks.same (same_new hD)) hD) hD3 p3 wl wok
end
end Ww

/-! Whole numbers as texts. -/
namespace Wt
open PySem PySem.Spec PyProof.Rows L2 Wp Wq TL
def numT (i : Int) : Str := Str.ofString (toString i)
theorem numT_nat (m : Nat) : (numT (m : Int)).cps.toList = numL m := tl_num m
theorem numL_head : ∀ (m : Nat) (r : List Nat), numL m = 48 :: r → m = 0 ∧ r = [] := by
  intro m
  induction m using Nat.strongRecOn with
  | _ m ih =>
    intro r h
    by_cases c : m < 10
    · rw [numL_lt c] at h
      have h1 := (List.cons.inj h).1
      have h2 := (List.cons.inj h).2
      exact ⟨by omega, h2.symm⟩
    · rw [numL_step (by omega)] at h
      cases e : numL (m / 10) with
      | nil => exact absurd e (numL_ne _)
      | cons x s =>
        rw [e, List.cons_append] at h
        have hx := (List.cons.inj h).1
        subst hx
        have := (ih (m / 10) (by omega) s e).1
        omega
theorem numT_len {m : Nat} (h : m < 10 ^ 60) : 1 ≤ (numT (m : Int)).length ∧ (numT (m : Int)).length ≤ 60 := by
  have e : (numT (m : Int)).length = (numL m).length := by
    rw [← numT_nat]
    show (numT (m : Int)).cps.size = _
    rw [Array.length_toList]
  rw [e]
  refine ⟨?_, numL_len (by decide) h⟩
  cases q : numL m with
  | nil => exact absurd q (numL_ne m)
  | cons x s => exact Nat.succ_le_succ (Nat.zero_le _)
theorem int_back {m : Nat} (h : m < 10 ^ 60) : intText? (numT (m : Int)) = some (m : Int) := by
  have hl := numT_len h
  have z := PySem.intText_digits (x := numT (m : Int)) (by rw [numT_nat]; exact numL_digits m) (by rw [numT_nat]; exact numL_ne m) (by omega)
  rw [z, numT_nat, numL_val]
theorem numT_neg {m : Nat} (h : 0 < m) : tl (numT (-(m : Int))) = 45 :: numL m := by
  unfold numT
  rw [PyProof.Rows.toString_neg (by omega), show (0 - -(m : Int)) = (m : Int) by omega]
  show (PySem.Str.ofString ("-" ++ toString (m : Int))).cps.toList = _
  rw [PyProof.Rows.signs_ofString, String.toList_append, List.map_append, ← PyProof.Rows.signs_ofString (toString (m : Int))]
  rw [show List.map Char.toNat "-".toList = [45] by decide +kernel]
  exact congrArg (fun l => 45 :: l) (tl_num m)
theorem emp_app (x : Str) : Str.empty ++ x = x := ext_tl (by rw [tl_append] <;> rfl)
theorem numT_any {i : Int} (h : i.natAbs < 10 ^ 60) : (numT i).length ≤ 61 := by
  by_cases c : 0 ≤ i
  · have := (numT_len (m := i.natAbs) h).2
    rw [show ((i.natAbs : Nat) : Int) = i by omega] at this
    omega
  · rw [len_tl, show i = -((i.natAbs : Nat) : Int) by omega, numT_neg (by omega)]
    have := numL_len (k := 60) (by decide) h
    show (numL _).length + 1 ≤ 61
    omega
section
variable {σ : L2.St} {H : Hp} {Q : VK} {R : Str → Hp → Prop} {te t : TE} {ts : List TE} {acc : Str} {K : PySem.W.Frag} {w : World}
theorem js_nil (h : R acc H) : tJs [] acc σ H R := h
theorem js_cons (h : t σ H fun x H1 => ∃ y : Str, x = .str y ∧ (acc ++ y).length ≤ sizeLine ∧ tJs ts (acc ++ y) σ H1 R) : tJs (t :: ts) acc σ H R := h
theorem fmt_ (h : te σ H fun x H1 => (∃ y : Str, x = .str y ∧ y.length ≤ sizeLine ∧ Q (.str y) H1) ∨ ∃ i : Int, x = .int i ∧ i.natAbs.log2 < 1920 ∧ Q (.str (toString i)) H1) : tFmt te σ H Q := h
end
section
variable {σ : L2.St} {H : Hp} {Q : VK} {te ta to : TE} {r : V → List V → Hp → VK → Prop}
theorem m1 (h : to σ H fun x H1 => (∃ a, x = .str a) ∧ te σ H1 fun y H2 => r x [y] H2 Q) : tM1 r to te σ H Q := h
theorem m0 (h : to σ H fun x H1 => (∃ a, x = .str a) ∧ r x [] H1 Q) : tM0 r to σ H Q := h
theorem lcS {g : TG} {tt : TT} {vs : List Nat} (h : ta σ H fun x H1 => ∃ z, x = .str z ∧ ∀ D, H1 D = none → LoopC (Its z) g tt te vs σ D (fun H => Q (.ref D) H) (upd H1 D (.lst []))) : tLc (iStr ta) g tt te vs σ H Q := h
theorem loopCS {z : Str} {g : TG} {tt : TT} {vs : List Nat} {D : Addr} {Qd : Hp → Prop} (Pv : Nat → Hp → Prop) (h0 : Pv 0 H)
    (hs : ∀ i c H, z.cps[i]? = some c → Pv i H → g (.str ⟨#[c]⟩) (wipe σ vs) H fun σ2 H2 => wipe σ2 vs = wipe σ vs ∧ tt σ2 H2 fun b H3 =>
      if b = true then te σ2 H3 fun y H4 => ∃ acc, H4 D = some (.lst acc) ∧ acc.length < sizeLine ∧ Pv (i + 1) (upd H4 D (.lst (acc ++ [y]))) else Pv (i + 1) H3) (hd : ∀ H, Pv z.cps.size H → Qd H) : LoopC (Its z) g tt te vs σ D Qd H := by
  refine ⟨fun i m H => m = z.cps.size - i ∧ i ≤ z.cps.size ∧ Pv i H, ⟨z.cps.size, by simp, Nat.zero_le _, h0⟩, ?_⟩
  rintro i m H ⟨rfl, hi, p⟩
  by_cases hlt : i < z.cps.size
  · refine .inr ⟨hlt, Pv (i + 1), fun H' p' => ⟨z.cps.size - (i + 1), by omega, rfl, hlt, p'⟩, fun x H' y => ?_⟩
    obtain ⟨e, c, hc, ex⟩ := y
    subst e
    subst ex
    exact hs i c _ hc p
  · have e : i = z.cps.size := by omega
    subst e
    exact .inl ⟨Nat.le_refl _, hd H p⟩
end
theorem log_ok {n : Nat} (h : n < 10 ^ 60) : n.log2 < 1920 := by
  by_cases e : n = 0
  · subst e; decide
  · rw [Nat.log2_lt e]
    exact Nat.lt_of_lt_of_le h (by decide)
end Wt

/-! Rows of a program as data; their texts; global tuples; str of anything. -/
namespace Wrw
open PySem PySem.Spec PyProof.Rows L2 Wp Wq Wr Wt
abbrev Rw := Str × Option Int
def rV : Rw → List V
  | (s, none) => [.str s]
  | (s, some n) => [.str s, .int n]
def rDs : Rw → List PyData
  | (s, none) => [.str s]
  | (s, some n) => [.str s, .int n]
def rD (r : Rw) : PyData := .tuple (rDs r)
def IsR (H : Hp) (v : V) (r : Rw) : Prop := ∃ t, v = .ref t ∧ H t = some (.tup (rV r))
def Rws (H : Hp) (vs : List V) (rs : List Rw) : Prop := Paired (IsR H) vs rs
section
variable {H H1 : Hp} {v x : V} {r : Rw} {vs us : List V} {rs zs : List Rw} {K : PySem.W.Frag} {a : Addr}
theorem IsR.keep (h : IsR H v r) (k : Tk H H1) : IsR H1 v r := by
  obtain ⟨t, e, h⟩ := h
  exact ⟨t, e, k _ _ h⟩
theorem Rws.keep (h : Rws H vs rs) (k : Tk H H1) : Rws H1 vs rs := Paired.mapP h fun _ _ q => q.keep k
theorem Rws.len (h : Rws H vs rs) : vs.length = rs.length := Paired.length h
theorem Rws.nil : Rws H [] [] := Paired.nil
theorem Rws.app (h : Rws H vs rs) (k : Rws H us zs) : Rws H (vs ++ us) (rs ++ zs) := by
  unfold Rws at *
  induction h with
  | nil => exact k
  | cons r t ih => exact .cons r ih
theorem Rws.one (h : IsR H v r) : Rws H [v] [r] := Paired.cons h Paired.nil
theorem Rws.get (h : Rws H vs rs) : ∀ {i : Nat}, vs[i]? = some v → ∃ w, rs[i]? = some w ∧ IsR H v w := by
  unfold Rws at h
  induction h with
  | nil => intro i e; cases i <;> cases e
  | cons r t ih => intro i e; cases i with
    | zero => cases e; exact ⟨_, rfl, r⟩
    | succ n => exact ih e
theorem IsR.dp (h : IsR H v r) : Dp K H v (rD r) := by
  obtain ⟨t, rfl, h⟩ := h
  obtain ⟨s, o⟩ := r
  cases o with
  | none => exact .tup (SqT.of h) (.cons (.str _) .nil)
  | some n => exact .tup (SqT.of h) (.cons (.str _) (.cons (.int _) .nil))
theorem Rws.dpAll (h : Rws H vs rs) : DpAll K H vs (rs.map rD) := by
  unfold Rws at h
  induction h with
  | nil => exact .nil
  | cons r t ih => exact .cons r.dp ih
theorem Rws.dp (h : Rws H vs rs) (e : SqL K H a vs) : Dp K H (.ref a) (.list (rs.map rD)) := .lst e h.dpAll
def Rok (r : Rw) : Prop := PyData.strOk r.1 = true
theorem rD_lay (h : Rok r) : (rD r).canLay0 = true := by
  obtain ⟨s, o⟩ := r
  have h : PyData.strOk s = true := h
  cases o with
  | none =>
    unfold rD rDs
    simp only [PyData.canLay0, PyData.canLayAll0]
    rw [h]; rfl
  | some n =>
    unfold rD rDs
    simp only [PyData.canLay0, PyData.canLayAll0]
    rw [h]; rfl
theorem rD_depth : (rD r).depth = 1 := by
  obtain ⟨s, o⟩ := r
  cases o <;> simp [rD, rDs, PyData.depth, PyData.depthAll]
theorem rDs_lay : ∀ rs : List Rw, (∀ w ∈ rs, Rok w) → PyData.canLayAll0 (rs.map rD) = true
  | [], _ => by simp [PyData.canLayAll0]
  | w :: rs, h => by
    rw [List.map_cons]
    simp only [PyData.canLayAll0]
    rw [rD_lay (h w List.mem_cons_self), rDs_lay rs (fun x hx => h x (List.mem_cons_of_mem _ hx))] <;> rfl
theorem rDs_depth : ∀ rs : List Rw, PyData.depthAll (rs.map rD) ≤ 1
  | [] => by simp [PyData.depthAll]
  | w :: rs => by
    have h := rDs_depth rs
    rw [List.map_cons]
    simp only [PyData.depthAll]
    rw [rD_depth]
    omega
theorem rDs_shaped (h : ∀ w ∈ rs, Rok w) : SeqAt.shaped (.list (rs.map rD)) = true := by
  have h2 := rDs_depth rs
  have h3 : (PyData.list (rs.map rD)).depth ≤ 64 := by
    simp only [PyData.depth]
    omega
  show (PyData.canLay0 (.list (rs.map rD)) && decide ((PyData.list (rs.map rD)).depth ≤ 64)) = true
  rw [decide_eq_true h3, Bool.and_true]
  simp only [PyData.canLay0]
  exact rDs_lay rs h
end
/-! ### which rows there are -/
def bareL : List Str := ["add", "less", "box", "get", "set", "tell", "sweep"]
def deepL : List Str := ["pick", "drop", "lift", "go", "back"]
def leadL : List Str := ["keep", "call", "jump", "if"]
def RowOk (m : Int) : Rw → Prop
  | (s, none) => s ∈ bareL
  | (s, some n) => n.natAbs < 10 ^ 60 ∧ (s = "put" ∨ (s ∈ deepL ∧ 0 ≤ n) ∨ (s ∈ leadL ∧ 0 ≤ n ∧ n ≤ m))
def AnyWord (s : Str) : Prop := s ∈ bareL ∨ s = "put" ∨ s ∈ deepL ∨ s ∈ leadL
theorem RowOk.word {m : Int} {r : Rw} (h : RowOk m r) : AnyWord r.1 := by
  obtain ⟨s, o⟩ := r
  cases o with
  | none => exact .inl h
  | some n =>
    obtain ⟨_, h | ⟨h, _⟩ | ⟨h, _⟩⟩ := h
    · exact .inr (.inl h)
    · exact .inr (.inr (.inl h))
    · exact .inr (.inr (.inr h))
def wordOk (s : Str) : Bool := decide (s.length ≤ 5) && decide (1 ≤ s.length) && PyData.strOk s && s.cps.toList.all fun c => decide (c ≠ 32) && decide (c ≠ 59)
theorem word_ok {s : Str} (h : AnyWord s) : wordOk s = true := by
  have all : (bareL ++ [("put" : Str)] ++ deepL ++ leadL).all wordOk = true := by decide +kernel
  rw [List.all_eq_true] at all
  refine all s ?_
  rw [List.mem_append, List.mem_append, List.mem_append, List.mem_singleton]
  rcases h with h | h | h | h
  · exact .inl (.inl (.inl h))
  · exact .inl (.inl (.inr h))
  · exact .inl (.inr h)
  · exact .inr h
structure WordF (s : Str) : Prop where
  len : s.length ≤ 5
  pos : 1 ≤ s.length
  ok : PyData.strOk s = true
  no32 : 32 ∉ TL.tl s
  no59 : 59 ∉ TL.tl s
theorem word_f {s : Str} (h : AnyWord s) : WordF s := by
  have e := word_ok h
  unfold wordOk at e
  rw [Bool.and_eq_true, Bool.and_eq_true, Bool.and_eq_true] at e
  obtain ⟨⟨⟨e1, e2⟩, e3⟩, e4⟩ := e
  rw [List.all_eq_true] at e4
  refine ⟨of_decide_eq_true e1, of_decide_eq_true e2, e3, fun m => ?_, fun m => ?_⟩
  · have := e4 32 m
    revert this; decide
  · have := e4 59 m
    revert this; decide
/-! ### their texts -/
def rText : Rw → Str
  | (s, none) => s
  | (s, some n) => s ++ " " ++ numT n
def gText (rs : List Rw) : Str := Txt.join "; " (rs.map rText)
theorem sp_cps : TL.tl (" " : Str) = [32] := by decide +kernel
theorem semi_cps : TL.tl ("; " : Str) = [59, 32] := by decide +kernel
theorem numT_free {n : Int} : 32 ∉ TL.tl (numT n) ∧ 59 ∉ TL.tl (numT n) := by
  by_cases c : 0 ≤ n
  · obtain ⟨m, rfl⟩ : ∃ m : Nat, n = (m : Int) := ⟨n.natAbs, by omega⟩
    have e : TL.tl (numT (m : Int)) = TL.numL m := numT_nat m
    rw [e]
    exact ⟨fun h => by have := TL.numL_digits m _ h; omega, fun h => by have := TL.numL_digits m _ h; omega⟩
  · obtain ⟨m, rfl⟩ : ∃ m : Nat, n = -(m : Int) := ⟨n.natAbs, by omega⟩
    have e : TL.tl (numT (-(m : Int))) = 45 :: TL.numL m := numT_neg (by omega)
    rw [e]
    exact ⟨fun h => by
      rcases List.mem_cons.mp h with h | h
      · omega
      · have := TL.numL_digits m _ h; omega, fun h => by
      rcases List.mem_cons.mp h with h | h
      · omega
      · have := TL.numL_digits m _ h; omega⟩
theorem rText_tl {s : Str} {n : Int} : TL.tl (rText (s, some n)) = TL.tl s ++ ([32] ++ TL.tl (numT n)) := by
  show TL.tl (s ++ " " ++ numT n) = _
  rw [TL.tl_append, TL.tl_append, sp_cps, List.append_assoc]
theorem rText_free {m : Int} {r : Rw} (h : RowOk m r) : 59 ∉ TL.tl (rText r) := by
  have w := word_f h.word
  obtain ⟨s, o⟩ := r
  cases o with
  | none => exact w.no59
  | some n =>
    rw [rText_tl]
    intro h
    rcases List.mem_append.mp h with h | h
    · exact w.no59 h
    · rcases List.mem_append.mp h with h | h
      · rw [List.mem_singleton] at h; omega
      · exact numT_free.2 h
theorem rText_len {m : Int} {r : Rw} (h : RowOk m r) : 1 ≤ (rText r).length ∧ (rText r).length ≤ 67 := by
  have w := word_f h.word
  obtain ⟨s, o⟩ := r
  have w1 : 1 ≤ s.length := w.pos
  have w2 : s.length ≤ 5 := w.len
  cases o with
  | none => exact ⟨w1, Nat.le_trans w2 (by decide)⟩
  | some n =>
    have h1 := numT_any h.1
    show 1 ≤ (s ++ " " ++ numT n).length ∧ (s ++ " " ++ numT n).length ≤ 67
    rw [Wp.app_len, Wp.app_len, show (" " : Str).length = 1 by decide +kernel]
    omega
theorem rText_join {s : Str} {n : Int} : Txt.join " " [s, numT n] = rText (s, some n) := by
  rw [TL.join_eq] <;> rfl
theorem rText_join1 {s : Str} : Txt.join " " [s] = rText (s, none) := by
  rw [TL.join_eq] <;> rfl
theorem part_bare {s : Str} (h : WordF s) : Txt.partition s " " = (s, Str.empty, Str.empty) := by
  rw [TL.partition_par _ _ (by rw [sp_cps]; simp), sp_cps, TL.par_none1 h.no32]
theorem part_num {s : Str} {n : Int} (h : WordF s) : Txt.partition (rText (s, some n)) " " = (s, (" " : Str), numT n) := by
  rw [TL.partition_par _ _ (by rw [sp_cps]; simp), sp_cps, rText_tl, TL.par_part1 (S := []) h.no32]
  show ((⟨([] ++ TL.tl s).toArray⟩ : Str), (" " : Str), (⟨(TL.tl (numT n)).toArray⟩ : Str)) = _
  rw [List.nil_append]
theorem joinL_len (S : List Nat) {b : Nat} : ∀ ps : List (List Nat), (∀ l ∈ ps, l.length ≤ b) → (TL.joinL S ps).length ≤ ps.length * (b + S.length)
  | [], _ => Nat.zero_le _
  | [p], h => by
    have := h p List.mem_cons_self
    show p.length ≤ 1 * (b + S.length)
    omega
  | p :: q :: r, h => by
    have h1 := h p List.mem_cons_self
    have h2 := joinL_len S (q :: r) (fun l hl => h l (List.mem_cons_of_mem _ hl))
    show (p ++ (S ++ TL.joinL S (q :: r))).length ≤ (q :: r).length.succ * (b + S.length)
    rw [List.length_append, List.length_append, Nat.succ_mul]
    omega
theorem gText_tl (rs : List Rw) : TL.tl (gText rs) = TL.joinL [59, 32] ((rs.map rText).map TL.tl) := by
  unfold gText
  rw [TL.join_eq, TL.tl_join, semi_cps]
theorem gText_len {m : Int} {rs : List Rw} (h : ∀ r ∈ rs, RowOk m r) (hl : rs.length ≤ 100) : (gText rs).length ≤ 6900 := by
  rw [TL.len_tl, gText_tl]
  have h2 := joinL_len [59, 32] (b := 67) ((rs.map rText).map TL.tl) (fun l hl => by
    rw [List.map_map] at hl
    obtain ⟨z, hz, rfl⟩ := List.mem_map.mp hl
    have := (rText_len (h z hz)).2
    rw [TL.len_tl] at this
    exact this)
  rw [List.length_map, List.length_map] at h2
  have : rs.length * (67 + [59, 32].length) ≤ 100 * 69 := Nat.mul_le_mul hl (by decide)
  omega
theorem gText_ne {m : Int} {rs : List Rw} (h : ∀ r ∈ rs, RowOk m r) (n : rs ≠ []) : gText rs ≠ "" := by
  intro e
  cases rs with
  | nil => exact n rfl
  | cons z rs =>
    have e2 : TL.tl (gText (z :: rs)) = [] := by rw [e]; decide +kernel
    have hz := (rText_len (h z List.mem_cons_self)).1
    rw [gText_tl] at e2
    rw [TL.len_tl] at hz
    cases rs with
    | nil =>
      have e2 : TL.tl (rText z) = [] := e2
      rw [e2] at hz
      exact absurd hz (by decide)
    | cons q rs =>
      have e2 : TL.tl (rText z) ++ ([59, 32] ++ TL.joinL [59, 32] (((q :: rs).map rText).map TL.tl)) = [] := e2
      have := (List.append_eq_nil_iff.mp e2).2
      simp at this
theorem gText_split {m : Int} {rs : List Rw} (h : ∀ r ∈ rs, RowOk m r) (n : rs ≠ []) : Txt.split (gText rs) "; " = rs.map rText := by
  refine TL.split_join (s := 59) (S := [32]) semi_cps (by decide +kernel) (fun e => n (List.map_eq_nil_iff.mp e)) fun p hp => ?_
  obtain ⟨z, hz, rfl⟩ := List.mem_map.mp hp
  exact rText_free (h z hz)
theorem RowOk.rok {m : Int} {r : Rw} (h : RowOk m r) : Rok r := (word_f h.word).ok
theorem cut_head {z : Str} {c : Nat} {r : List Nat} (h : z.cps.toList = c :: r) : cutS z none (some 1) = ⟨#[c]⟩ := by
  refine TL.ext_tl ?_
  show (((z.cps.toList.drop (HT.sIx z.length 0 none)).take (HT.sIx z.length z.length (some ((1 : Nat) : Int)) - HT.sIx z.length 0 none)).toArray).toList = [c]
  rw [show HT.sIx z.length 0 none = 0 from HT.sIx_none .., show HT.sIx z.length z.length (some ((1 : Nat) : Int)) = min 1 z.length from HT.sIx_nat ..]
  have hl : z.length = r.length + 1 := by
    show z.cps.size = _
    rw [← Array.length_toList, h] <;> rfl
  rw [hl, Nat.min_eq_left (by omega), h] <;> rfl
theorem cut_tail {z : Str} {c : Nat} {r : List Nat} (h : z.cps.toList = c :: r) : (cutS z (some 1) none).cps.toList = r := by
  show (((z.cps.toList.drop (HT.sIx z.length 0 (some ((1 : Nat) : Int)))).take (HT.sIx z.length z.length none - HT.sIx z.length 0 (some ((1 : Nat) : Int)))).toArray).toList = r
  rw [show HT.sIx z.length z.length none = z.length from HT.sIx_none .., show HT.sIx z.length 0 (some ((1 : Nat) : Int)) = min 1 z.length from HT.sIx_nat ..]
  have hl : z.length = r.length + 1 := by
    show z.cps.size = _
    rw [← Array.length_toList, h] <;> rfl
  rw [hl, Nat.min_eq_left (by omega), h]
  show (r.take (r.length + 1 - 1)).toArray.toList = r
  rw [Nat.add_sub_cancel, List.take_of_length_le (Nat.le_refl _)]
theorem sgn_inj {c d : Nat} (h : (⟨#[c]⟩ : Str) = ⟨#[d]⟩) : c = d := by
  have e2 : (#[c] : Array Nat) = #[d] := congrArg Str.cps h
  exact (List.cons.inj (congrArg Array.toList e2)).1
/-! ### str of anything -/
def rStrAny : List V → Hp → VK → Prop := fun xs H Q => (∃ a, xs = [.str a] ∧ Q (.str a) H) ∨ (∃ i : Int, xs = [.int i] ∧ i.natAbs.log2 < 1920 ∧ Q (.str (toString i)) H)
theorem call_strAny {X : Cx} : CallR X (.type "str") rStrAny := by
  intro pins s σ H xs us Q I r h
  rcases h with h | h
  · exact SkE.call_str_str pins s σ H xs us Q I r h
  · exact call_str_int pins s σ H xs us Q I r h
def rJoin (K : PySem.W.Frag) : V → List V → Hp → VK → Prop := fun x xs H Q => ∃ a p, ∃ ys : List Str, x = .str a ∧ xs = [.ref p] ∧ (SqL K H p (ys.map V.str) ∨ SqT K H p (ys.map V.str)) ∧ (ys.map (·.length)).sum + ys.length * a.length ≤ 16777216 ∧ Q (.str (Txt.join a ys)) H
theorem pe_joinK {X : Cx} {o e : Expr} {to te : TE} {apos pos : Pos} (ho : PE X o to) (he : PE X e te) (hs : starEach [e] X.env = [(false, eval e X.env)] := by rfl) (hbase : attributeBase o "join" X.env (eval o X.env) = eval o X.env := by rfl) (hline : (apos.endLine == pos.line) = true := by rfl) :
    PE X (.Call (.Attribute o "join" apos) [e] [] pos) (tM1 (rJoin X.K) to te) := pe_join ho he hs hbase hline
theorem Vals1 {v : V} {u : Value} (r : RelV v u) : Vals [v] [u] := .cons r .nil
theorem loop_setLc {ta : TE} {σ : L2.St} {H : Hp} {Q : VK} {te : TE} {g : TG} {tt : TT} {vs : List Nat} {K : PySem.W.Frag} (h : ta σ H fun x H1 => ∃ a, x = .ref a ∧ (∃ xs, SqT K H1 a xs) ∧ ∀ D, H1 D = none → LoopC (Itt K a) g tt te vs σ D (fun H => Q (.ref D) H) (upd H1 D (.lst []))) : tLc (iTup K ta) g tt te vs σ H Q := h
theorem loopCT {K : PySem.W.Frag} {a : Addr} {xs : List V} {g : TG} {tt : TT} {te : TE} {vs : List Nat} {D : Addr} {Qd : Hp → Prop} {σ : L2.St} {H : Hp} (Pv : Nat → Hp → Prop) (h0 : Pv 0 H) (hl : ∀ i H, i ≤ xs.length → Pv i H → SqT K H a xs)
    (hs : ∀ i x H, xs[i]? = some x → Pv i H → g x (wipe σ vs) H fun σ2 H2 => wipe σ2 vs = wipe σ vs ∧ tt σ2 H2 fun b H3 =>
      if b = true then te σ2 H3 fun y H4 => ∃ acc, H4 D = some (.lst acc) ∧ acc.length < sizeLine ∧ Pv (i + 1) (upd H4 D (.lst (acc ++ [y]))) else Pv (i + 1) H3) (hd : ∀ H, Pv xs.length H → Qd H) : LoopC (Itt K a) g tt te vs σ D Qd H := by
  refine ⟨fun i m H => m = xs.length - i ∧ i ≤ xs.length ∧ Pv i H, ⟨xs.length, by simp, Nat.zero_le _, h0⟩, ?_⟩
  rintro i m H ⟨rfl, hi, p⟩
  have q := hl i H hi p
  by_cases hlt : i < xs.length
  · refine .inr ⟨⟨xs, xs[i], q, by simp [hlt]⟩, Pv (i + 1), fun H' p' => ⟨xs.length - (i + 1), by omega, rfl, hlt, p'⟩, fun x H' y => ?_⟩
    obtain ⟨e, y⟩ := y
    subst e
    exact hs i x _ (y xs q) p
  · have e : i = xs.length := by omega
    subst e
    exact .inl ⟨⟨xs, q, Nat.le_refl _⟩, hd H p⟩
theorem inV_str {z : Str} : ∀ l : List Str, inV (.str z) (l.map V.str) = decide (z ∈ l)
  | [] => rfl
  | y :: l => by
    have ih := inV_str (z := z) l
    unfold inV at ih ⊢
    rw [List.map_cons, List.any_cons, ih]
    have e : eqV (.str y) (.str z) = decide (y = z) := by
      show decide _ = _ 
      exact decide_eq_decide.mpr ⟨fun h => by first | exact V.str.inj h | exact h, fun h => by first | exact congrArg V.str h | exact h⟩
    rw [e]
    by_cases c : y = z
    · subst c; simp
    · rw [decide_eq_false c, Bool.false_or]
      exact decide_eq_decide.mpr ⟨fun h => List.mem_cons_of_mem _ h, fun h => (List.mem_cons.mp h).elim (fun q => absurd q.symm c) id⟩
theorem flat_strs : ∀ l : List Str, (l.map V.str).all flatV = true
  | [] => rfl
  | _ :: l => by rw [List.map_cons, List.all_cons, flat_strs l] <;> rfl
theorem inT {K : PySem.W.Frag} {H : Hp} {p : Addr} {z : Str} {l : List Str} {Q : VK} (h : SqT K H p (l.map V.str)) (q : Q (.bl (decide (z ∈ l))) H) : rIn K false (.str z) (.ref p) H Q :=
  ⟨p, _, rfl, .inr h, rfl, flat_strs l, by rw [inV_str]; exact q⟩
/-- the three kinds of words are apart -/
theorem lead_deep {s : Str} (h : s ∈ leadL) : s ∉ deepL := by
  have e : leadL.all (fun s => decide (s ∉ deepL)) = true := by decide +kernel
  rw [List.all_eq_true] at e
  exact of_decide_eq_true (e s h)
theorem put_apart : ("put" : Str) ∉ deepL ∧ ("put" : Str) ∉ leadL := by decide +kernel
end Wrw

namespace K56
open PySem PySem.Spec PyProof.Rows L2 Wp Wq Wr Wt Wrw
/-! ### the text by places -/
def topS (i : Nat) : Stmt := PySem.Challenge.pw_manygoings_k56_programs_written_and_read.main.body.getD i (.Pass ⟨0, 0, 0, 0⟩)
abbrev s_is_number : Stmt := topS 6
abbrev s_check_text : Stmt := topS 7
abbrev s_read_number : Stmt := topS 8
abbrev s_read_signed : Stmt := topS 9
abbrev s_is_row : Stmt := topS 14
abbrev s_is_program : Stmt := topS 15
abbrev s_show_program : Stmt := topS 17
abbrev s_read_row : Stmt := topS 18
abbrev s_read_program : Stmt := topS 19
abbrev s_cell_at : Stmt := topS 21
abbrev s_stir : Stmt := topS 22
abbrev s_well : Stmt := topS 23
abbrev s_draw : Stmt := topS 24
abbrev s_wide : Stmt := topS 25
abbrev s_row : Stmt := topS 26
abbrev s_program : Stmt := topS 27
abbrev s_shown : Stmt := topS 28
abbrev s_alike : Stmt := topS 29
abbrev s_law : Stmt := topS 30
theorem sc_is_number : FnScope ["thing"] ["thing"] (defScope s_is_number) := ⟨rfl, rfl, rfl, by decide +kernel, rfl, by decide +kernel, by decide +kernel⟩
theorem sc_check_text : FnScope ["text"] ["text"] (defScope s_check_text) := ⟨rfl, rfl, rfl, by decide +kernel, rfl, by decide +kernel, by decide +kernel⟩
theorem sc_read_number : FnScope ["text", "sign"] ["text"] (defScope s_read_number) := ⟨rfl, rfl, rfl, by decide +kernel, rfl, by decide +kernel, by decide +kernel⟩
theorem sc_read_signed : FnScope ["text", "number"] ["text"] (defScope s_read_signed) := ⟨rfl, rfl, rfl, by decide +kernel, rfl, by decide +kernel, by decide +kernel⟩
theorem sc_is_row : FnScope ["thing", "many", "word", "number"] ["thing", "many"] (defScope s_is_row) := ⟨rfl, rfl, rfl, by decide +kernel, rfl, by decide +kernel, by decide +kernel⟩
theorem sc_is_program : FnScope ["thing", "row"] ["thing"] (defScope s_is_program) := ⟨rfl, rfl, rfl, by decide +kernel, rfl, by decide +kernel, by decide +kernel⟩
theorem sc_show_program : FnScope ["rows", "row", "word"] ["rows"] (defScope s_show_program) := ⟨rfl, rfl, rfl, by decide +kernel, rfl, by decide +kernel, by decide +kernel⟩
theorem sc_read_row : FnScope ["part", "word", "blank", "figures"] ["part"] (defScope s_read_row) := ⟨rfl, rfl, rfl, by decide +kernel, rfl, by decide +kernel, by decide +kernel⟩
theorem sc_read_program : FnScope ["text", "rows", "part"] ["text"] (defScope s_read_program) := ⟨rfl, rfl, rfl, by decide +kernel, rfl, by decide +kernel, by decide +kernel⟩
theorem sc_cell_at : FnScope ["script", "k"] ["script", "k"] (defScope s_cell_at) := ⟨rfl, rfl, rfl, by decide +kernel, rfl, by decide +kernel, by decide +kernel⟩
theorem sc_stir : FnScope ["seed", "turn", "number"] ["seed", "turn"] (defScope s_stir) := ⟨rfl, rfl, rfl, by decide +kernel, rfl, by decide +kernel, by decide +kernel⟩
theorem sc_well : FnScope ["cell", "k", "seed"] ["cell", "k"] (defScope s_well) := ⟨rfl, rfl, rfl, by decide +kernel, rfl, by decide +kernel, by decide +kernel⟩
theorem sc_draw : FnScope ["well", "many", "taken"] ["well", "many"] (defScope s_draw) := ⟨rfl, rfl, rfl, by decide +kernel, rfl, by decide +kernel, by decide +kernel⟩
theorem sc_wide : FnScope ["well", "number"] ["well"] (defScope s_wide) := ⟨rfl, rfl, rfl, by decide +kernel, rfl, by decide +kernel, by decide +kernel⟩
theorem sc_row : FnScope ["well", "many", "words", "at", "number"] ["well", "many"] (defScope s_row) := ⟨rfl, rfl, rfl, by decide +kernel, rfl, by decide +kernel, by decide +kernel⟩
theorem sc_program : FnScope ["cells", "most", "head", "many", "k"] ["cells", "most"] (defScope s_program) := ⟨rfl, rfl, rfl, by decide +kernel, rfl, by decide +kernel, by decide +kernel⟩
theorem sc_shown : FnScope ["rows", "parts", "row"] ["rows"] (defScope s_shown) := ⟨rfl, rfl, rfl, by decide +kernel, rfl, by decide +kernel, by decide +kernel⟩
theorem sc_alike : FnScope ["found", "rows", "row"] ["found", "rows"] (defScope s_alike) := ⟨rfl, rfl, rfl, by decide +kernel, rfl, by decide +kernel, by decide +kernel⟩
theorem sc_law : FnScope ["script", "rows", "handed", "text", "found"] ["script"] (defScope s_law) := ⟨rfl, rfl, rfl, by decide +kernel, rfl, by decide +kernel, by decide +kernel⟩
/-! ### the facts of the top -/
structure Txt (P : Program) (w : World) (K : PySem.W.Frag) (mg : Str → Option Value) where
  f_is_number : Addr
  fd_is_number : FuncData
  F_is_number : Fun K "is_number" "is_number" s_is_number f_is_number fd_is_number
  b_is_number : Binds K fd_is_number ["thing"] []
  g_is_number : mg "is_number" = some (.ref f_is_number)
  f_check_text : Addr
  fd_check_text : FuncData
  F_check_text : Fun K "check_text" "check_text" s_check_text f_check_text fd_check_text
  b_check_text : Binds K fd_check_text ["text"] []
  g_check_text : mg "check_text" = some (.ref f_check_text)
  f_read_number : Addr
  fd_read_number : FuncData
  F_read_number : Fun K "read_number" "read_number" s_read_number f_read_number fd_read_number
  b_read_number : Binds K fd_read_number ["text"] []
  g_read_number : mg "read_number" = some (.ref f_read_number)
  f_read_signed : Addr
  fd_read_signed : FuncData
  F_read_signed : Fun K "read_signed" "read_signed" s_read_signed f_read_signed fd_read_signed
  b_read_signed : Binds K fd_read_signed ["text"] []
  g_read_signed : mg "read_signed" = some (.ref f_read_signed)
  f_is_row : Addr
  fd_is_row : FuncData
  F_is_row : Fun K "is_row" "is_row" s_is_row f_is_row fd_is_row
  b_is_row : Binds K fd_is_row ["thing", "many"] []
  g_is_row : mg "is_row" = some (.ref f_is_row)
  f_is_program : Addr
  fd_is_program : FuncData
  F_is_program : Fun K "is_program" "is_program" s_is_program f_is_program fd_is_program
  b_is_program : Binds K fd_is_program ["thing"] []
  g_is_program : mg "is_program" = some (.ref f_is_program)
  f_show_program : Addr
  fd_show_program : FuncData
  F_show_program : Fun K "show_program" "show_program" s_show_program f_show_program fd_show_program
  b_show_program : Binds K fd_show_program ["rows"] []
  g_show_program : mg "show_program" = some (.ref f_show_program)
  f_read_row : Addr
  fd_read_row : FuncData
  F_read_row : Fun K "read_row" "read_row" s_read_row f_read_row fd_read_row
  b_read_row : Binds K fd_read_row ["part"] []
  g_read_row : mg "read_row" = some (.ref f_read_row)
  f_read_program : Addr
  fd_read_program : FuncData
  F_read_program : Fun K "read_program" "read_program" s_read_program f_read_program fd_read_program
  b_read_program : Binds K fd_read_program ["text"] []
  g_read_program : mg "read_program" = some (.ref f_read_program)
  f_cell_at : Addr
  fd_cell_at : FuncData
  F_cell_at : Fun K "_law_cell_at" "_law_cell_at" s_cell_at f_cell_at fd_cell_at
  b_cell_at : Binds K fd_cell_at ["script", "k"] []
  g_cell_at : mg "_law_cell_at" = some (.ref f_cell_at)
  f_stir : Addr
  fd_stir : FuncData
  F_stir : Fun K "_law_stir" "_law_stir" s_stir f_stir fd_stir
  b_stir : Binds K fd_stir ["seed", "turn"] []
  g_stir : mg "_law_stir" = some (.ref f_stir)
  f_well : Addr
  fd_well : FuncData
  F_well : Fun K "_law_well" "_law_well" s_well f_well fd_well
  b_well : Binds K fd_well ["cell", "k"] []
  g_well : mg "_law_well" = some (.ref f_well)
  f_draw : Addr
  fd_draw : FuncData
  F_draw : Fun K "_law_draw" "_law_draw" s_draw f_draw fd_draw
  b_draw : Binds K fd_draw ["well", "many"] []
  g_draw : mg "_law_draw" = some (.ref f_draw)
  f_wide : Addr
  fd_wide : FuncData
  F_wide : Fun K "_law_wide" "_law_wide" s_wide f_wide fd_wide
  b_wide : Binds K fd_wide ["well"] []
  g_wide : mg "_law_wide" = some (.ref f_wide)
  f_row : Addr
  fd_row : FuncData
  F_row : Fun K "_law_row" "_law_row" s_row f_row fd_row
  b_row : Binds K fd_row ["well", "many"] []
  g_row : mg "_law_row" = some (.ref f_row)
  f_program : Addr
  fd_program : FuncData
  F_program : Fun K "_law_program" "_law_program" s_program f_program fd_program
  b_program : Binds K fd_program ["cells", "most"] []
  g_program : mg "_law_program" = some (.ref f_program)
  f_shown : Addr
  fd_shown : FuncData
  F_shown : Fun K "_law_shown" "_law_shown" s_shown f_shown fd_shown
  b_shown : Binds K fd_shown ["rows"] []
  g_shown : mg "_law_shown" = some (.ref f_shown)
  f_alike : Addr
  fd_alike : FuncData
  F_alike : Fun K "_law_alike" "_law_alike" s_alike f_alike fd_alike
  b_alike : Binds K fd_alike ["found", "rows"] []
  g_alike : mg "_law_alike" = some (.ref f_alike)
  f_law : Addr
  fd_law : FuncData
  F_law : Fun K "law" "law" s_law f_law fd_law
  b_law : Binds K fd_law ["script"] []
  g_law : mg "law" = some (.ref f_law)
  n_all : mg "all" = none
  n_any : mg "any" = none
  n_bool : mg "bool" = none
  n_int : mg "int" = none
  n_isinstance : mg "isinstance" = none
  n_len : mg "len" = none
  n_list : mg "list" = none
  n_max : mg "max" = none
  n_min : mg "min" = none
  n_range : mg "range" = none
  n_str : mg "str" = none
  n_tuple : mg "tuple" = none
  n_type : mg "type" = none
  t_FIGURES : Tok
  c_FIGURES : mg "FIGURES" = some (.str "0123456789" t_FIGURES)
  t_MOST_FIGURES : Tok
  c_MOST_FIGURES : mg "MOST_FIGURES" = some (.int 60 t_MOST_FIGURES)
  d_BARE : Addr
  c_BARE : mg "BARE" = some (.ref d_BARE)
  q_BARE : ∀ H : Hp, SqT K H d_BARE [V.str "add", V.str "less", V.str "box", V.str "get", V.str "set", V.str "tell", V.str "sweep"]
  d_DEEP : Addr
  c_DEEP : mg "DEEP" = some (.ref d_DEEP)
  q_DEEP : ∀ H : Hp, SqT K H d_DEEP [V.str "pick", V.str "drop", V.str "lift", V.str "go", V.str "back"]
  d_LEADING : Addr
  c_LEADING : mg "LEADING" = some (.ref d_LEADING)
  q_LEADING : ∀ H : Hp, SqT K H d_LEADING [V.str "keep", V.str "call", V.str "jump", V.str "if"]

local macro_rules | `(tactic| walk_at "ne") => `(tactic| first
  | assumption
  | (refine Ne.symm ?_; assumption)
  | exact ne_of_none (by assumption) (by assumption)
  | exact (ne_of_none (by assumption) (by assumption)).symm
  | exact ne_of (by assumption) (by assumption) (by intro q; cases q))
local macro_rules | `(tactic| walk_at "hp") => `(tactic| first
  | assumption
  | exact upd_same
  | (refine (upd_ne ?_).trans ?_; (walk_at "ne"); (walk_at "hp")))
local macro_rules | `(tactic| walk_at "sq") => `(tactic| first
  | assumption
  | exact SqL.of (by walk_at "hp")
  | exact SqT.of (by walk_at "hp"))
local macro_rules | `(tactic| walk_at "kind") => `(tactic| first
  | assumption
  | exact Kind.int _
  | exact Kind.str _
  | exact Kind.bl _
  | exact Kind.non
  | exact Kind.tup (by walk_at "hp")
  | exact Kind.lst (by walk_at "hp")
  | exact Kind.dK (by walk_at "hp"))
local macro_rules | `(tactic| walk_at "w1") => `(tactic| first
  | (with_reducible refine Wp.seq ?_)
  | (with_reducible refine Wp.nx_mk ?_)
  | (with_reducible refine Wp.rt_mk ?_)
  | (with_reducible refine Wp.bk_mk ?_)
  | (with_reducible refine Wp.ct_mk ?_)
  | (with_reducible refine Wp.next ?_)
  | (with_reducible refine Wp.asg ?_)
  | ((with_reducible refine' Wp.gname ?e ?_); (case e => (try dsimp only [List.set, L2.wipe, List.map_cons, List.map_nil]); (try exact rfl)))
  | (with_reducible refine Wp.gsub ?_)
  | (with_reducible refine Wp.ret ?_)
  | (with_reducible refine Wp.retN ?_)
  | (with_reducible refine Wp.drop ?_)
  | (with_reducible refine Wp.dput ?_)
  | (with_reducible refine Wp.ifs ?_)
  | ((with_reducible refine' Wp.var ?h ?_); (case h => exact rfl))
  | (with_reducible refine Wp.con ?_)
  | (with_reducible refine Wp.op ?_)
  | (with_reducible refine Wp.un ?_)
  | (with_reducible refine Wp.cb ?_)
  | (with_reducible refine Wp.anil ?_)
  | (with_reducible refine Wp.acons ?_)
  | (with_reducible refine Wp.call ?_)
  | (with_reducible refine Wp.test ?_)
  | (with_reducible refine Wp.tb_ ?_)
  | (with_reducible refine Wp.and_ ?_)
  | (with_reducible refine Wp.or_ ?_)
  | (with_reducible refine Wp.not_ ?_)
  | (with_reducible refine Wp.andV ?_)
  | (with_reducible refine Wp.orV ?_)
  | (with_reducible refine Wp.notV ?_)
  | (with_reducible refine Wp.rI0_ ?_)
  | (with_reducible refine Wp.rU_ ?_)
  | ((with_reducible refine Wp.rEq_ ?k ?_); (case k => exact rfl))
  | ((with_reducible refine Wp.rNe_ ?k ?_); (case k => exact rfl))
  | (with_reducible refine Wp.gcons ?_)
  | (with_reducible refine Wp.gnil ?_)
  | ((with_reducible refine' Wp.gtup ?h ?e ?_); (case h => walk_at "sq"); (case e => exact rfl))
  | (with_reducible refine Wp.sl ?_)
  | (with_reducible refine Wp.part ?_)
  | (with_reducible refine Wp.nopart ?_)
  | (with_reducible refine Wp.ifE ?_)
  | (with_reducible refine Wp.bm0 ?_)
  | (with_reducible refine Wp.bm ?_)
  | (with_reducible refine Wp.lcR1 ?_)
  | (with_reducible refine Wp.lcR2 ?_)
  | (with_reducible refine Wp.lcL ?_)
  | (with_reducible refine Wp.chain ?_)
  | (with_reducible refine Wp.lc2V ?_)
  | (with_reducible refine Wp.piL ?_)
  | (with_reducible refine Wp.yes ?_)
  | (with_reducible refine Wp.dinI ?_)
  | (with_reducible refine Wp.dninI ?_)
  | (with_reducible refine Wp.dget ?_)
  | ((with_reducible refine' ⟨?k, ?_⟩); (case k => show L2.wipe _ _ = L2.wipe _ _; exact rfl))
  | (with_reducible refine Wp.forR1 ?_)
  | (with_reducible refine Wp.forR2 ?_)
  | (with_reducible refine Wp.forL ?_)
  | (with_reducible refine Wp.forT ?_)
  | ((with_reducible refine' ⟨?k, ?_⟩); (case k => exact Wp.tyvL (by walk_at "hp")))
  | ((with_reducible refine' Wp.rev_ ?k ?_); (case k => walk_at "hp"))
  | ((with_reducible refine' Wp.isi ?k ?h ?_); (case k => walk_at "kind"); (case h => decide))
  | ((with_reducible refine' Wp.typ ?k ?_); (case k => walk_at "kind"))
  | (with_reducible refine Wp.slS ?k ?_; (case k => assumption))
  | (with_reducible refine iteT ?_)
  | (with_reducible refine iteF ?_)
  | (with_reducible refine Wz.par ?_)
  | (with_reducible refine Wz.forN ?_)
  | (with_reducible refine Wz.dcL ?_)
  | (with_reducible refine Wz.forZ ?_)
  | (with_reducible refine Wz.lcR3 ?_)
  | (with_reducible refine Wc.revL ?_)
  | (with_reducible refine Wd.nm ?_)
  | (with_reducible refine Wd.nget ?_)
  | ((with_reducible refine Wd.tnew ?_); intro p hp)
  | (with_reducible refine Wd.pikn ?_)
  | (with_reducible refine Wt.m1 ?_)
  | (with_reducible refine Wt.m0 ?_)
  | ((with_reducible refine' ⟨?k, ?_⟩); (case k => show ∃ a, _ = V.str a; exact ⟨_, rfl⟩))
  | (with_reducible refine Wt.js_cons ?_)
  | (with_reducible refine Wt.fmt_ ?_)
  | (with_reducible refine Wp.pcons ?_)
  | (with_reducible refine Wp.pnil ?_)
  | ((with_reducible refine' Wp.iteBnT ?h ?_); (case h => show isB _ _ = false; decide))
  | ((with_reducible refine' Wp.iteBnF ?h ?_); (case h => show isB _ _ = true; decide))
  | ((with_reducible refine' Wp.iteBt ?h ?_); (case h => show isB _ _ = true; decide))
  | ((with_reducible refine' Wp.iteBf ?h ?_); (case h => show isB _ _ = false; decide))
  | (with_reducible refine Wp.iteT' ?_)
  | (with_reducible refine Wp.iteF' ?_)
  | (with_reducible refine Wp.rNT_ ?_)
  | ((with_reducible refine Wp.lst ?_))
  | ((with_reducible refine Wp.tup ?_))
  | ((with_reducible refine' Wp.ixL ?h ?e ?_); (case h => walk_at "sq"); (case e => exact rfl))
  | ((with_reducible refine' Wp.ixT ?h ?e ?_); (case h => walk_at "sq"); (case e => exact rfl))
  | ((with_reducible refine' Wp.setL ?h ?e ?_); (case h => walk_at "hp"); (case e => exact rfl))
  | ((with_reducible refine Wp.rI_ ?k ?_); (case k => first | (show (0:Int) < _; omega) | (show CPow _ _; refine' ⟨?_, ?_, ?_⟩ <;> omega) | (show CDiv _ _; refine' ⟨?_, ?_⟩ <;> omega) | (show CMul _ _; refine' Or.inl ⟨?_, ?_⟩ <;> omega) | (show CMul _ _; refine' Or.inr ⟨?_, ?_⟩ <;> first | omega | decide) | (show CDivW _ _; refine' wide_div (b := 240) ?_ ?_ ?_ ?_ <;> first | omega | decide)))
  | ((with_reducible refine ⟨?k, ?_⟩); (case k => first | exact Nat.zero_le _ | (exact Nat.le_of_ble_eq_true rfl)); intro p hp)
  | ((with_reducible refine' ⟨_, _, rfl, .inl ?k, ?_⟩); (case k => walk_at "sq"))
  | ((with_reducible refine' ⟨_, _, rfl, .inr ?k, ?_⟩); (case k => walk_at "sq"))
  | (with_reducible refine ⟨_, rfl, ?_⟩)
  | (with_reducible refine ⟨_, _, rfl, rfl, ?_⟩)
  | (with_reducible refine ⟨_, _, rfl, ?_⟩))
local macro_rules | `(tactic| walk_at "wp") => `(tactic| repeat (walk_at "w1"))

section
variable {P : Program} {w : World} {K : PySem.W.Frag} {mg : Str → Option Value} {base : Heap}
def spStir : Sp := fun vs H Q _ => ∃ seed turn : Int, vs = [.int seed, .int turn] ∧ 0 ≤ seed ∧ seed < 10 ^ 43 ∧ 0 ≤ turn ∧ turn ≤ 10000000 ∧ ∀ v, 0 ≤ v → Q (.int v) H
theorem ok_stir (T : Txt P w K mg) : FnOk P w K mg base CX0 1 T.f_stir T.fd_stir ["seed", "turn"] spStir := by
  refine T.F_stir.ok sc_stir (fun vs H Q E h => ?_) (fun cdv A outer s H vs Q E hr h => ?_)
  · obtain ⟨a, b, rfl, _⟩ := h
    rfl
  · obtain ⟨seed, turn, rfl, s0, s1, t0, t1, q⟩ := h
    refine ⟨_, (pss_cons (ps_set (i := 2) sc_stir.nd rfl (.inl rfl) (pe_op op_add (pe_op op_mulW (pe_op op_add (pv 0) pe_int) pe_int) (pe_op op_mulW (pe_op op_add (pv 1) pe_int) pe_int)))
      (pss_one (ps_ret (pe_op op_mod (pe_op Ww.op_powW (pv 2) pe_int) pe_int)))), ?_⟩
    rw [show L2.start ["seed", "turn", "number"] [.int seed, .int turn] = [some (.int seed), some (.int turn), none] from rfl]
    try dsimp only [cxOf]
    walk_at "wp"
    have b1 : (seed + 1).natAbs < 2 ^ 150 := by
      have e : (10 : Int) ^ 43 < 2 ^ 149 := by decide
      omega
    have b2 : (turn + 1).natAbs < 2 ^ 150 := by omega
    refine rI_ (Ww.mulW (b := 100) b1 (by decide)) ?_
    walk_at "wp"
    refine rI_ (Ww.mulW (b := 100) b2 (by decide)) ?_
    walk_at "wp"
    have b3 : (((seed + 1) * 91736405528000000000000167) + ((turn + 1) * 2846193000000000000000009113)).natAbs < 2 ^ 300 := by
      have e : (10 : Int) ^ 43 < 2 ^ 149 := by decide
      omega
    refine rI_ (Ww.pow5 b3) ?_
    walk_at "wp"
    exact q _ (Int.emod_nonneg _ (by decide))

def spWell : Sp := fun vs H Q _ => ∃ (c : Int) (p : Nat), vs = [.int c, .int p] ∧ p ≤ 1000 ∧ ∀ b H', H b = none → Ww.Well H' b 0 → Same H H' → Q (.ref b) H'
theorem ok_well (T : Txt P w K mg) : FnOk P w K mg base CX0 2 T.f_well T.fd_well ["cell", "k"] spWell := by
  have G_stir := ok_stir (base := base) T
  refine T.F_well.ok sc_well (fun vs H Q E h => ?_) (fun cdv A outer s H vs Q E hr h => ?_)
  · obtain ⟨c, p, rfl, _⟩ := h
    rfl
  · obtain ⟨c, p, rfl, hp, q⟩ := h
    refine ⟨_, (pss_cons (ps_set (i := 2) sc_well.nd rfl (.inl rfl) (pe_op op_add (pe_op op_mul (pe_op op_mod (pv 0) (pe_op op_pow pe_int pe_int)) pe_int) (pv 1)))
      (pss_cons (ps_if (pt_cmpR op_ge (pv 0) (pe_op op_pow pe_int pe_int) (nomark _)) (pss_one (ps_ret (pe_lst (pa_cons (pe_op op_sub (pv 0) (pe_op op_pow pe_int pe_int)) (pa_cons (pv 2) (pa_cons pe_int pa_nil)))))) pss_nil)
      (pss_one (ps_ret (pe_lst (pa_cons (pe_call G_stir (hr.mono (by decide)) (by rfl) T.g_stir T.F_stir.kp T.b_stir .nil pass0 (pa_cons (pv 2) (pa_cons pe_int pa_nil))) (pa_cons (pv 2) (pa_cons pe_int pa_nil)))))))), ?_⟩
    rw [show L2.start ["cell", "k", "seed"] [.int c, .int p] = [some (.int c), some (.int p), none] from rfl]
    try dsimp only [cxOf]
    walk_at "wp"
    refine rI_ (show (0 : Int) < 10 ^ Int.toNat 40 by decide) ?_
    walk_at "wp"
    have m0 : 0 ≤ c % (10 ^ Int.toNat 40) := Int.emod_nonneg _ (by decide)
    have m1 : c % (10 ^ Int.toNat 40) < 10 ^ Int.toNat 40 := Int.emod_lt_of_pos _ (by decide)
    have e40 : (10 : Int) ^ Int.toNat 40 = 10000000000000000000000000000000000000000 := by decide
    have e18 : (10 : Int) ^ Int.toNat 18 = 1000000000000000000 := by decide
    have e43 : (10 : Int) ^ 43 = 10000000000000000000000000000000000000000000 := by decide
    rw [e40] at m0 m1
    refine ite_ (fun h => ?_) (fun h => ?_)
    · walk_at "wp"
      rename_i r hr0
      exact q r _ hr0 ⟨_, _, _, upd_same, by omega, by rw [e40]; omega, by rw [e40, e43]; omega, by decide, by decide⟩ (same_new hr0)
    · walk_at "wp"
      refine ⟨_, _, rfl, by rw [e40]; omega, by rw [e40, e43]; omega, by decide, by decide, fun v v0 => ?_⟩
      walk_at "wp"
      rename_i r hr0
      exact q r _ hr0 ⟨_, _, _, upd_same, v0, by rw [e40]; omega, by rw [e40, e43]; omega, by decide, by decide⟩ (same_new hr0)

def spDraw : Sp := fun vs H Q _ => ∃ (b : Addr) (n : Nat) (m : Int), vs = [.ref b, .int m] ∧ Ww.Well H b n ∧ n < 1000000 ∧ 0 < m ∧ m < 2 ^ 240 ∧ ∀ v H', 0 ≤ v → v < m → Ww.Well H' b (n + 1) → Kp b H H' → Q (.int v) H'
theorem ok_draw (T : Txt P w K mg) : FnOk P w K mg base CX0 2 T.f_draw T.fd_draw ["well", "many"] spDraw := by
  have G_stir := ok_stir (base := base) T
  refine T.F_draw.ok sc_draw (fun vs H Q E h => ?_) (fun cdv A outer s H vs Q E hr h => ?_)
  · obtain ⟨b, n, m, rfl, _⟩ := h
    rfl
  · obtain ⟨b, n, m, rfl, ⟨x, y, z, hb, x0, y0, y1, z0, z1⟩, hn, m0, m1, q⟩ := h
    refine ⟨_, (pss_cons (ps_if (pt_cmpR op_eq (pe_ix ix_list (pv 0) pe_int (fun _ _ => rfl)) pe_int (nomark _)) (pss_cons (ps_asg (pe_op op_add (pe_ix ix_list (pv 0) pe_int (fun _ _ => rfl)) pe_int) (pg_sub (pv 0) pe_int set_list))
      (pss_one (ps_asg (pe_call G_stir (hr.mono (by decide)) (by rfl) T.g_stir T.F_stir.kp T.b_stir .nil pass0 (pa_cons (pe_ix ix_list (pv 0) pe_int (fun _ _ => rfl)) (pa_cons (pe_ix ix_list (pv 0) pe_int (fun _ _ => rfl)) pa_nil))) (pg_sub (pv 0) pe_int set_list)))) pss_nil)
      (pss_cons (ps_set (i := 2) sc_draw.nd rfl (.inl rfl) (pe_op op_mod (pe_ix ix_list (pv 0) pe_int (fun _ _ => rfl)) (pv 1)))
      (pss_cons (ps_asg (pe_op op_fdivW (pe_ix ix_list (pv 0) pe_int (fun _ _ => rfl)) (pv 1)) (pg_sub (pv 0) pe_int set_list))
      (pss_one (ps_ret (pv 2)))))), ?_⟩
    rw [show L2.start ["well", "many", "taken"] [.ref b, .int m] = [some (.ref b), some (.int m), none] from rfl]
    try dsimp only [cxOf]
    walk_at "wp"
    refine ite_ (fun h => ?_) (fun h => ?_)
    · walk_at "wp"
      refine ⟨y, z + 1, rfl, y0, y1, by omega, by omega, fun v v0 => ?_⟩
      walk_at "wp"
      exact q _ _ (Int.emod_nonneg _ (by omega)) (Int.emod_lt_of_pos _ m0) ⟨_, _, _, upd_same, Int.ediv_nonneg v0 (by omega), y0, y1, by omega, by omega⟩ (Kp.trans Kp.at (Kp.trans Kp.at Kp.at))
    · walk_at "wp"
      exact q _ _ (Int.emod_nonneg _ (by omega)) (Int.emod_lt_of_pos _ m0) ⟨_, _, _, upd_same, Int.ediv_nonneg x0 (by omega), y0, y1, by omega, by omega⟩ Kp.at

def spCell (K : PySem.W.Frag) : Sp := fun vs H Q _ => ∃ (a : Addr) (ns : List Int) (k : Nat), vs = [.ref a, .int k] ∧ SqL K H a (ns.map V.int) ∧ ∀ v, Q (.int v) H
theorem ok_cell_at (T : Txt P w K mg) : FnOk P w K mg base CX0 1 T.f_cell_at T.fd_cell_at ["script", "k"] (spCell K) := by
  refine T.F_cell_at.ok sc_cell_at (fun vs H Q E h => ?_) (fun cdv A outer s H vs Q E hr h => ?_)
  · obtain ⟨a, ns, k, rfl, _⟩ := h
    rfl
  · obtain ⟨a, ns, k, rfl, hS, q⟩ := h
    refine ⟨_, (pss_cons (ps_if (pt_cmpR op_lt (pv 1) (pe_callB call_len_seq (by rfl) T.n_len (by decide +kernel) (pa_cons (pv 0) pa_nil)) (nomark _)) (pss_one (ps_ret (pe_ix ix_list (pv 0) (pv 1) (fun _ _ => rfl)))) pss_nil)
      (pss_one (ps_ret pe_int))), ?_⟩
    rw [show L2.start ["script", "k"] [.ref a, .int k] = [some (.ref a), some (.int k)] from rfl]
    try dsimp only [cxOf]
    walk_at "wp"
    refine ite_ (fun c => ?_) (fun c => ?_)
    · walk_at "wp"
      have hk : k < ns.length := by
        rw [List.length_map] at c
        omega
      refine ixL hS (atI_nat (v := .int ns[k]) ?_) ?_
      · rw [List.getElem?_map, List.getElem?_eq_getElem hk]
        rfl
      · exact q _
    · walk_at "wp"
      exact q _

def spWide : Sp := fun vs H Q _ => ∃ (b : Addr) (n : Nat), vs = [.ref b] ∧ Ww.Well H b n ∧ n < 900000 ∧ ∀ v H', 0 ≤ v → v < 10 ^ 60 → Ww.Well H' b (n + 3) → Kp b H H' → Q (.int v) H'
theorem ok_wide (T : Txt P w K mg) : FnOk P w K mg base CX0 3 T.f_wide T.fd_wide ["well"] spWide := by
  have G_draw := ok_draw (base := base) T
  refine T.F_wide.ok sc_wide (fun vs H Q E h => ?_) (fun cdv A outer s H vs Q E hr h => ?_)
  · obtain ⟨b, n, rfl, _⟩ := h
    rfl
  · obtain ⟨b, n, rfl, hb, hn, k⟩ := h
    refine ⟨_, (pss_cons (ps_set (i := 1) sc_wide.nd rfl (.inl rfl) (pe_call G_draw (hr.mono (by decide)) (by rfl) T.g_draw T.F_draw.kp T.b_draw .nil pass0 (pa_cons (pv 0) (pa_cons (pe_op op_pow pe_int pe_int) pa_nil))))
      (pss_cons (ps_if (pt_cmpR op_eq (pe_call G_draw (hr.mono (by decide)) (by rfl) T.g_draw T.F_draw.kp T.b_draw .nil pass0 (pa_cons (pv 0) (pa_cons pe_int pa_nil))) pe_int (nomark _)) (pss_one (ps_set (i := 1) sc_wide.nd rfl (.inl rfl) (pe_op op_add (pe_op op_mulW (pv 1) (pe_op op_pow pe_int pe_int)) (pe_call G_draw (hr.mono (by decide)) (by rfl) T.g_draw T.F_draw.kp T.b_draw .nil pass0 (pa_cons (pv 0) (pa_cons (pe_op op_pow pe_int pe_int) pa_nil)))))) pss_nil)
      (pss_one (ps_ret (pv 1))))), ?_⟩
    rw [show L2.start ["well", "number"] [.ref b] = [some (.ref b), none] from rfl]
    try dsimp only [cxOf]
    have e30 : (10 : Int) ^ Int.toNat 30 = 1000000000000000000000000000000 := by decide
    have e60 : (10 : Int) ^ 60 = 1000000000000000000000000000000000000000000000000000000000000 := by decide
    walk_at "wp"
    rw [e30]
    refine ⟨b, n, _, rfl, hb, by omega, by decide, by decide, fun i H1 w0 w1 hb1 k1 => ?_⟩
    walk_at "wp"
    refine ⟨b, n + 1, _, rfl, hb1, by omega, by decide, by decide, fun j H2 v0 v1 hb2 k2 => ?_⟩
    walk_at "wp"
    refine ite_ (fun _ => ?_) (fun _ => ?_)
    · walk_at "wp"
      rw [e30]
      refine rI_ (Ww.mulW (a := 120) (b := 120) ?_ (by decide)) ?_
      · have e : (1000000000000000000000000000000 : Int) < 2 ^ 120 := by decide
        omega
      walk_at "wp"
      rw [e30]
      refine ⟨b, n + 2, _, rfl, hb2, by omega, by decide, by decide, fun l H3 l0 l1 hb3 k3 => ?_⟩
      walk_at "wp"
      exact k _ _ (by omega) (by rw [e60]; omega) hb3 (Kp.trans k1 (Kp.trans k2 k3))
    · walk_at "wp"
      exact k _ _ w0 (by rw [e60]; omega) (hb2.mono (by omega)) (Kp.trans k1 k2)

def spRow : Sp := fun vs H Q _ => ∃ (b : Addr) (n : Nat) (m : Int), vs = [.ref b, .int m] ∧ Ww.Well H b n ∧ n < 800000 ∧ 0 ≤ m ∧ m < 100000 ∧ ∀ v r H', IsR H' v r → RowOk m r → Ww.Well H' b (n + 8) → Kp b H H' → Q v H'
theorem ok_row (T : Txt P w K mg) : FnOk P w K mg base CX0 4 T.f_row T.fd_row ["well", "many"] spRow := by
  have G_draw := ok_draw (base := base) T
  have G_wide := ok_wide (base := base) T
  refine T.F_row.ok sc_row (fun vs H Q E h => ?_) (fun cdv A outer s H vs Q E hr h => ?_)
  · obtain ⟨b, n, m, rfl, _⟩ := h
    rfl
  · obtain ⟨b, n, m, rfl, hb, hn, m0, m1, k⟩ := h
    refine ⟨_, (pss_cons (ps_set (i := 2) sc_row.nd rfl (.inl rfl) (pe_lst (pa_cons pe_str (pa_cons pe_str (pa_cons pe_str (pa_cons pe_str (pa_cons pe_str (pa_cons pe_str (pa_cons pe_str (pa_cons pe_str (pa_cons pe_str (pa_cons pe_str (pa_cons pe_str (pa_cons pe_str (pa_cons pe_str (pa_cons pe_str pa_nil))))))))))))))))
      (pss_cons (ps_set (i := 2) sc_row.nd rfl (.inl rfl) (pe_op op_cat (pv 2) (pe_lst (pa_cons pe_str (pa_cons pe_str (pa_cons pe_str pa_nil))))))
      (pss_cons (ps_set (i := 3) sc_row.nd rfl (.inl rfl) (pe_call G_draw (hr.mono (by decide)) (by rfl) T.g_draw T.F_draw.kp T.b_draw .nil pass0 (pa_cons (pv 0) (pa_cons pe_int pa_nil))))
      (pss_cons (ps_if (pt_cmpR op_gt (pv 3) pe_int (nomark _)) (pss_one (ps_ret (pe_tup (pa_cons (pe_ix ix_list (pv 2) (pv 3) (fun _ _ => rfl)) pa_nil)))) pss_nil)
      (pss_cons (ps_if (pt_cmpR op_gt (pv 3) pe_int (nomark _)) (pss_one (ps_ret (pe_tup (pa_cons (pe_ix ix_list (pv 2) (pv 3) (fun _ _ => rfl)) (pa_cons (pe_call G_draw (hr.mono (by decide)) (by rfl) T.g_draw T.F_draw.kp T.b_draw .nil pass0 (pa_cons (pv 0) (pa_cons (pe_op op_add (pv 1) pe_int) pa_nil))) pa_nil))))) pss_nil)
      (pss_cons (ps_set (i := 4) sc_row.nd rfl (.inl rfl) (pe_call G_draw (hr.mono (by decide)) (by rfl) T.g_draw T.F_draw.kp T.b_draw .nil pass0 (pa_cons (pv 0) (pa_cons pe_int pa_nil))))
      (C8.pss_cut (ps_if (pt_cmpR op_eq (pe_call G_draw (hr.mono (by decide)) (by rfl) T.g_draw T.F_draw.kp T.b_draw .nil pass0 (pa_cons (pv 0) (pa_cons pe_int pa_nil))) pe_int (nomark _)) (pss_one (ps_set (i := 4) sc_row.nd rfl (.inl rfl) (pe_call G_wide (hr.mono (by decide)) (by rfl) T.g_wide T.F_wide.kp T.b_wide .nil pass0 (pa_cons (pv 0) pa_nil)))) pss_nil)
      (pss_cons (ps_if (pt_cmpR op_gt (pv 3) pe_int (nomark _)) (pss_one (ps_ret (pe_tup (pa_cons (pe_ix ix_list (pv 2) (pv 3) (fun _ _ => rfl)) (pa_cons (pv 4) pa_nil))))) pss_nil)
      (pss_one (ps_ret (pe_tup (pa_cons pe_str (pa_cons (pe_op op_mulW (pv 4) (pe_op op_sub pe_int (pe_op op_mul pe_int (pe_call G_draw (hr.mono (by decide)) (by rfl) T.g_draw T.F_draw.kp T.b_draw .nil pass0 (pa_cons (pv 0) (pa_cons pe_int pa_nil)))))) pa_nil))))))))))))), ?_⟩
    rw [show L2.start ["well", "many", "words", "at", "number"] [.ref b, .int m] = [some (.ref b), some (.int m), none, none, none] from rfl]
    try dsimp only [cxOf]
    have e60 : (10 : Int) ^ 60 = 1000000000000000000000000000000000000000000000000000000000000 := by decide
    have f60 : (10 : Nat) ^ 60 = 1000000000000000000000000000000000000000000000000000000000000 := by decide
    walk_at "wp"
    rename_i p0 h0 p1 h1
    have n10 : p1 ≠ p0 := (ne_of_none upd_same h1).symm
    refine cat_ ((upd_ne n10.symm).trans upd_same) upd_same (Nat.le_of_ble_eq_true rfl) (fun p2 h2 => ?_)
    have s0 := (same_new (o := .lst [.str "put", .str "pick", .str "drop", .str "lift", .str "go", .str "back", .str "keep", .str "call", .str "jump", .str "if", .str "add", .str "less", .str "box", .str "get"]) h0).trans (same_new (o := .lst [.str "set", .str "tell", .str "sweep"]) h1)
    have s2 := s0.trans (same_new (o := .lst ([.str "put", .str "pick", .str "drop", .str "lift", .str "go", .str "back", .str "keep", .str "call", .str "jump", .str "if", .str "add", .str "less", .str "box", .str "get"] ++ [.str "set", .str "tell", .str "sweep"])) h2)
    have n2 := (hb.keep s0).ne_new h2
    walk_at "wp"
    refine ⟨b, n, _, rfl, hb.keep s2, by omega, by decide, by decide, fun at_ H1 w0 w1 hb1 k1 => ?_⟩
    have hw1 : H1 p2 = some (.lst ([.str "put", .str "pick", .str "drop", .str "lift", .str "go", .str "back", .str "keep", .str "call", .str "jump", .str "if", .str "add", .str "less", .str "box", .str "get"] ++ [.str "set", .str "tell", .str "sweep"])) := k1 _ _ n2 upd_same
    have K1 : Kp b H H1 := Kp.trans (Same.kp s2) k1
    clear k1 s2 s0 h2 h1 h0 hb
    walk_at "wp"
    refine ite_ (fun c1 => ?_) (fun c1 => ?_)
    · obtain ⟨wd, e, hwd⟩ : ∃ wd : Str, atI (([.str "put", .str "pick", .str "drop", .str "lift", .str "go", .str "back", .str "keep", .str "call", .str "jump", .str "if", .str "add", .str "less", .str "box", .str "get"] : List V) ++ [.str "set", .str "tell", .str "sweep"]) at_ = some (.str wd) ∧ wd ∈ bareL := by
        have cc : at_ = 10 ∨ at_ = 11 ∨ at_ = 12 ∨ at_ = 13 ∨ at_ = 14 ∨ at_ = 15 ∨ at_ = 16 := by omega
        rcases cc with rfl | rfl | rfl | rfl | rfl | rfl | rfl <;> exact ⟨_, rfl, by decide +kernel⟩
      walk_at "wp"
      refine ixL (SqL.of hw1) e ?_
      walk_at "wp"
      rename_i t ht
      exact k _ (wd, none) _ ⟨t, rfl, upd_same⟩ hwd ((hb1.keep (same_new ht)).mono (by omega)) (Kp.trans K1 (Kp.new ht))
    walk_at "wp"
    refine ite_ (fun c2 => ?_) (fun c2 => ?_)
    · obtain ⟨wd, e, hwd⟩ : ∃ wd : Str, atI (([.str "put", .str "pick", .str "drop", .str "lift", .str "go", .str "back", .str "keep", .str "call", .str "jump", .str "if", .str "add", .str "less", .str "box", .str "get"] : List V) ++ [.str "set", .str "tell", .str "sweep"]) at_ = some (.str wd) ∧ wd ∈ leadL := by
        have cc : at_ = 6 ∨ at_ = 7 ∨ at_ = 8 ∨ at_ = 9 := by omega
        rcases cc with rfl | rfl | rfl | rfl <;> exact ⟨_, rfl, by decide +kernel⟩
      walk_at "wp"
      refine ixL (SqL.of hw1) e ?_
      walk_at "wp"
      refine ⟨b, n + 1, _, rfl, hb1, by omega, by omega, by omega, fun v H2 v0 v1 hb2 k2 => ?_⟩
      walk_at "wp"
      rename_i t ht
      exact k _ (wd, some v) _ ⟨t, rfl, upd_same⟩ ⟨by omega, .inr (.inr ⟨hwd, v0, by omega⟩)⟩ ((hb2.keep (same_new ht)).mono (by omega)) (Kp.trans K1 (Kp.trans k2 (Kp.new ht)))
    walk_at "wp"
    refine ⟨b, n + 1, _, rfl, hb1, by omega, by decide, by decide, fun v H2 v0 v1 hb2 k2 => ?_⟩
    walk_at "wp"
    refine Wp.cut (fun σ' H' => ∃ v : Int, σ' = [some (.ref b), some (.int m), some (.ref p2), some (.int at_), some (.int v)] ∧ 0 ≤ v ∧ v < 10 ^ 60 ∧ Ww.Well H' b (n + 6) ∧ Kp b H H' ∧ H' p2 = some (.lst ([.str "put", .str "pick", .str "drop", .str "lift", .str "go", .str "back", .str "keep", .str "call", .str "jump", .str "if", .str "add", .str "less", .str "box", .str "get"] ++ [.str "set", .str "tell", .str "sweep"]))) ?_ ?_
    · walk_at "wp"
      refine ⟨b, n + 2, _, rfl, hb2, by omega, by decide, by decide, fun j H3 j0 j1 hb3 k3 => ?_⟩
      have hw3 := k3 _ _ n2 (k2 _ _ n2 hw1)
      have K3 := Kp.trans K1 (Kp.trans k2 k3)
      walk_at "wp"
      refine ite_ (fun _ => ?_) (fun _ => ?_)
      · walk_at "wp"
        refine ⟨b, n + 3, rfl, hb3, by omega, fun z H4 z0 z1 hb4 k4 => ?_⟩
        walk_at "wp"
        exact ⟨z0, z1, hb4, Kp.trans K3 k4, k4 _ _ n2 hw3⟩
      · walk_at "wp"
        exact ⟨v0, by rw [e60]; omega, hb3.mono (by omega), K3, hw3⟩
    rintro σ' H4 ⟨z, rfl, z0, z1, hb4, K4, hw4⟩
    rw [e60] at z1
    walk_at "wp"
    refine ite_ (fun c3 => ?_) (fun c3 => ?_)
    · obtain ⟨wd, e, hwd⟩ : ∃ wd : Str, atI (([.str "put", .str "pick", .str "drop", .str "lift", .str "go", .str "back", .str "keep", .str "call", .str "jump", .str "if", .str "add", .str "less", .str "box", .str "get"] : List V) ++ [.str "set", .str "tell", .str "sweep"]) at_ = some (.str wd) ∧ wd ∈ deepL := by
        have cc : at_ = 1 ∨ at_ = 2 ∨ at_ = 3 ∨ at_ = 4 ∨ at_ = 5 := by omega
        rcases cc with rfl | rfl | rfl | rfl | rfl <;> exact ⟨_, rfl, by decide +kernel⟩
      walk_at "wp"
      refine ixL (SqL.of hw4) e ?_
      walk_at "wp"
      rename_i t ht
      exact k _ (wd, some z) _ ⟨t, rfl, upd_same⟩ ⟨by rw [f60]; omega, .inr (.inl ⟨hwd, z0⟩)⟩ ((hb4.keep (same_new ht)).mono (by omega)) (Kp.trans K4 (Kp.new ht))
    · walk_at "wp"
      refine ⟨b, n + 6, _, rfl, hb4, by omega, by decide, by decide, fun q H5 q0 q1 hb5 k5 => ?_⟩
      walk_at "wp"
      refine rI_ (Ww.mulW (a := 220) (b := 10) ?_ ?_) ?_
      · have e : (1000000000000000000000000000000000000000000000000000000000000 : Int) < 2 ^ 220 := by decide
        omega
      · omega
      walk_at "wp"
      rename_i t ht
      refine k _ ("put", some (z * (1 - 2 * q))) _ ⟨t, rfl, upd_same⟩ ⟨?_, .inl rfl⟩ ((hb5.keep (same_new ht)).mono (by omega)) (Kp.trans K4 (Kp.trans k5 (Kp.new ht)))
      rw [f60]
      have cc : q = 0 ∨ q = 1 := by omega
      rcases cc with rfl | rfl <;> omega

end
end K56

namespace K56
open PySem PySem.Spec PyProof.Rows L2 Wp Wq Wr Wt Wrw
local macro_rules | `(tactic| walk_at "ne") => `(tactic| first
  | assumption
  | (refine Ne.symm ?_; assumption)
  | exact ne_of_none (by assumption) (by assumption)
  | exact (ne_of_none (by assumption) (by assumption)).symm
  | exact ne_of (by assumption) (by assumption) (by intro q; cases q))
local macro_rules | `(tactic| walk_at "hp") => `(tactic| first
  | assumption
  | exact upd_same
  | (refine (upd_ne ?_).trans ?_; (walk_at "ne"); (walk_at "hp")))
local macro_rules | `(tactic| walk_at "sq") => `(tactic| first
  | assumption
  | exact SqL.of (by walk_at "hp")
  | exact SqT.of (by walk_at "hp"))
local macro_rules | `(tactic| walk_at "kind") => `(tactic| first
  | assumption
  | exact Kind.int _
  | exact Kind.str _
  | exact Kind.bl _
  | exact Kind.non
  | exact Kind.tup (by walk_at "hp")
  | exact Kind.lst (by walk_at "hp")
  | exact Kind.dK (by walk_at "hp"))
local macro_rules | `(tactic| walk_at "w1") => `(tactic| first
  | (with_reducible refine Wp.seq ?_)
  | (with_reducible refine Wp.nx_mk ?_)
  | (with_reducible refine Wp.rt_mk ?_)
  | (with_reducible refine Wp.bk_mk ?_)
  | (with_reducible refine Wp.ct_mk ?_)
  | (with_reducible refine Wp.next ?_)
  | (with_reducible refine Wp.asg ?_)
  | ((with_reducible refine' Wp.gname ?e ?_); (case e => (try dsimp only [List.set, L2.wipe, List.map_cons, List.map_nil]); (try exact rfl)))
  | (with_reducible refine Wp.gsub ?_)
  | (with_reducible refine Wp.ret ?_)
  | (with_reducible refine Wp.retN ?_)
  | (with_reducible refine Wp.drop ?_)
  | (with_reducible refine Wp.dput ?_)
  | (with_reducible refine Wp.ifs ?_)
  | ((with_reducible refine' Wp.var ?h ?_); (case h => exact rfl))
  | (with_reducible refine Wp.con ?_)
  | (with_reducible refine Wp.op ?_)
  | (with_reducible refine Wp.un ?_)
  | (with_reducible refine Wp.cb ?_)
  | (with_reducible refine Wp.anil ?_)
  | (with_reducible refine Wp.acons ?_)
  | (with_reducible refine Wp.call ?_)
  | (with_reducible refine Wp.test ?_)
  | (with_reducible refine Wp.tb_ ?_)
  | (with_reducible refine Wp.and_ ?_)
  | (with_reducible refine Wp.or_ ?_)
  | (with_reducible refine Wp.not_ ?_)
  | (with_reducible refine Wp.andV ?_)
  | (with_reducible refine Wp.orV ?_)
  | (with_reducible refine Wp.notV ?_)
  | (with_reducible refine Wp.rI0_ ?_)
  | (with_reducible refine Wp.rU_ ?_)
  | ((with_reducible refine Wp.rEq_ ?k ?_); (case k => exact rfl))
  | ((with_reducible refine Wp.rNe_ ?k ?_); (case k => exact rfl))
  | (with_reducible refine Wp.gcons ?_)
  | (with_reducible refine Wp.gnil ?_)
  | ((with_reducible refine' Wp.gtup ?h ?e ?_); (case h => walk_at "sq"); (case e => exact rfl))
  | (with_reducible refine Wp.sl ?_)
  | (with_reducible refine Wp.part ?_)
  | (with_reducible refine Wp.nopart ?_)
  | (with_reducible refine Wp.ifE ?_)
  | (with_reducible refine Wp.bm0 ?_)
  | (with_reducible refine Wp.bm ?_)
  | (with_reducible refine Wp.lcR1 ?_)
  | (with_reducible refine Wp.lcR2 ?_)
  | (with_reducible refine Wp.lcL ?_)
  | (with_reducible refine Wp.chain ?_)
  | (with_reducible refine Wp.lc2V ?_)
  | (with_reducible refine Wp.piL ?_)
  | (with_reducible refine Wp.yes ?_)
  | (with_reducible refine Wp.dinI ?_)
  | (with_reducible refine Wp.dninI ?_)
  | (with_reducible refine Wp.dget ?_)
  | ((with_reducible refine' ⟨?k, ?_⟩); (case k => show L2.wipe _ _ = L2.wipe _ _; exact rfl))
  | (with_reducible refine Wp.forR1 ?_)
  | (with_reducible refine Wp.forR2 ?_)
  | (with_reducible refine Wp.forL ?_)
  | (with_reducible refine Wp.forT ?_)
  | ((with_reducible refine' ⟨?k, ?_⟩); (case k => exact Wp.tyvL (by walk_at "hp")))
  | ((with_reducible refine' Wp.rev_ ?k ?_); (case k => walk_at "hp"))
  | ((with_reducible refine' Wp.isi ?k ?h ?_); (case k => walk_at "kind"); (case h => decide))
  | ((with_reducible refine' Wp.typ ?k ?_); (case k => walk_at "kind"))
  | (with_reducible refine Wp.slS ?k ?_; (case k => assumption))
  | (with_reducible refine iteT ?_)
  | (with_reducible refine iteF ?_)
  | (with_reducible refine Wz.par ?_)
  | (with_reducible refine Wz.forN ?_)
  | (with_reducible refine Wz.dcL ?_)
  | (with_reducible refine Wz.forZ ?_)
  | (with_reducible refine Wz.lcR3 ?_)
  | (with_reducible refine Wc.revL ?_)
  | (with_reducible refine Wd.nm ?_)
  | (with_reducible refine Wd.nget ?_)
  | ((with_reducible refine Wd.tnew ?_); intro p hp)
  | (with_reducible refine Wd.pikn ?_)
  | (with_reducible refine Wt.m1 ?_)
  | (with_reducible refine Wt.m0 ?_)
  | ((with_reducible refine' ⟨?k, ?_⟩); (case k => show ∃ a, _ = V.str a; exact ⟨_, rfl⟩))
  | (with_reducible refine Wt.js_cons ?_)
  | (with_reducible refine Wt.fmt_ ?_)
  | (with_reducible refine Wp.pcons ?_)
  | (with_reducible refine Wp.pnil ?_)
  | ((with_reducible refine' Wp.iteBnT ?h ?_); (case h => show isB _ _ = false; decide))
  | ((with_reducible refine' Wp.iteBnF ?h ?_); (case h => show isB _ _ = true; decide))
  | ((with_reducible refine' Wp.iteBt ?h ?_); (case h => show isB _ _ = true; decide))
  | ((with_reducible refine' Wp.iteBf ?h ?_); (case h => show isB _ _ = false; decide))
  | (with_reducible refine Wp.iteT' ?_)
  | (with_reducible refine Wp.iteF' ?_)
  | (with_reducible refine Wp.rNT_ ?_)
  | ((with_reducible refine Wp.lst ?_))
  | ((with_reducible refine Wp.tup ?_))
  | ((with_reducible refine' Wp.ixL ?h ?e ?_); (case h => walk_at "sq"); (case e => exact rfl))
  | ((with_reducible refine' Wp.ixT ?h ?e ?_); (case h => walk_at "sq"); (case e => exact rfl))
  | ((with_reducible refine' Wp.setL ?h ?e ?_); (case h => walk_at "hp"); (case e => exact rfl))
  | ((with_reducible refine Wp.rI_ ?k ?_); (case k => first | (show (0:Int) < _; omega) | (show CPow _ _; refine' ⟨?_, ?_, ?_⟩ <;> omega) | (show CDiv _ _; refine' ⟨?_, ?_⟩ <;> omega) | (show CMul _ _; refine' Or.inl ⟨?_, ?_⟩ <;> omega) | (show CMul _ _; refine' Or.inr ⟨?_, ?_⟩ <;> first | omega | decide) | (show CDivW _ _; refine' wide_div (b := 240) ?_ ?_ ?_ ?_ <;> first | omega | decide)))
  | ((with_reducible refine ⟨?k, ?_⟩); (case k => first | exact Nat.zero_le _ | (exact Nat.le_of_ble_eq_true rfl)); intro p hp)
  | ((with_reducible refine' ⟨_, _, rfl, .inl ?k, ?_⟩); (case k => walk_at "sq"))
  | ((with_reducible refine' ⟨_, _, rfl, .inr ?k, ?_⟩); (case k => walk_at "sq"))
  | (with_reducible refine ⟨_, rfl, ?_⟩)
  | (with_reducible refine ⟨_, _, rfl, rfl, ?_⟩)
  | (with_reducible refine ⟨_, _, rfl, ?_⟩))
local macro_rules | `(tactic| walk_at "wp") => `(tactic| repeat (walk_at "w1"))

section
variable {P : Program} {w : World} {K : PySem.W.Frag} {mg : Str → Option Value} {base : Heap}
def spProgram (K : PySem.W.Frag) : Sp := fun vs H Q _ => ∃ (a : Addr) (ns : List Int) (most : Int), vs = [.ref a, .int most] ∧ SqL K H a (ns.map V.int) ∧ ns.length ≤ 63 ∧ 0 ≤ most ∧ most ≤ 60 ∧ ∀ p xs rs H', H p = none → H' p = some (.lst xs) → Rws H' xs rs → rs.length ≤ 60 → (∀ r ∈ rs, RowOk rs.length r) → Same H H' → Q (.ref p) H'
theorem ok_program (T : Txt P w K mg) : FnOk P w K mg base CX0 5 T.f_program T.fd_program ["cells", "most"] (spProgram K) := by
  have G_draw := ok_draw (base := base) T
  have G_well := ok_well (base := base) T
  have G_row := ok_row (base := base) T
  have G_cell_at := ok_cell_at (base := base) T
  refine T.F_program.ok sc_program (fun vs H Q E h => ?_) (fun cdv A outer s H vs Q E hr h => ?_)
  · obtain ⟨a, ns, most, rfl, _⟩ := h
    rfl
  · obtain ⟨a, ns, most, rfl, hS, hl, m0, m1, k⟩ := h
    refine ⟨_, (pss_cons (ps_set (i := 2) sc_program.nd rfl (.inl rfl) (pe_call G_well (hr.mono (by decide)) (by rfl) T.g_well T.F_well.kp T.b_well .nil pass0 (pa_cons (pe_call G_cell_at (hr.mono (by decide)) (by rfl) T.g_cell_at T.F_cell_at.kp T.b_cell_at .nil pass0 (pa_cons (pv 0) (pa_cons pe_int pa_nil))) (pa_cons pe_int pa_nil))))
      (pss_cons (ps_set (i := 3) sc_program.nd rfl (.inr rfl) (pe_callB (call_min2 rfl) (by rfl) T.n_min (by decide +kernel) (pa_cons (pv 1) (pa_cons (pe_op op_add (pe_call G_draw (hr.mono (by decide)) (by rfl) T.g_draw T.F_draw.kp T.b_draw .nil pass0 (pa_cons (pv 2) (pa_cons pe_int pa_nil))) (pe_callB (call_max2 rfl) (by rfl) T.n_max (by decide +kernel) (pa_cons pe_int (pa_cons (pe_op op_sub (pe_callB call_len_seq (by rfl) T.n_len (by decide +kernel) (pa_cons (pv 0) pa_nil)) pe_int) pa_nil)))) pa_nil))))
      (pss_one (ps_ret (pe_lc (own := [("k", 4)]) rfl sc_program.nd (pi_range1 (by rfl) T.n_range (pa_cons (pv 3) pa_nil)) (blkOk_by (N := ["cells", "most", "head", "many", "k"]) (sc := defScope s_program) (by decide +kernel)) (fun _ _ _ _ _ => pg_name (i := 4) sc_program.nd rfl (Or.inl rfl)) (fun _ _ _ _ _ => pts_nil) (fun _ _ _ _ _ => (pe_call G_row (hr.mono (by decide)) (by rfl) T.g_row T.F_row.kp T.b_row .nil pass0 (pa_cons (pe_call G_well (hr.mono (by decide)) (by rfl) T.g_well T.F_well.kp T.b_well .nil pass0 (pa_cons (pe_call G_cell_at (hr.mono (by decide)) (by rfl) T.g_cell_at T.F_cell_at.kp T.b_cell_at .nil pass0 (pa_cons (pv 0) (pa_cons (pe_op op_add pe_int (pv 4)) pa_nil))) (pa_cons (pv 4) pa_nil))) (pa_cons (pv 3) pa_nil))))))))), ?_⟩
    rw [show L2.start ["cells", "most", "head", "many", "k"] [.ref a, .int most] = [some (.ref a), some (.int most), none, none, none] from rfl]
    try dsimp only [cxOf]
    walk_at "wp"
    refine ⟨a, ns, 0, rfl, hS, fun c => ?_⟩
    walk_at "wp"
    refine ⟨c, 63, rfl, by omega, fun b H1 nb hb1 s1 => ?_⟩
    walk_at "wp"
    refine ⟨b, 0, _, rfl, hb1, by omega, by decide, by decide, fun i H2 w0 w1 hb2 k2 => ?_⟩
    have S2 : Same H H2 := Kp.same nb (Kp.trans (Same.kp s1) k2)
    have hS2 := S2.seq hS
    walk_at "wp"
    generalize hN : (if (i + if ((ns.map V.int).length : Int) - 1 > 0 then ((ns.map V.int).length : Int) - 1 else 0) < most then (i + if ((ns.map V.int).length : Int) - 1 > 0 then ((ns.map V.int).length : Int) - 1 else 0) else most) = N
    have hN1 : N ≤ 60 := by
      rw [← hN]
      split <;> (try split) <;> omega
    have hN0 : 0 ≤ N := by
      rw [← hN]
      split <;> (try split) <;> omega
    clear hN
    obtain ⟨N, rfl⟩ : ∃ M : Nat, N = (M : Int) := ⟨N.toNat, by omega⟩
    refine ⟨by omega, by omega, fun D hD => ?_⟩
    rw [Int.toNat_natCast]
    have hD0 : H D = none := by
      cases e : H D with
      | none => rfl
      | some o => rw [S2 _ _ e] at hD; cases hD
    refine loopCR (fun j H' => Same H H' ∧ ∃ acc rs, H' D = some (.lst acc) ∧ Rws H' acc rs ∧ rs.length = j ∧ ∀ r ∈ rs, RowOk N r) ⟨S2.trans (same_new hD), [], [], upd_same, Rws.nil, rfl, (fun _ h => nomatch h)⟩ ?_ ?_
    · rintro j H3 hj ⟨s3, acc, rs, hD3, hr3, rl, rok⟩
      rw [Int.zero_add]
      walk_at "wp"
      refine ⟨a, ns, 1 + j, (by rw [show ((1 + j : Nat) : Int) = 1 + (j : Int) by omega]; rfl), s3.seq hS, fun c => ?_⟩
      walk_at "wp"
      refine ⟨c, j, rfl, by omega, fun b H4 nb4 hb4 s4 => ?_⟩
      walk_at "wp"
      refine ⟨b, 0, N, rfl, hb4, by omega, by omega, by omega, fun v r H5 hv hr hb5 k5 => ?_⟩
      have s5 : Same H3 H5 := Kp.same nb4 (Kp.trans (Same.kp s4) k5)
      have hD5 := s5 _ _ hD3
      refine ⟨acc, hD5, ?_, ?_, _, _, upd_same, (Rws.app (hr3.keep (Same.tk s5)) (Rws.one hv)).keep (Tk.lst hD5), ?_, ?_⟩
      · rw [hr3.len]; exact Wb.small (by omega)
      · intro q z hq
        rw [upd_ne (ne_of_none hq hD0)]
        exact s5 _ _ (s3 _ _ hq)
      · rw [List.length_append, rl] <;> rfl
      · intro x hx
        rcases List.mem_append.mp hx with hx | hx
        · exact rok x hx
        · rw [List.mem_singleton.mp hx]; exact hr
    · rintro H3 ⟨s3, acc, rs, hD3, hr3, rl, rok⟩
      exact k D acc rs H3 hD0 hD3 hr3 (by omega) (by rw [rl]; exact rok) s3

end
end K56

namespace K56
open PySem PySem.Spec PyProof.Rows L2 Wp Wq Wr Wt Wrw
local macro_rules | `(tactic| walk_at "ne") => `(tactic| first
  | assumption
  | (refine Ne.symm ?_; assumption)
  | exact ne_of_none (by assumption) (by assumption)
  | exact (ne_of_none (by assumption) (by assumption)).symm
  | exact ne_of (by assumption) (by assumption) (by intro q; cases q))
local macro_rules | `(tactic| walk_at "hp") => `(tactic| first
  | assumption
  | exact upd_same
  | (refine (upd_ne ?_).trans ?_; (walk_at "ne"); (walk_at "hp")))
local macro_rules | `(tactic| walk_at "sq") => `(tactic| first
  | assumption
  | exact SqL.of (by walk_at "hp")
  | exact SqT.of (by walk_at "hp"))
local macro_rules | `(tactic| walk_at "kind") => `(tactic| first
  | assumption
  | exact Kind.int _
  | exact Kind.str _
  | exact Kind.bl _
  | exact Kind.non
  | exact Kind.tup (by walk_at "hp")
  | exact Kind.lst (by walk_at "hp")
  | exact Kind.dK (by walk_at "hp"))
local macro_rules | `(tactic| walk_at "w1") => `(tactic| first
  | (with_reducible refine Wp.seq ?_)
  | (with_reducible refine Wp.nx_mk ?_)
  | (with_reducible refine Wp.rt_mk ?_)
  | (with_reducible refine Wp.bk_mk ?_)
  | (with_reducible refine Wp.ct_mk ?_)
  | (with_reducible refine Wp.next ?_)
  | (with_reducible refine Wp.asg ?_)
  | ((with_reducible refine' Wp.gname ?e ?_); (case e => (try dsimp only [List.set, L2.wipe, List.map_cons, List.map_nil]); (try exact rfl)))
  | (with_reducible refine Wp.gsub ?_)
  | (with_reducible refine Wp.ret ?_)
  | (with_reducible refine Wp.retN ?_)
  | (with_reducible refine Wp.drop ?_)
  | (with_reducible refine Wp.dput ?_)
  | (with_reducible refine Wp.ifs ?_)
  | ((with_reducible refine' Wp.var ?h ?_); (case h => exact rfl))
  | (with_reducible refine Wp.con ?_)
  | (with_reducible refine Wp.op ?_)
  | (with_reducible refine Wp.un ?_)
  | (with_reducible refine Wp.cb ?_)
  | (with_reducible refine Wp.anil ?_)
  | (with_reducible refine Wp.acons ?_)
  | (with_reducible refine Wp.call ?_)
  | (with_reducible refine Wp.test ?_)
  | (with_reducible refine Wp.tb_ ?_)
  | (with_reducible refine Wp.and_ ?_)
  | (with_reducible refine Wp.or_ ?_)
  | (with_reducible refine Wp.not_ ?_)
  | (with_reducible refine Wp.andV ?_)
  | (with_reducible refine Wp.orV ?_)
  | (with_reducible refine Wp.notV ?_)
  | (with_reducible refine Wp.rI0_ ?_)
  | (with_reducible refine Wp.rU_ ?_)
  | ((with_reducible refine Wp.rEq_ ?k ?_); (case k => exact rfl))
  | ((with_reducible refine Wp.rNe_ ?k ?_); (case k => exact rfl))
  | (with_reducible refine Wp.gcons ?_)
  | (with_reducible refine Wp.gnil ?_)
  | ((with_reducible refine' Wp.gtup ?h ?e ?_); (case h => walk_at "sq"); (case e => exact rfl))
  | (with_reducible refine Wp.sl ?_)
  | (with_reducible refine Wp.part ?_)
  | (with_reducible refine Wp.nopart ?_)
  | (with_reducible refine Wp.ifE ?_)
  | (with_reducible refine Wp.bm0 ?_)
  | (with_reducible refine Wp.bm ?_)
  | (with_reducible refine Wp.lcR1 ?_)
  | (with_reducible refine Wp.lcR2 ?_)
  | (with_reducible refine Wp.lcL ?_)
  | (with_reducible refine Wp.chain ?_)
  | (with_reducible refine Wp.lc2V ?_)
  | (with_reducible refine Wp.piL ?_)
  | (with_reducible refine Wp.yes ?_)
  | (with_reducible refine Wp.dinI ?_)
  | (with_reducible refine Wp.dninI ?_)
  | (with_reducible refine Wp.dget ?_)
  | ((with_reducible refine' ⟨?k, ?_⟩); (case k => show L2.wipe _ _ = L2.wipe _ _; exact rfl))
  | (with_reducible refine Wp.forR1 ?_)
  | (with_reducible refine Wp.forR2 ?_)
  | (with_reducible refine Wp.forL ?_)
  | (with_reducible refine Wp.forT ?_)
  | ((with_reducible refine' ⟨?k, ?_⟩); (case k => exact Wp.tyvL (by walk_at "hp")))
  | ((with_reducible refine' Wp.rev_ ?k ?_); (case k => walk_at "hp"))
  | ((with_reducible refine' Wp.isi ?k ?h ?_); (case k => walk_at "kind"); (case h => decide))
  | ((with_reducible refine' Wp.typ ?k ?_); (case k => walk_at "kind"))
  | (with_reducible refine Wp.slS ?k ?_; (case k => assumption))
  | (with_reducible refine iteT ?_)
  | (with_reducible refine iteF ?_)
  | (with_reducible refine Wz.par ?_)
  | (with_reducible refine Wz.forN ?_)
  | (with_reducible refine Wz.dcL ?_)
  | (with_reducible refine Wz.forZ ?_)
  | (with_reducible refine Wz.lcR3 ?_)
  | (with_reducible refine Wc.revL ?_)
  | (with_reducible refine Wd.nm ?_)
  | (with_reducible refine Wd.nget ?_)
  | ((with_reducible refine Wd.tnew ?_); intro p hp)
  | (with_reducible refine Wd.pikn ?_)
  | (with_reducible refine Wt.m1 ?_)
  | (with_reducible refine Wt.m0 ?_)
  | ((with_reducible refine' ⟨?k, ?_⟩); (case k => show ∃ a, _ = V.str a; exact ⟨_, rfl⟩))
  | (with_reducible refine Wt.js_cons ?_)
  | (with_reducible refine Wt.fmt_ ?_)
  | (with_reducible refine Wp.pcons ?_)
  | (with_reducible refine Wp.pnil ?_)
  | ((with_reducible refine' Wp.iteBnT ?h ?_); (case h => show isB _ _ = false; decide))
  | ((with_reducible refine' Wp.iteBnF ?h ?_); (case h => show isB _ _ = true; decide))
  | ((with_reducible refine' Wp.iteBt ?h ?_); (case h => show isB _ _ = true; decide))
  | ((with_reducible refine' Wp.iteBf ?h ?_); (case h => show isB _ _ = false; decide))
  | (with_reducible refine Wp.iteT' ?_)
  | (with_reducible refine Wp.iteF' ?_)
  | (with_reducible refine Wp.rNT_ ?_)
  | ((with_reducible refine Wp.lst ?_))
  | ((with_reducible refine Wp.tup ?_))
  | ((with_reducible refine' Wp.ixL ?h ?e ?_); (case h => walk_at "sq"); (case e => exact rfl))
  | ((with_reducible refine' Wp.ixT ?h ?e ?_); (case h => walk_at "sq"); (case e => exact rfl))
  | ((with_reducible refine' Wp.setL ?h ?e ?_); (case h => walk_at "hp"); (case e => exact rfl))
  | ((with_reducible refine Wp.rI_ ?k ?_); (case k => first | (show (0:Int) < _; omega) | (show CPow _ _; refine' ⟨?_, ?_, ?_⟩ <;> omega) | (show CDiv _ _; refine' ⟨?_, ?_⟩ <;> omega) | (show CMul _ _; refine' Or.inl ⟨?_, ?_⟩ <;> omega) | (show CMul _ _; refine' Or.inr ⟨?_, ?_⟩ <;> first | omega | decide) | (show CDivW _ _; refine' wide_div (b := 240) ?_ ?_ ?_ ?_ <;> first | omega | decide)))
  | ((with_reducible refine ⟨?k, ?_⟩); (case k => first | exact Nat.zero_le _ | (exact Nat.le_of_ble_eq_true rfl)); intro p hp)
  | ((with_reducible refine' ⟨_, _, rfl, .inl ?k, ?_⟩); (case k => walk_at "sq"))
  | ((with_reducible refine' ⟨_, _, rfl, .inr ?k, ?_⟩); (case k => walk_at "sq"))
  | (with_reducible refine ⟨_, rfl, ?_⟩)
  | (with_reducible refine ⟨_, _, rfl, rfl, ?_⟩)
  | (with_reducible refine ⟨_, _, rfl, ?_⟩))
local macro_rules | `(tactic| walk_at "wp") => `(tactic| repeat (walk_at "w1"))

section
variable {P : Program} {w : World} {K : PySem.W.Frag} {mg : Str → Option Value} {base : Heap}
def spIsNumber : Sp := fun vs H Q _ => ∃ (v : V) (T : String), vs = [v] ∧ Kind H v T ∧ Q (.bl (decide (T = "int"))) H
theorem ok_is_number (T : Txt P w K mg) : FnOk P w K mg base CX0 1 T.f_is_number T.fd_is_number ["thing"] spIsNumber := by
  refine T.F_is_number.ok sc_is_number (fun vs H Q E h => ?_) (fun cdv A outer s H vs Q E hr h => ?_)
  · obtain ⟨v, ty, rfl, _⟩ := h
    rfl
  · obtain ⟨v, ty, rfl, hk, q⟩ := h
    refine ⟨_, (pss_one (ps_ret (pe_cmpR op_isTyB (pe_callTy call_type1 (by rfl) T.n_type (by decide +kernel) (pa_cons (pv 0) pa_nil)) (pe_bltn (v := .ty "int") (by rfl) T.n_int (by decide +kernel) rfl) (nomark _)))), ?_⟩
    rw [show L2.start ["thing"] [v] = [some v] from rfl]
    try dsimp only [cxOf]
    walk_at "wp"
    exact q

def spIsRow : Sp := fun vs H Q _ => ∃ (v : V) (m : Int) (r : Rw), vs = [v, .int m] ∧ IsR H v r ∧ RowOk m r ∧ Q (.bl true) H
theorem ok_is_row (T : Txt P w K mg) : FnOk P w K mg base CX0 2 T.f_is_row T.fd_is_row ["thing", "many"] spIsRow := by
  have G_is_number := ok_is_number (base := base) T
  refine T.F_is_row.ok sc_is_row (fun vs H Q E h => ?_) (fun cdv A outer s H vs Q E hr h => ?_)
  · obtain ⟨v, m, r, rfl, _⟩ := h
    rfl
  · obtain ⟨v, m, ⟨z, o⟩, rfl, ⟨t, rfl, ht⟩, hok, q⟩ := h
    refine ⟨_, (pss_cons (ps_if (PW.pt (pw_or (pt_cmpR op_notTyB (pe_callTy call_type1 (by rfl) T.n_type (by decide +kernel) (pa_cons (pv 0) pa_nil)) (pe_bltn (v := .ty "tuple") (by rfl) T.n_tuple (by decide +kernel) rfl) (nomark _)) (pw_or1 (pt_not (pt_chain op_le op_le pe_int (pe_callB call_len_seq (by rfl) T.n_len (by decide +kernel) (pa_cons (pv 0) pa_nil)) pe_int))))) (pss_one (ps_ret pe_bl)) pss_nil)
      (pss_cons (ps_set (i := 2) sc_is_row.nd rfl (.inl rfl) (pe_ix ix_tup (pv 0) pe_int (fun _ _ => rfl)))
      (pss_cons (ps_if (pt_cmpR op_notTyB (pe_callTy call_type1 (by rfl) T.n_type (by decide +kernel) (pa_cons (pv 2) pa_nil)) (pe_bltn (v := .ty "str") (by rfl) T.n_str (by decide +kernel) rfl) (nomark _)) (pss_one (ps_ret pe_bl)) pss_nil)
      (pss_cons (ps_if (pt_cmpR op_eq (pe_callB call_len_seq (by rfl) T.n_len (by decide +kernel) (pa_cons (pv 0) pa_nil)) pe_int (nomark _)) (pss_one (ps_ret (pe_cmpR op_in_seq (pv 2) (pe_glob (v := .ref T.d_BARE) (by rfl) T.c_BARE rfl) (by rfl)))) pss_nil)
      (pss_cons (ps_set (i := 3) sc_is_row.nd rfl (.inl rfl) (pe_ix ix_tup (pv 0) pe_int (fun _ _ => rfl)))
      (pss_cons (ps_if (pt_not (pt_val (pe_call G_is_number (hr.mono (by decide)) (by rfl) T.g_is_number T.F_is_number.kp T.b_is_number .nil pass0 (pa_cons (pv 3) pa_nil)))) (pss_one (ps_ret pe_bl)) pss_nil)
      (pss_cons (ps_if (pt_cmpR op_in_seq (pv 2) (pe_glob (v := .ref T.d_DEEP) (by rfl) T.c_DEEP rfl) (by rfl)) (pss_one (ps_ret (pe_cmpR op_ge (pv 3) pe_int (nomark _)))) pss_nil)
      (pss_cons (ps_if (pt_cmpR op_in_seq (pv 2) (pe_glob (v := .ref T.d_LEADING) (by rfl) T.c_LEADING rfl) (by rfl)) (pss_one (ps_ret (pe_chain op_le op_le pe_int (pv 3) (pv 1)))) pss_nil)
      (pss_one (ps_ret (pe_cmpR op_eq (pv 2) pe_str (nomark _)))))))))))), ?_⟩
    rw [show L2.start ["thing", "many", "word", "number"] [.ref t, .int m] = [some (.ref t), some (.int m), none, none] from rfl]
    try dsimp only [cxOf]
    have hk : Kind H (.ref t) "tuple" := .tup ht
    have hz : AnyWord z := hok.word
    cases o with
    | none =>
      have ht : H t = some (.tup [.str z]) := ht
      walk_at "wp"
      refine iteN (fun e => absurd rfl e) (fun _ => ?_)
      walk_at "wp"
      refine ite_ (fun _ => ?_) (fun e => absurd (show (1 : Int) ≤ ([V.str z].length : Nat) by simp) e)
      walk_at "wp"
      refine iteN (fun e => absurd (show (([V.str z].length : Nat) : Int) ≤ 2 by simp) e) (fun _ => ?_)
      walk_at "wp"
      refine iteN (fun e => absurd rfl e) (fun _ => ?_)
      walk_at "wp"
      refine ite_ (fun _ => ?_) (fun e => absurd rfl e)
      walk_at "wp"
      refine inT (l := bareL) (T.q_BARE H) ?_
      rw [decide_eq_true (show z ∈ bareL from hok)]
      exact q
    | some n =>
      have ht : H t = some (.tup [.str z, .int n]) := ht
      obtain ⟨hn, hw⟩ := hok
      walk_at "wp"
      refine iteN (fun e => absurd rfl e) (fun _ => ?_)
      walk_at "wp"
      refine ite_ (fun _ => ?_) (fun e => absurd (show (1 : Int) ≤ ([V.str z, V.int n].length : Nat) by simp) e)
      walk_at "wp"
      refine iteN (fun e => absurd (show (([V.str z, V.int n].length : Nat) : Int) ≤ 2 by simp) e) (fun _ => ?_)
      walk_at "wp"
      refine iteN (fun e => absurd rfl e) (fun _ => ?_)
      walk_at "wp"
      refine ite_ (fun e => absurd (V.int.inj e) (by simp)) (fun _ => ?_)
      walk_at "wp"
      refine ⟨_, _, rfl, .int n, ?_⟩
      walk_at "wp"
      refine iteN (fun e => absurd rfl e) (fun _ => ?_)
      walk_at "wp"
      refine inT (l := deepL) (T.q_DEEP H) ?_
      walk_at "wp"
      refine ite_ (fun c1 => ?_) (fun c1 => ?_)
      · walk_at "wp"
        have h0 : 0 ≤ n := by
          rcases hw with h | ⟨_, h⟩ | ⟨_, h, _⟩
          · rw [h] at c1; exact absurd c1 put_apart.1
          · exact h
          · exact h
        rw [decide_eq_true h0]
        exact q
      walk_at "wp"
      refine inT (l := leadL) (T.q_LEADING H) ?_
      walk_at "wp"
      refine ite_ (fun c2 => ?_) (fun c2 => ?_)
      · walk_at "wp"
        have h0 : 0 ≤ n ∧ n ≤ m := by
          rcases hw with h | ⟨h, _⟩ | ⟨_, h⟩
          · rw [h] at c2; exact absurd c2 put_apart.2
          · exact absurd h c1
          · exact h
        refine ite_ (fun _ => ?_) (fun e => absurd h0.1 e)
        walk_at "wp"
        rw [decide_eq_true h0.2]
        exact q
      walk_at "wp"
      have e : V.str z = V.str "put" := by
        rcases hw with h | ⟨h, _⟩ | ⟨h, _⟩
        · rw [h]
        · exact absurd h c1
        · exact absurd h c2
      rw [decide_eq_true e]
      exact q

def spIsProgram : Sp := fun vs H Q _ => ∃ (a : Addr) (xs : List V) (rs : List Rw), vs = [.ref a] ∧ H a = some (.lst xs) ∧ Rws H xs rs ∧ rs.length ≤ 1000 ∧ (∀ r ∈ rs, RowOk rs.length r) ∧ ∀ H', Same H H' → Q (.bl true) H'
theorem ok_is_program (T : Txt P w K mg) : FnOk P w K mg base CX0 3 T.f_is_program T.fd_is_program ["thing"] spIsProgram := by
  have G_is_row := ok_is_row (base := base) T
  refine T.F_is_program.ok sc_is_program (fun vs H Q E h => ?_) (fun cdv A outer s H vs Q E hr h => ?_)
  · obtain ⟨a, xs, rs, rfl, _⟩ := h
    rfl
  · obtain ⟨a, xs, rs, rfl, ha, hP, hl, hok, k⟩ := h
    refine ⟨_, (pss_one (ps_ret (pe_and (pe_cmpR op_isTyB (pe_callTy call_type1 (by rfl) T.n_type (by decide +kernel) (pa_cons (pv 0) pa_nil)) (pe_bltn (v := .ty "list") (by rfl) T.n_list (by decide +kernel) rfl) (nomark _)) (pe_one (pe_callB (cr_all rfl) (by rfl) T.n_all (by decide +kernel) (pa_cons (pe_lc (own := [("row", 1)]) rfl sc_is_program.nd (pi_list (pv 0)) (blkOk_by (N := ["thing", "row"]) (sc := defScope s_is_program) (by decide +kernel)) (fun _ _ _ _ _ => pg_name (i := 1) sc_is_program.nd rfl (Or.inl rfl)) (fun _ _ _ _ _ => pts_nil) (fun _ _ _ _ _ => (pe_call G_is_row (hr.mono (by decide)) (by rfl) T.g_is_row T.F_is_row.kp T.b_is_row .nil pass0 (pa_cons (pv 1) (pa_cons (pe_callB (show CallR _ _ (Wp.rLenS K) from Wp.call_lenS) (by rfl) T.n_len (by decide +kernel) (pa_cons (pv 0) pa_nil)) pa_nil))))) pa_nil)))))), ?_⟩
    rw [show L2.start ["thing", "row"] [.ref a] = [some (.ref a), none] from rfl]
    try dsimp only [cxOf]
    have hk : Kind H (.ref a) "list" := .lst ha
    walk_at "wp"
    refine ite_ (fun _ => ?_) (fun e => absurd rfl e)
    walk_at "wp"
    refine ⟨⟨_, SqL.of ha⟩, fun D hD => ?_⟩
    refine loopCL (fun j H' => Same H H' ∧ H' D = some (.lst ((List.replicate j true).map V.bl)) ∧ j ≤ 1000) ⟨same_new hD, upd_same, Nat.zero_le _⟩ (fun j H' hj h => SqL.of (h.1 _ _ ha)) ?_ ?_
    · rintro j x H4 hx ⟨s4, hD4, hj⟩
      obtain ⟨r, hr0, hv⟩ := hP.get hx
      have ha4 := s4 _ _ ha
      have hlt : j < rs.length := (List.getElem?_eq_some_iff.mp hr0).1
      walk_at "wp"
      refine Wp.lenS_ (SqL.of ha4) ?_
      walk_at "wp"
      refine ⟨x, _, r, rfl, hv.keep (Same.tk s4), by rw [hP.len]; exact hok r (List.mem_of_getElem? hr0), ?_⟩
      walk_at "wp"
      refine ⟨_, hD4, ?_, ?_, ?_, by omega⟩
      · rw [List.length_map, List.length_replicate]; exact Wb.small (by omega)
      · intro q z hq
        rw [upd_ne (ne_of_none hq hD)]
        exact s4 _ _ hq
      · rw [upd_same, List.replicate_succ', List.map_append] <;> rfl
    · rintro H4 ⟨s4, hD4, hj⟩
      walk_at "wp"
      refine ⟨D, _, rfl, SqL.of hD4, ?_⟩
      have eall : (List.replicate xs.length true).all id = true := by
        rw [List.all_eq_true]
        intro b hb
        rw [List.eq_of_mem_replicate hb] <;> rfl
      rw [eall]
      exact k _ s4

def spCheckText : Sp := fun vs H Q _ => ∃ (x : Str), vs = [.str x] ∧ Q .non H
theorem ok_check_text (T : Txt P w K mg) : FnOk P w K mg base CX0 1 T.f_check_text T.fd_check_text ["text"] spCheckText := by
  refine T.F_check_text.ok sc_check_text (fun vs H Q E h => ?_) (fun cdv A outer s H vs Q E hr h => ?_)
  · obtain ⟨x, rfl, _⟩ := h
    rfl
  · obtain ⟨x, rfl, k⟩ := h
    refine ⟨_, (pss_one (ps_if (pt_cmpR op_notTyB (pe_callTy call_type1 (by rfl) T.n_type (by decide +kernel) (pa_cons (pv 0) pa_nil)) (pe_bltn (v := .ty "str") (by rfl) T.n_str (by decide +kernel) rfl) (nomark _)) (pss_one ps_never) pss_nil)), ?_⟩
    rw [show L2.start ["text"] [.str x] = [some (.str x)] from rfl]
    try dsimp only [cxOf]
    walk_at "wp"
    refine iteN (fun e => absurd rfl e) (fun _ => ?_)
    walk_at "wp"
    exact k

def spReadNum : Sp := fun vs H Q _ => ∃ (m : Nat), vs = [.str (numT m)] ∧ m < 10 ^ 60 ∧ ∀ H', Same H H' → Q (.int m) H'
theorem ok_read_number (T : Txt P w K mg) : FnOk P w K mg base CX0 1 T.f_read_number T.fd_read_number ["text"] spReadNum := by
  refine T.F_read_number.ok sc_read_number (fun vs H Q E h => ?_) (fun cdv A outer s H vs Q E hr h => ?_)
  · obtain ⟨m, rfl, _⟩ := h
    rfl
  · obtain ⟨m, rfl, hm, k⟩ := h
    obtain ⟨l1, l2⟩ := numT_len hm
    refine ⟨_, (pss_cons (ps_if (pt_not (pt_chain op_le op_le pe_int (pe_callB call_len_str (by rfl) T.n_len (by decide +kernel) (pa_cons (pv 0) pa_nil)) (pe_glob (v := .int 60) (by rfl) T.c_MOST_FIGURES ⟨_, rfl⟩))) (pss_one ps_never) pss_nil)
      (pss_cons (ps_if (pt_not (pt_val (pe_callB (cr_all rfl) (by rfl) T.n_all (by decide +kernel) (pa_cons (pe_lc (own := [("sign", 1)]) rfl sc_read_number.nd (pi_str (pv 0)) (blkOk_by (N := ["text", "sign"]) (sc := defScope s_read_number) (by decide +kernel)) (fun _ _ _ _ _ => pg_name (i := 1) sc_read_number.nd rfl (Or.inl rfl)) (fun _ _ _ _ _ => pts_nil) (fun _ _ _ _ _ => (pe_cmpR op_in_sign (pv 1) (pe_glob (v := .str "0123456789") (by rfl) T.c_FIGURES ⟨_, rfl⟩) (by rfl)))) pa_nil)))) (pss_one ps_never) pss_nil)
      (pss_cons (ps_if (PW.pt (pw_and (pt_cmpR op_eq (pe_ix ix_str (pv 0) pe_int (fun _ _ => rfl)) pe_str (nomark _)) (pw_and1 (pt_cmpR op_ne (pv 0) pe_str (nomark _))))) (pss_one ps_never) pss_nil)
      (pss_one (ps_ret (pe_callTy call_int_str (by rfl) T.n_int (by decide +kernel) (pa_cons (pv 0) pa_nil))))))), ?_⟩
    rw [show L2.start ["text", "sign"] [.str (numT m)] = [some (.str (numT m)), none] from rfl]
    try dsimp only [cxOf]
    have lz : (numT (m : Int)).length ≤ sizeLine := Nat.le_trans l2 (by decide)
    walk_at "wp"
    refine ⟨lz, ?_⟩
    walk_at "wp"
    refine ite_ (fun _ => ?_) (fun c => absurd (show (1 : Int) ≤ ((numT (m : Int)).length : Nat) by omega) c)
    walk_at "wp"
    refine iteN (fun c => absurd (show (((numT (m : Int)).length : Nat) : Int) ≤ 60 by omega) c) (fun _ => ?_)
    walk_at "wp"
    refine lcS ?_
    walk_at "wp"
    intro D hD
    refine loopCS (fun j H' => Same H H' ∧ H' D = some (.lst ((List.replicate j true).map V.bl)) ∧ j ≤ 60) ⟨same_new hD, upd_same, Nat.zero_le _⟩ ?_ ?_
    · rintro j c H4 hc ⟨s4, hD4, hj⟩
      have hjl : j < (numT (m : Int)).cps.size := (Array.getElem?_eq_some_iff.mp hc).1
      have hjl2 : j < (numT (m : Int)).length := hjl
      have hmem : c ∈ (numT (m : Int)).cps.toList := by
        rw [← Array.getElem?_toList] at hc
        exact List.mem_of_getElem? hc
      rw [numT_nat] at hmem
      have hcd := TL.numL_digits m c hmem
      walk_at "wp"
      have e : decide (c ∈ ("0123456789" : Str).cps.toList) = true := by
        have : c = 48 ∨ c = 49 ∨ c = 50 ∨ c = 51 ∨ c = 52 ∨ c = 53 ∨ c = 54 ∨ c = 55 ∨ c = 56 ∨ c = 57 := by omega
        rcases this with rfl | rfl | rfl | rfl | rfl | rfl | rfl | rfl | rfl | rfl <;> decide +kernel
      rw [e]
      refine ⟨_, hD4, ?_, ?_, ?_, by omega⟩
      · rw [List.length_map, List.length_replicate]; exact Nat.lt_of_le_of_lt hj (by decide)
      · intro q z hq
        rw [upd_ne (ne_of_none hq hD)]
        exact s4 _ _ hq
      · rw [upd_same, List.replicate_succ', List.map_append] <;> rfl
    · rintro H4 ⟨s4, hD4, hj⟩
      walk_at "wp"
      refine ⟨D, _, rfl, SqL.of hD4, ?_⟩
      have eall : (List.replicate (numT (m : Int)).cps.size true).all id = true := by
        rw [List.all_eq_true]
        intro b hb
        rw [List.eq_of_mem_replicate hb] <;> rfl
      rw [eall]
      walk_at "wp"
      cases en : TL.numL m with
      | nil => exact absurd en (TL.numL_ne m)
      | cons c r =>
        have h0 : atI (numT (m : Int)).cps.toList 0 = some c := by
          rw [numT_nat, en]
          exact atI_of (n := 0) rfl rfl
        refine ⟨_, 0, c, rfl, rfl, lz, h0, ?_⟩
        walk_at "wp"
        refine ite_ (fun e => ?_) (fun e => ?_)
        · have ec : c = 48 := by
            have e1 : (⟨#[c]⟩ : Str) = "0" := V.str.inj e
            have e2 : (#[c] : Array Nat) = ("0" : Str).cps := congrArg Str.cps e1
            have e3 : ("0" : Str).cps = #[48] := by decide +kernel
            rw [e3] at e2
            exact (List.cons.inj (congrArg Array.toList e2)).1
          subst ec
          obtain ⟨rfl, rfl⟩ := numL_head m r en
          walk_at "wp"
          have et : numT ((0 : Nat) : Int) = "0" := by decide +kernel
          refine iteN (fun e2 => absurd (congrArg V.str et) e2) (fun _ => ?_)
          walk_at "wp"
          refine ⟨_, _, rfl, int_back hm, by omega, ?_⟩
          exact k _ s4
        · walk_at "wp"
          refine ⟨_, _, rfl, int_back hm, by omega, ?_⟩
          exact k _ s4

def spReadSigned : Sp := fun vs H Q _ => ∃ (i : Int), vs = [.str (numT i)] ∧ i.natAbs < 10 ^ 60 ∧ ∀ H', Same H H' → Q (.int i) H'
theorem ok_read_signed (T : Txt P w K mg) : FnOk P w K mg base CX0 2 T.f_read_signed T.fd_read_signed ["text"] spReadSigned := by
  have G_read_number := ok_read_number (base := base) T
  refine T.F_read_signed.ok sc_read_signed (fun vs H Q E h => ?_) (fun cdv A outer s H vs Q E hr h => ?_)
  · obtain ⟨i, rfl, _⟩ := h
    rfl
  · obtain ⟨i, rfl, hi, k⟩ := h
    refine ⟨_, (pss_cons (ps_if (pt_cmpR op_ne (pe_slice sl_str (pv 0) po_none (po_some pe_int)) pe_str (nomark _)) (pss_one (ps_ret (pe_call G_read_number (hr.mono (by decide)) (by rfl) T.g_read_number T.F_read_number.kp T.b_read_number .nil pass0 (pa_cons (pv 0) pa_nil)))) pss_nil)
      (pss_cons (ps_set (i := 1) sc_read_signed.nd rfl (.inl rfl) (pe_call G_read_number (hr.mono (by decide)) (by rfl) T.g_read_number T.F_read_number.kp T.b_read_number .nil pass0 (pa_cons (pe_slice sl_str (pv 0) (po_some pe_int) po_none) pa_nil)))
      (pss_cons (ps_if (pt_cmpR op_eq (pv 1) pe_int (nomark _)) (pss_one ps_never) pss_nil)
      (pss_one (ps_ret (pe_un un_neg (pv 1))))))), ?_⟩
    rw [show L2.start ["text", "number"] [.str (numT i)] = [some (.str (numT i)), none] from rfl]
    try dsimp only [cxOf]
    have lz : (numT i).length ≤ sizeLine := Nat.le_trans (numT_any hi) (by decide)
    have e45 : ("-" : Str) = ⟨#[45]⟩ := by decide +kernel
    by_cases c0 : 0 ≤ i
    · obtain ⟨m, rfl⟩ : ∃ m : Nat, i = (m : Int) := ⟨i.natAbs, by omega⟩
      have hm : m < 10 ^ 60 := by omega
      have ht := numT_nat m
      cases en : TL.numL m with
      | nil => exact absurd en (TL.numL_ne m)
      | cons c r =>
        rw [en] at ht
        have hc := TL.numL_digits m c (by rw [en]; exact List.mem_cons_self)
        have eh := cut_head ht
        walk_at "wp"
        rw [eh]
        refine iteN (fun _ => ?_) (fun e2 => absurd (sgn_inj ((V.str.inj e2).trans e45)) (by omega))
        walk_at "wp"
        refine ⟨m, rfl, hm, fun H' s' => ?_⟩
        walk_at "wp"
        exact k _ s'
    · obtain ⟨m, rfl⟩ : ∃ m : Nat, i = -(m : Int) := ⟨i.natAbs, by omega⟩
      have hm : m < 10 ^ 60 := by omega
      have ht := numT_neg (m := m) (by omega)
      have eh := cut_head ht
      have et : cutS (numT (-(m : Int))) (some 1) none = numT (m : Int) := TL.ext_tl ((cut_tail ht).trans (numT_nat m).symm)
      walk_at "wp"
      rw [eh]
      refine iteN (fun e2 => absurd (congrArg V.str e45.symm) e2) (fun _ => ?_)
      walk_at "wp"
      rw [et]
      refine ⟨m, rfl, hm, fun H' s' => ?_⟩
      walk_at "wp"
      refine ite_ (fun e2 => absurd (V.int.inj e2) (by omega)) (fun _ => ?_)
      walk_at "wp"
      exact k _ s'

end
end K56

namespace K56
open PySem PySem.Spec PyProof.Rows L2 Wp Wq Wr Wt Wrw
local macro_rules | `(tactic| walk_at "ne") => `(tactic| first
  | assumption
  | (refine Ne.symm ?_; assumption)
  | exact ne_of_none (by assumption) (by assumption)
  | exact (ne_of_none (by assumption) (by assumption)).symm
  | exact ne_of (by assumption) (by assumption) (by intro q; cases q))
local macro_rules | `(tactic| walk_at "hp") => `(tactic| first
  | assumption
  | exact upd_same
  | (refine (upd_ne ?_).trans ?_; (walk_at "ne"); (walk_at "hp")))
local macro_rules | `(tactic| walk_at "sq") => `(tactic| first
  | assumption
  | exact SqL.of (by walk_at "hp")
  | exact SqT.of (by walk_at "hp"))
local macro_rules | `(tactic| walk_at "kind") => `(tactic| first
  | assumption
  | exact Kind.int _
  | exact Kind.str _
  | exact Kind.bl _
  | exact Kind.non
  | exact Kind.tup (by walk_at "hp")
  | exact Kind.lst (by walk_at "hp")
  | exact Kind.dK (by walk_at "hp"))
local macro_rules | `(tactic| walk_at "w1") => `(tactic| first
  | (with_reducible refine Wp.seq ?_)
  | (with_reducible refine Wp.nx_mk ?_)
  | (with_reducible refine Wp.rt_mk ?_)
  | (with_reducible refine Wp.bk_mk ?_)
  | (with_reducible refine Wp.ct_mk ?_)
  | (with_reducible refine Wp.next ?_)
  | (with_reducible refine Wp.asg ?_)
  | ((with_reducible refine' Wp.gname ?e ?_); (case e => (try dsimp only [List.set, L2.wipe, List.map_cons, List.map_nil]); (try exact rfl)))
  | (with_reducible refine Wp.gsub ?_)
  | (with_reducible refine Wp.ret ?_)
  | (with_reducible refine Wp.retN ?_)
  | (with_reducible refine Wp.drop ?_)
  | (with_reducible refine Wp.dput ?_)
  | (with_reducible refine Wp.ifs ?_)
  | ((with_reducible refine' Wp.var ?h ?_); (case h => exact rfl))
  | (with_reducible refine Wp.con ?_)
  | (with_reducible refine Wp.op ?_)
  | (with_reducible refine Wp.un ?_)
  | (with_reducible refine Wp.cb ?_)
  | (with_reducible refine Wp.anil ?_)
  | (with_reducible refine Wp.acons ?_)
  | (with_reducible refine Wp.call ?_)
  | (with_reducible refine Wp.test ?_)
  | (with_reducible refine Wp.tb_ ?_)
  | (with_reducible refine Wp.and_ ?_)
  | (with_reducible refine Wp.or_ ?_)
  | (with_reducible refine Wp.not_ ?_)
  | (with_reducible refine Wp.andV ?_)
  | (with_reducible refine Wp.orV ?_)
  | (with_reducible refine Wp.notV ?_)
  | (with_reducible refine Wp.rI0_ ?_)
  | (with_reducible refine Wp.rU_ ?_)
  | ((with_reducible refine Wp.rEq_ ?k ?_); (case k => exact rfl))
  | ((with_reducible refine Wp.rNe_ ?k ?_); (case k => exact rfl))
  | (with_reducible refine Wp.gcons ?_)
  | (with_reducible refine Wp.gnil ?_)
  | ((with_reducible refine' Wp.gtup ?h ?e ?_); (case h => walk_at "sq"); (case e => exact rfl))
  | (with_reducible refine Wp.sl ?_)
  | (with_reducible refine Wp.part ?_)
  | (with_reducible refine Wp.nopart ?_)
  | (with_reducible refine Wp.ifE ?_)
  | (with_reducible refine Wp.bm0 ?_)
  | (with_reducible refine Wp.bm ?_)
  | (with_reducible refine Wp.lcR1 ?_)
  | (with_reducible refine Wp.lcR2 ?_)
  | (with_reducible refine Wp.lcL ?_)
  | (with_reducible refine Wp.chain ?_)
  | (with_reducible refine Wp.lc2V ?_)
  | (with_reducible refine Wp.piL ?_)
  | (with_reducible refine Wp.yes ?_)
  | (with_reducible refine Wp.dinI ?_)
  | (with_reducible refine Wp.dninI ?_)
  | (with_reducible refine Wp.dget ?_)
  | ((with_reducible refine' ⟨?k, ?_⟩); (case k => show L2.wipe _ _ = L2.wipe _ _; exact rfl))
  | (with_reducible refine Wp.forR1 ?_)
  | (with_reducible refine Wp.forR2 ?_)
  | (with_reducible refine Wp.forL ?_)
  | (with_reducible refine Wp.forT ?_)
  | ((with_reducible refine' ⟨?k, ?_⟩); (case k => exact Wp.tyvL (by walk_at "hp")))
  | ((with_reducible refine' Wp.rev_ ?k ?_); (case k => walk_at "hp"))
  | ((with_reducible refine' Wp.isi ?k ?h ?_); (case k => walk_at "kind"); (case h => decide))
  | ((with_reducible refine' Wp.typ ?k ?_); (case k => walk_at "kind"))
  | (with_reducible refine Wp.slS ?k ?_; (case k => assumption))
  | (with_reducible refine iteT ?_)
  | (with_reducible refine iteF ?_)
  | (with_reducible refine Wz.par ?_)
  | (with_reducible refine Wz.forN ?_)
  | (with_reducible refine Wz.dcL ?_)
  | (with_reducible refine Wz.forZ ?_)
  | (with_reducible refine Wz.lcR3 ?_)
  | (with_reducible refine Wc.revL ?_)
  | (with_reducible refine Wd.nm ?_)
  | (with_reducible refine Wd.nget ?_)
  | ((with_reducible refine Wd.tnew ?_); intro p hp)
  | (with_reducible refine Wd.pikn ?_)
  | (with_reducible refine Wt.m1 ?_)
  | (with_reducible refine Wt.m0 ?_)
  | ((with_reducible refine' ⟨?k, ?_⟩); (case k => show ∃ a, _ = V.str a; exact ⟨_, rfl⟩))
  | (with_reducible refine Wt.js_cons ?_)
  | (with_reducible refine Wt.fmt_ ?_)
  | (with_reducible refine Wp.pcons ?_)
  | (with_reducible refine Wp.pnil ?_)
  | ((with_reducible refine' Wp.iteBnT ?h ?_); (case h => show isB _ _ = false; decide))
  | ((with_reducible refine' Wp.iteBnF ?h ?_); (case h => show isB _ _ = true; decide))
  | ((with_reducible refine' Wp.iteBt ?h ?_); (case h => show isB _ _ = true; decide))
  | ((with_reducible refine' Wp.iteBf ?h ?_); (case h => show isB _ _ = false; decide))
  | (with_reducible refine Wp.iteT' ?_)
  | (with_reducible refine Wp.iteF' ?_)
  | (with_reducible refine Wp.rNT_ ?_)
  | ((with_reducible refine Wp.lst ?_))
  | ((with_reducible refine Wp.tup ?_))
  | ((with_reducible refine' Wp.ixL ?h ?e ?_); (case h => walk_at "sq"); (case e => exact rfl))
  | ((with_reducible refine' Wp.ixT ?h ?e ?_); (case h => walk_at "sq"); (case e => exact rfl))
  | ((with_reducible refine' Wp.setL ?h ?e ?_); (case h => walk_at "hp"); (case e => exact rfl))
  | ((with_reducible refine Wp.rI_ ?k ?_); (case k => first | (show (0:Int) < _; omega) | (show CPow _ _; refine' ⟨?_, ?_, ?_⟩ <;> omega) | (show CDiv _ _; refine' ⟨?_, ?_⟩ <;> omega) | (show CMul _ _; refine' Or.inl ⟨?_, ?_⟩ <;> omega) | (show CMul _ _; refine' Or.inr ⟨?_, ?_⟩ <;> first | omega | decide) | (show CDivW _ _; refine' wide_div (b := 240) ?_ ?_ ?_ ?_ <;> first | omega | decide)))
  | ((with_reducible refine ⟨?k, ?_⟩); (case k => first | exact Nat.zero_le _ | (exact Nat.le_of_ble_eq_true rfl)); intro p hp)
  | ((with_reducible refine' ⟨_, _, rfl, .inl ?k, ?_⟩); (case k => walk_at "sq"))
  | ((with_reducible refine' ⟨_, _, rfl, .inr ?k, ?_⟩); (case k => walk_at "sq"))
  | (with_reducible refine ⟨_, rfl, ?_⟩)
  | (with_reducible refine ⟨_, _, rfl, rfl, ?_⟩)
  | (with_reducible refine ⟨_, _, rfl, ?_⟩))
local macro_rules | `(tactic| walk_at "wp") => `(tactic| repeat (walk_at "w1"))

section
variable {P : Program} {w : World} {K : PySem.W.Frag} {mg : Str → Option Value} {base : Heap}
def spShowProgram : Sp := fun vs H Q _ => ∃ (a : Addr) (xs : List V) (rs : List Rw) (m : Int), vs = [.ref a] ∧ H a = some (.lst xs) ∧ Rws H xs rs ∧ rs.length ≤ 100 ∧ (∀ r ∈ rs, RowOk m r) ∧ ∀ H', Same H H' → Q (.str (gText rs)) H'
theorem ok_show_program (T : Txt P w K mg) : FnOk P w K mg base CX0 1 T.f_show_program T.fd_show_program ["rows"] spShowProgram := by
  refine T.F_show_program.ok sc_show_program (fun vs H Q E h => ?_) (fun cdv A outer s H vs Q E hr h => ?_)
  · obtain ⟨a, xs, rs, m, rfl, _⟩ := h
    rfl
  · obtain ⟨a, xs, rs, m, rfl, ha, hP, hl, hok, k⟩ := h
    refine ⟨_, (pss_one (ps_ret (pe_join pe_str (pe_lc (own := [("row", 1)]) rfl sc_show_program.nd (pi_list (pv 0)) (blkOk_by (N := ["rows", "row", "word"]) (sc := defScope s_show_program) (by decide +kernel)) (fun _ _ _ _ _ => pg_name (i := 1) sc_show_program.nd rfl (Or.inl rfl)) (fun _ _ _ _ _ => pts_nil) (fun _ _ _ _ _ => (show PE _ _ (tM1 (Wrw.rJoin K) _ _) from Wrw.pe_joinK pe_str (pe_lc (own := [("word", 2)]) rfl sc_show_program.nd (show PI _ _ _ (iTup K _) from pi_tup (pv 1)) (blkOk_by (N := ["rows", "row", "word"]) (sc := { kind := PySem.ScopeKind.function, names := [(PySem.Str.ofString ".0", PySem.NameKind.local), (PySem.Str.ofString "row", PySem.NameKind.local)], isGenerator := false, isCoroutine := false, more := [] : PySem.Scope }) (by decide +kernel)) (fun _ _ _ _ _ => pg_name (i := 2) sc_show_program.nd rfl (Or.inl rfl)) (fun _ _ _ _ _ => pts_nil) (fun _ _ _ _ _ => (pe_callTy (show CallR _ _ Wrw.rStrAny from Wrw.call_strAny) (by rfl) T.n_str (by decide +kernel) (pa_cons (pv 2) pa_nil)))))))))), ?_⟩
    rw [show L2.start ["rows", "row", "word"] [.ref a] = [some (.ref a), none, none] from rfl]
    try dsimp only [cxOf]
    walk_at "wp"
    refine ⟨⟨_, SqL.of ha⟩, fun D hD => ?_⟩
    have hDa : a ≠ D := ne_of_none ha hD
    refine loopCL (fun j H' => Same H H' ∧ H' D = some (.lst (((rs.take j).map rText).map V.str))) ⟨same_new hD, upd_same⟩ (fun j H' hj h => SqL.of (h.1 _ _ ha)) ?_ ?_
    · rintro j x H4 hx ⟨s4, hD4⟩
      obtain ⟨⟨z, o⟩, hr0, hv⟩ := hP.get hx
      have hz := hok _ (List.mem_of_getElem? hr0)
      obtain ⟨t, rfl, ht⟩ := hv.keep (Same.tk s4)
      have hlt : j < rs.length := (List.getElem?_eq_some_iff.mp hr0).1
      have done : ∀ (x : Str) H5, x = rText (z, o) → Same H4 H5 → (∃ acc, H5 D = some (.lst acc) ∧ acc.length < sizeLine ∧ (Same H (upd H5 D (.lst (acc ++ [V.str x]))) ∧ upd H5 D (.lst (acc ++ [V.str x])) D = some (.lst (((rs.take (j + 1)).map rText).map V.str)))) := by
        rintro x H5 rfl s5
        refine ⟨_, s5 _ _ hD4, ?_, ?_, ?_⟩
        · rw [List.length_map, List.length_map, List.length_take]; exact Wb.small (by omega)
        · intro q z hq
          rw [upd_ne (ne_of_none hq hD)]
          exact s5 _ _ (s4 _ _ hq)
        · rw [upd_same, List.take_add_one, hr0, List.map_append, List.map_append] <;> rfl
      have ww := word_f hz.word
      have e5 : z.length ≤ 5 := ww.len
      have big : (100000 : Nat) ≤ sizeLine := by decide
      walk_at "wp"
      refine Wrw.loop_setLc ?_
      walk_at "wp"
      cases o with
      | none =>
        have ht : H4 t = some (.tup [.str z]) := ht
        refine ⟨⟨_, SqT.of ht⟩, fun D2 hD2 => ?_⟩
        refine loopCT (fun i H' => Same H4 H' ∧ H' D2 = some (.lst (([z].take i).map V.str))) ⟨same_new hD2, upd_same⟩ (fun i H' hi h => SqT.of (h.1 _ _ ht)) ?_ ?_
        · rintro i y H6 hy ⟨s6, hD6⟩
          have hi : i = 0 := by have := (List.getElem?_eq_some_iff.mp hy).1; simp at this; omega
          subst hi
          cases hy
          walk_at "wp"
          refine .inl ⟨_, rfl, ?_⟩
          refine ⟨_, hD6, ?_, ?_, upd_same⟩
          · exact Nat.lt_of_lt_of_le (show 0 < 100000 by decide) big
          · intro q z hq
            rw [upd_ne (ne_of_none hq hD2)]
            exact s6 _ _ hq
        · rintro H6 ⟨s6, hD6⟩
          refine ⟨_, D2, [z], rfl, rfl, .inl (SqL.of hD6), ?_, ?_⟩
          · have h1 : (" " : Str).length = 1 := by decide +kernel
            rw [h1]
            show (z.length + 0) + 1 * 1 ≤ sizeLine
            omega
          · exact done _ _ rText_join1 s6
      | some n =>
        have ht : H4 t = some (.tup [.str z, .int n]) := ht
        have e6 := numT_any hz.1
        refine ⟨⟨_, SqT.of ht⟩, fun D2 hD2 => ?_⟩
        refine loopCT (fun i H' => Same H4 H' ∧ H' D2 = some (.lst (([z, numT n].take i).map V.str))) ⟨same_new hD2, upd_same⟩ (fun i H' hi h => SqT.of (h.1 _ _ ht)) ?_ ?_
        · rintro i y H6 hy ⟨s6, hD6⟩
          have hi : i = 0 ∨ i = 1 := by have := (List.getElem?_eq_some_iff.mp hy).1; simp at this; omega
          have sm : ∀ o, Same H4 (upd H6 D2 o) := fun o q z hq => by
            rw [upd_ne (ne_of_none hq hD2)]
            exact s6 _ _ hq
          rcases hi with rfl | rfl
          · cases hy
            walk_at "wp"
            refine .inl ⟨_, rfl, ?_⟩
            exact ⟨_, hD6, Nat.lt_of_lt_of_le (show 0 < 100000 by decide) big, sm _, upd_same⟩
          · cases hy
            walk_at "wp"
            refine .inr ⟨n, rfl, log_ok hz.1, ?_⟩
            exact ⟨_, hD6, Nat.lt_of_lt_of_le (show 1 < 100000 by decide) big, sm _, upd_same⟩
        · rintro H6 ⟨s6, hD6⟩
          refine ⟨_, D2, [z, numT n], rfl, rfl, .inl (SqL.of hD6), ?_, ?_⟩
          · have h1 : (" " : Str).length = 1 := by decide +kernel
            rw [h1]
            show (z.length + ((numT n).length + 0)) + 2 * 1 ≤ sizeLine
            omega
          · exact done _ _ rText_join s6
    · rintro H4 ⟨s4, hD4⟩
      rw [hP.len, List.take_length] at hD4
      refine ⟨_, D, rs.map rText, rfl, rfl, .inl (SqL.of hD4), ?_, ?_⟩
      · have hs : ((rs.map rText).map (·.length)).sum ≤ rs.length * 67 := by
          clear hD4 hP k
          induction rs with
          | nil => exact Nat.zero_le _
          | cons z rs ih =>
            have h1 := (rText_len (hok z List.mem_cons_self)).2
            have h2 := ih (by rw [List.length_cons] at hl; omega) (fun x hx => hok x (List.mem_cons_of_mem _ hx))
            rw [List.map_cons, List.map_cons, List.sum_cons, List.length_cons, Nat.succ_mul]
            show (rText z).length + _ ≤ _
            omega
        have h1 : ("; " : Str).length = 2 := by decide +kernel
        have big : (100000 : Nat) ≤ sizeLine := by decide
        rw [h1, List.length_map]
        omega
      · exact k _ s4

def spReadRow : Sp := fun vs H Q _ => ∃ (r : Rw) (m : Int), vs = [.str (rText r)] ∧ RowOk m r ∧ ∀ v H', IsR H' v r → Same H H' → Q v H'
theorem ok_read_row (T : Txt P w K mg) : FnOk P w K mg base CX0 3 T.f_read_row T.fd_read_row ["part"] spReadRow := by
  have G_read_signed := ok_read_signed (base := base) T
  refine T.F_read_row.ok sc_read_row (fun vs H Q E h => ?_) (fun cdv A outer s H vs Q E hr h => ?_)
  · obtain ⟨r, m, rfl, _⟩ := h
    rfl
  · obtain ⟨⟨z, o⟩, m, rfl, hok, k⟩ := h
    refine ⟨_, (pss_cons (ps_asg (pe_partition (pv 0) pe_str) (pg_tup (by rfl) (pgs_cons (pg_name (i := 1) sc_read_row.nd rfl (.inl rfl)) (pgs_cons (pg_name (i := 2) sc_read_row.nd rfl (.inl rfl)) (pgs_cons (pg_name (i := 3) sc_read_row.nd rfl (.inl rfl)) pgs_nil)))))
      (pss_cons (ps_if (pt_cmpR op_eq (pv 2) pe_str (nomark _)) (pss_one (ps_ret (pe_tup (pa_cons (pv 1) pa_nil)))) pss_nil)
      (pss_one (ps_ret (pe_tup (pa_cons (pv 1) (pa_cons (pe_call G_read_signed (hr.mono (by decide)) (by rfl) T.g_read_signed T.F_read_signed.kp T.b_read_signed .nil pass0 (pa_cons (pv 3) pa_nil)) pa_nil))))))), ?_⟩
    rw [show L2.start ["part", "word", "blank", "figures"] [.str (rText (z, o))] = [some (.str (rText (z, o))), none, none, none] from rfl]
    try dsimp only [cxOf]
    have big : (100000 : Nat) ≤ sizeLine := by decide
    have hlen := (rText_len hok).2
    have ww := word_f hok.word
    walk_at "wp"
    refine ⟨by decide +kernel, by omega, fun p hp => ?_⟩
    cases o with
    | none =>
      rw [show Txt.partition (rText (z, none)) " " = (z, Str.empty, Str.empty) from part_bare ww]
      walk_at "wp"
      refine ite_ (fun _ => ?_) (fun e => absurd (show V.str Str.empty = V.str "" by decide +kernel) e)
      walk_at "wp"
      rename_i t ht
      exact k _ _ ⟨t, rfl, upd_same⟩ ((same_new hp).trans (same_new ht))
    | some n =>
      rw [part_num ww]
      walk_at "wp"
      refine ite_ (fun e => absurd e (by decide +kernel)) (fun _ => ?_)
      walk_at "wp"
      refine ⟨n, rfl, hok.1, fun H' s' => ?_⟩
      walk_at "wp"
      rename_i t ht
      exact k _ _ ⟨t, rfl, upd_same⟩ ((same_new hp).trans (s'.trans (same_new ht)))

def spReadProgram : Sp := fun vs H Q _ => ∃ (rs : List Rw), vs = [.str (gText rs)] ∧ rs.length ≤ 100 ∧ (∀ r ∈ rs, RowOk rs.length r) ∧ ∀ a xs H', H a = none → H' a = some (.lst xs) → Rws H' xs rs → Same H H' → Q (.ref a) H'
theorem ok_read_program (T : Txt P w K mg) : FnOk P w K mg base CX0 4 T.f_read_program T.fd_read_program ["text"] spReadProgram := by
  have G_read_row := ok_read_row (base := base) T
  have G_is_program := ok_is_program (base := base) T
  have G_check_text := ok_check_text (base := base) T
  refine T.F_read_program.ok sc_read_program (fun vs H Q E h => ?_) (fun cdv A outer s H vs Q E hr h => ?_)
  · obtain ⟨rs, rfl, _⟩ := h
    rfl
  · obtain ⟨rs, rfl, hl, hok, k⟩ := h
    have big : (100000 : Nat) ≤ sizeLine := by decide
    have tl := gText_len hok hl
    refine ⟨_, (pss_cons (ps_expr (pe_call G_check_text (hr.mono (by decide)) (by rfl) T.g_check_text T.F_check_text.kp T.b_check_text .nil pass0 (pa_cons (pv 0) pa_nil)))
      (pss_cons (ps_if (pt_cmpR op_eq (pv 0) pe_str (nomark _)) (pss_one (ps_ret (pe_lst pa_nil))) pss_nil)
      (pss_cons (ps_setLc (i := 1) (own := [("part", 2)]) rfl sc_read_program.nd rfl rfl (sw_true rfl rfl rfl (by decide +kernel)) (pi_list (pe_split (pv 0) pe_str)) (blkOk_by (N := ["text", "rows", "part"]) (sc := defScope s_read_program) (by decide +kernel)) (fun _ _ _ _ _ => pg_name (i := 2) sc_read_program.nd rfl (Or.inl rfl)) (fun _ _ _ _ _ => pts_nil) (fun _ _ _ _ _ => (pe_call G_read_row (hr.mono (by decide)) (by rfl) T.g_read_row T.F_read_row.kp T.b_read_row .nil pass0 (pa_cons (pv 2) pa_nil))))
      (pss_cons (ps_if (pt_not (pt_val (pe_call G_is_program (hr.mono (by decide)) (by rfl) T.g_is_program T.F_is_program.kp T.b_is_program .nil pass0 (pa_cons (pv 1) pa_nil)))) (pss_one ps_never) pss_nil)
      (pss_one (ps_ret (pv 1))))))), ?_⟩
    rw [show L2.start ["text", "rows", "part"] [.str (gText rs)] = [some (.str (gText rs)), none, none] from rfl]
    try dsimp only [cxOf]
    walk_at "wp"
    refine ⟨_, rfl, ?_⟩
    walk_at "wp"
    refine ite_ (fun e => ?_) (fun e => ?_)
    · have e0 : rs = [] := Classical.byContradiction fun n => gText_ne hok n (V.str.inj e)
      subst e0
      walk_at "wp"
      rename_i p hp
      exact k p [] _ hp upd_same Rws.nil (same_new hp)
    · have e0 : rs ≠ [] := fun q => e (by rw [q]; decide +kernel)
      walk_at "wp"
      refine ⟨by decide +kernel, by omega, ?_⟩
      rw [gText_split hok e0]
      intro a ha
      refine ⟨a, rfl, ⟨_, SqL.of upd_same⟩, fun D hD => ?_⟩
      have hDa : D ≠ a := (ne_of_none upd_same hD).symm
      have hD0 : H D = none := by rw [upd_ne hDa] at hD; exact hD
      refine loopCL (fun j H' => Same H H' ∧ H' a = some (.lst ((rs.map rText).map V.str)) ∧ ∃ xs, H' D = some (.lst xs) ∧ Rws H' xs (rs.take j)) ⟨(same_new ha).trans (same_new hD), by rw [upd_ne hDa.symm]; exact upd_same, [], upd_same, Rws.nil⟩ (fun j H' hj h => SqL.of h.2.1) ?_ ?_
      · rintro j x H4 hx ⟨s4, ha4, xs, hD4, hP4⟩
        rw [List.getElem?_map, List.getElem?_map] at hx
        cases hz : rs[j]? with
        | none =>
          rw [hz] at hx
          cases hx
        | some z =>
          rw [hz] at hx
          cases hx
          walk_at "wp"
          refine ⟨z, _, rfl, hok z (List.mem_of_getElem? hz), fun v H5 hv s5 => ?_⟩
          have hP5 := hP4.keep (Same.tk s5)
          refine ⟨xs, s5 _ _ hD4, ?_, ?_, ?_, ?_⟩
          · rw [hP4.len, List.length_take]
            exact Wb.small (by omega)
          · intro q o hq
            rw [upd_ne (ne_of_none hq hD0)]
            exact s5 _ _ (s4 _ _ hq)
          · rw [upd_ne hDa.symm]
            exact s5 _ _ ha4
          · refine ⟨_, upd_same, ?_⟩
            rw [List.take_add_one, hz]
            exact Rws.app (hP5.keep (Tk.lst (s5 _ _ hD4))) (Rws.one (hv.keep (Tk.lst (s5 _ _ hD4))))
      · rintro H4 ⟨s4, ha4, xs, hD4, hP4⟩
        rw [List.length_map, List.length_map, List.take_length] at hP4
        walk_at "wp"
        refine ⟨D, xs, rs, rfl, hD4, hP4, by omega, hok, fun H5 s5 => ?_⟩
        walk_at "wp"
        exact k D xs _ hD0 (s5 _ _ hD4) (hP4.keep (Same.tk s5)) (s4.trans s5)

end
end K56

namespace K56
open PySem PySem.Spec PyProof.Rows L2 Wp Wq Wr Wt Wrw
local macro_rules | `(tactic| walk_at "ne") => `(tactic| first
  | assumption
  | (refine Ne.symm ?_; assumption)
  | exact ne_of_none (by assumption) (by assumption)
  | exact (ne_of_none (by assumption) (by assumption)).symm
  | exact ne_of (by assumption) (by assumption) (by intro q; cases q))
local macro_rules | `(tactic| walk_at "hp") => `(tactic| first
  | assumption
  | exact upd_same
  | (refine (upd_ne ?_).trans ?_; (walk_at "ne"); (walk_at "hp")))
local macro_rules | `(tactic| walk_at "sq") => `(tactic| first
  | assumption
  | exact SqL.of (by walk_at "hp")
  | exact SqT.of (by walk_at "hp"))
local macro_rules | `(tactic| walk_at "kind") => `(tactic| first
  | assumption
  | exact Kind.int _
  | exact Kind.str _
  | exact Kind.bl _
  | exact Kind.non
  | exact Kind.tup (by walk_at "hp")
  | exact Kind.lst (by walk_at "hp")
  | exact Kind.dK (by walk_at "hp"))
local macro_rules | `(tactic| walk_at "w1") => `(tactic| first
  | (with_reducible refine Wp.seq ?_)
  | (with_reducible refine Wp.nx_mk ?_)
  | (with_reducible refine Wp.rt_mk ?_)
  | (with_reducible refine Wp.bk_mk ?_)
  | (with_reducible refine Wp.ct_mk ?_)
  | (with_reducible refine Wp.next ?_)
  | (with_reducible refine Wp.asg ?_)
  | ((with_reducible refine' Wp.gname ?e ?_); (case e => (try dsimp only [List.set, L2.wipe, List.map_cons, List.map_nil]); (try exact rfl)))
  | (with_reducible refine Wp.gsub ?_)
  | (with_reducible refine Wp.ret ?_)
  | (with_reducible refine Wp.retN ?_)
  | (with_reducible refine Wp.drop ?_)
  | (with_reducible refine Wp.dput ?_)
  | (with_reducible refine Wp.ifs ?_)
  | ((with_reducible refine' Wp.var ?h ?_); (case h => exact rfl))
  | (with_reducible refine Wp.con ?_)
  | (with_reducible refine Wp.op ?_)
  | (with_reducible refine Wp.un ?_)
  | (with_reducible refine Wp.cb ?_)
  | (with_reducible refine Wp.anil ?_)
  | (with_reducible refine Wp.acons ?_)
  | (with_reducible refine Wp.call ?_)
  | (with_reducible refine Wp.test ?_)
  | (with_reducible refine Wp.tb_ ?_)
  | (with_reducible refine Wp.and_ ?_)
  | (with_reducible refine Wp.or_ ?_)
  | (with_reducible refine Wp.not_ ?_)
  | (with_reducible refine Wp.andV ?_)
  | (with_reducible refine Wp.orV ?_)
  | (with_reducible refine Wp.notV ?_)
  | (with_reducible refine Wp.rI0_ ?_)
  | (with_reducible refine Wp.rU_ ?_)
  | ((with_reducible refine Wp.rEq_ ?k ?_); (case k => exact rfl))
  | ((with_reducible refine Wp.rNe_ ?k ?_); (case k => exact rfl))
  | (with_reducible refine Wp.gcons ?_)
  | (with_reducible refine Wp.gnil ?_)
  | ((with_reducible refine' Wp.gtup ?h ?e ?_); (case h => walk_at "sq"); (case e => exact rfl))
  | (with_reducible refine Wp.sl ?_)
  | (with_reducible refine Wp.part ?_)
  | (with_reducible refine Wp.nopart ?_)
  | (with_reducible refine Wp.ifE ?_)
  | (with_reducible refine Wp.bm0 ?_)
  | (with_reducible refine Wp.bm ?_)
  | (with_reducible refine Wp.lcR1 ?_)
  | (with_reducible refine Wp.lcR2 ?_)
  | (with_reducible refine Wp.lcL ?_)
  | (with_reducible refine Wp.chain ?_)
  | (with_reducible refine Wp.lc2V ?_)
  | (with_reducible refine Wp.piL ?_)
  | (with_reducible refine Wp.yes ?_)
  | (with_reducible refine Wp.dinI ?_)
  | (with_reducible refine Wp.dninI ?_)
  | (with_reducible refine Wp.dget ?_)
  | ((with_reducible refine' ⟨?k, ?_⟩); (case k => show L2.wipe _ _ = L2.wipe _ _; exact rfl))
  | (with_reducible refine Wp.forR1 ?_)
  | (with_reducible refine Wp.forR2 ?_)
  | (with_reducible refine Wp.forL ?_)
  | (with_reducible refine Wp.forT ?_)
  | ((with_reducible refine' ⟨?k, ?_⟩); (case k => exact Wp.tyvL (by walk_at "hp")))
  | ((with_reducible refine' Wp.rev_ ?k ?_); (case k => walk_at "hp"))
  | ((with_reducible refine' Wp.isi ?k ?h ?_); (case k => walk_at "kind"); (case h => decide))
  | ((with_reducible refine' Wp.typ ?k ?_); (case k => walk_at "kind"))
  | (with_reducible refine Wp.slS ?k ?_; (case k => assumption))
  | (with_reducible refine iteT ?_)
  | (with_reducible refine iteF ?_)
  | (with_reducible refine Wz.par ?_)
  | (with_reducible refine Wz.forN ?_)
  | (with_reducible refine Wz.dcL ?_)
  | (with_reducible refine Wz.forZ ?_)
  | (with_reducible refine Wz.lcR3 ?_)
  | (with_reducible refine Wc.revL ?_)
  | (with_reducible refine Wd.nm ?_)
  | (with_reducible refine Wd.nget ?_)
  | ((with_reducible refine Wd.tnew ?_); intro p hp)
  | (with_reducible refine Wd.pikn ?_)
  | (with_reducible refine Wt.m1 ?_)
  | (with_reducible refine Wt.m0 ?_)
  | ((with_reducible refine' ⟨?k, ?_⟩); (case k => show ∃ a, _ = V.str a; exact ⟨_, rfl⟩))
  | (with_reducible refine Wt.js_cons ?_)
  | (with_reducible refine Wt.fmt_ ?_)
  | (with_reducible refine Wp.pcons ?_)
  | (with_reducible refine Wp.pnil ?_)
  | ((with_reducible refine' Wp.iteBnT ?h ?_); (case h => show isB _ _ = false; decide))
  | ((with_reducible refine' Wp.iteBnF ?h ?_); (case h => show isB _ _ = true; decide))
  | ((with_reducible refine' Wp.iteBt ?h ?_); (case h => show isB _ _ = true; decide))
  | ((with_reducible refine' Wp.iteBf ?h ?_); (case h => show isB _ _ = false; decide))
  | (with_reducible refine Wp.iteT' ?_)
  | (with_reducible refine Wp.iteF' ?_)
  | (with_reducible refine Wp.rNT_ ?_)
  | ((with_reducible refine Wp.lst ?_))
  | ((with_reducible refine Wp.tup ?_))
  | ((with_reducible refine' Wp.ixL ?h ?e ?_); (case h => walk_at "sq"); (case e => exact rfl))
  | ((with_reducible refine' Wp.ixT ?h ?e ?_); (case h => walk_at "sq"); (case e => exact rfl))
  | ((with_reducible refine' Wp.setL ?h ?e ?_); (case h => walk_at "hp"); (case e => exact rfl))
  | ((with_reducible refine Wp.rI_ ?k ?_); (case k => first | (show (0:Int) < _; omega) | (show CPow _ _; refine' ⟨?_, ?_, ?_⟩ <;> omega) | (show CDiv _ _; refine' ⟨?_, ?_⟩ <;> omega) | (show CMul _ _; refine' Or.inl ⟨?_, ?_⟩ <;> omega) | (show CMul _ _; refine' Or.inr ⟨?_, ?_⟩ <;> first | omega | decide) | (show CDivW _ _; refine' wide_div (b := 240) ?_ ?_ ?_ ?_ <;> first | omega | decide)))
  | ((with_reducible refine ⟨?k, ?_⟩); (case k => first | exact Nat.zero_le _ | (exact Nat.le_of_ble_eq_true rfl)); intro p hp)
  | ((with_reducible refine' ⟨_, _, rfl, .inl ?k, ?_⟩); (case k => walk_at "sq"))
  | ((with_reducible refine' ⟨_, _, rfl, .inr ?k, ?_⟩); (case k => walk_at "sq"))
  | (with_reducible refine ⟨_, rfl, ?_⟩)
  | (with_reducible refine ⟨_, _, rfl, rfl, ?_⟩)
  | (with_reducible refine ⟨_, _, rfl, ?_⟩))
local macro_rules | `(tactic| walk_at "wp") => `(tactic| repeat (walk_at "w1"))

section
variable {P : Program} {w : World} {K : PySem.W.Frag} {mg : Str → Option Value} {base : Heap}
def spShown : Sp := fun vs H Q _ => ∃ (a : Addr) (xs : List V) (rs : List Rw) (m : Int), vs = [.ref a] ∧ H a = some (.lst xs) ∧ Rws H xs rs ∧ rs.length ≤ 100 ∧ (∀ r ∈ rs, RowOk m r) ∧ ∀ H', Same H H' → Q (.str (gText rs)) H'
theorem ok_shown (T : Txt P w K mg) : FnOk P w K mg base CX0 1 T.f_shown T.fd_shown ["rows"] spShown := by
  refine T.F_shown.ok sc_shown (fun vs H Q E h => ?_) (fun cdv A outer s H vs Q E hr h => ?_)
  · obtain ⟨a, xs, rs, m, rfl, _⟩ := h
    rfl
  · obtain ⟨a, xs, rs, m, rfl, ha, hP, hl, hok, k⟩ := h
    refine ⟨_, (pss_cons (ps_set (i := 1) sc_shown.nd rfl (.inl rfl) (pe_lst pa_nil))
      (pss_cons (ps_for PassesOwn.never rfl (pi_list (pv 0)) (pg_name (i := 2) sc_shown.nd rfl (.inl rfl)) (pss_one (ps_if (pt_cmpR op_eq (pe_callB call_len_seq (by rfl) T.n_len (by decide +kernel) (pa_cons (pv 2) pa_nil)) pe_int (nomark _)) (pss_one (ps_expr (pe_bm PySem.F.plainAttrs_list PySem.F.slot_list_append PySem.F.type_list_append mt_append (pv 1) (pa_cons (pe_ix ix_tup (pv 2) pe_int (fun _ _ => rfl)) pa_nil)))) (pss_one (ps_expr (pe_bm PySem.F.plainAttrs_list PySem.F.slot_list_append PySem.F.type_list_append mt_append (pv 1) (pa_cons (pe_op op_add_str (pe_op op_add_str (pe_ix ix_tup (pv 2) pe_int (fun _ _ => rfl)) pe_str) (pe_callTy call_str_int (by rfl) T.n_str (by decide +kernel) (pa_cons (pe_ix ix_tup (pv 2) pe_int (fun _ _ => rfl)) pa_nil))) pa_nil)))))))
      (pss_one (ps_ret (pe_join pe_str (pv 1)))))), ?_⟩
    rw [show L2.start ["rows", "parts", "row"] [.ref a] = [some (.ref a), none, none] from rfl]
    try dsimp only [cxOf]
    have big : (100000 : Nat) ≤ sizeLine := by decide
    walk_at "wp"
    rename_i D hD
    refine ⟨⟨_, SqL.of (same_new hD _ _ ha)⟩, loopL (fun j σ' H' => ∃ y, σ' = [some (.ref a), some (.ref D), y] ∧ Same H H' ∧ H' D = some (.lst (((rs.take j).map rText).map V.str))) ⟨_, rfl, same_new hD, upd_same⟩ (fun j σ' H' hj h => by obtain ⟨y, _, s, _⟩ := h; exact SqL.of (s _ _ ha)) ?_ ?_⟩
    · rintro j x σ' H4 hx ⟨y, rfl, s4, hD4⟩
      obtain ⟨⟨z, o⟩, hr0, hv⟩ := hP.get hx
      have hz := hok _ (List.mem_of_getElem? hr0)
      obtain ⟨t, rfl, ht⟩ := hv.keep (Same.tk s4)
      have hlt : j < rs.length := (List.getElem?_eq_some_iff.mp hr0).1
      have e5 : z.length ≤ 5 := (word_f hz.word).len
      have done : ∀ (x : Str), x = rText (z, o) → ((((rs.take j).map rText).map V.str).length < sizeLine ∧ (Same H (upd H4 D (.lst (((rs.take j).map rText).map V.str ++ [V.str x]))) ∧ upd H4 D (.lst (((rs.take j).map rText).map V.str ++ [V.str x])) D = some (.lst (((rs.take (j + 1)).map rText).map V.str)))) := by
        rintro x rfl
        refine ⟨?_, ?_, ?_⟩
        · rw [List.length_map, List.length_map, List.length_take]; exact Wb.small (by omega)
        · intro q z hq
          rw [upd_ne (ne_of_none hq hD)]
          exact s4 _ _ hq
        · rw [upd_same, List.take_add_one, hr0, List.map_append, List.map_append] <;> rfl
      cases o with
      | none =>
        have ht : H4 t = some (.tup [.str z]) := ht
        walk_at "wp"
        refine ite_ (fun _ => ?_) (fun e => absurd rfl e)
        walk_at "wp"
        have dn := done _ rfl
        refine app_ hD4 dn.1 ?_
        walk_at "wp"
        exact dn.2
      | some n =>
        have ht : H4 t = some (.tup [.str z, .int n]) := ht
        have e6 := numT_any hz.1
        walk_at "wp"
        refine ite_ (fun e => absurd (V.int.inj e) (by simp)) (fun _ => ?_)
        walk_at "wp"
        have b1 : (" " : Str).length = 1 := by decide +kernel
        refine ⟨by rw [b1]; omega, ?_⟩
        walk_at "wp"
        refine ⟨log_ok hz.1, ?_⟩
        have b2 : (z ++ " ").length ≤ 6 := by rw [Wp.app_len, b1]; omega
        have b3 : (Str.ofString (toString n)).length ≤ 61 := e6
        walk_at "wp"
        refine ⟨by omega, ?_⟩
        walk_at "wp"
        have dn := done (z ++ " " ++ numT n) rfl
        refine app_ hD4 dn.1 ?_
        walk_at "wp"
        exact dn.2
    · rintro σ' H4 ⟨y, rfl, s4, hD4⟩
      rw [hP.len, List.take_length] at hD4
      walk_at "wp"
      refine ⟨_, D, rs.map rText, rfl, rfl, .inl (SqL.of hD4), ?_, ?_⟩
      · have hs : ((rs.map rText).map (·.length)).sum ≤ rs.length * 67 := by
          clear hD4 hP k
          induction rs with
          | nil => exact Nat.zero_le _
          | cons z rs ih =>
            have h1 := (rText_len (hok z List.mem_cons_self)).2
            have h2 := ih (by rw [List.length_cons] at hl; omega) (fun x hx => hok x (List.mem_cons_of_mem _ hx))
            rw [List.map_cons, List.map_cons, List.sum_cons, List.length_cons, Nat.succ_mul]
            show (rText z).length + _ ≤ _
            omega
        have h1 : ("; " : Str).length = 2 := by decide +kernel
        rw [h1, List.length_map]
        omega
      · exact k _ s4

def spAlike : Sp := fun vs H Q _ => ∃ (a b : Addr) (xs ys : List V) (rs : List Rw), vs = [.ref a, .ref b] ∧ H a = some (.lst xs) ∧ H b = some (.lst ys) ∧ Rws H xs rs ∧ Rws H ys rs ∧ rs.length ≤ 100 ∧ (∀ r ∈ rs, Rok r) ∧ ∀ H', Same H H' → Q (.bl true) H'
theorem ok_alike (T : Txt P w K mg) : FnOk P w K mg base CX0 1 T.f_alike T.fd_alike ["found", "rows"] spAlike := by
  refine T.F_alike.ok sc_alike (fun vs H Q E h => ?_) (fun cdv A outer s H vs Q E hr h => ?_)
  · obtain ⟨a, b, xs, ys, rs, rfl, _⟩ := h
    rfl
  · obtain ⟨a, b, xs, ys, rs, rfl, ha, hb, hx, hy, hl, hok, k⟩ := h
    refine ⟨_, (pss_cons (ps_if (PW.pt (pw_or (pt_not (pt_val (pe_callB call_isi (by rfl) T.n_isinstance (by decide +kernel) (pa_cons (pv 0) (pa_cons (pe_bltn (v := .ty "list") (by rfl) T.n_list (by decide +kernel) rfl) pa_nil))))) (pw_or1 (pt_cmpR (op_neD hr.units) (pv 0) (pv 1) (nomark _))))) (pss_one (ps_ret pe_bl)) pss_nil)
      (pss_one (ps_ret (pe_not (pe_callB (cr_any rfl) (by rfl) T.n_any (by decide +kernel) (pa_cons (pe_lc (own := [("row", 2)]) rfl sc_alike.nd (pi_list (pv 0)) (blkOk_by (N := ["found", "rows", "row"]) (sc := defScope s_alike) (by decide +kernel)) (fun _ _ _ _ _ => pg_name (i := 2) sc_alike.nd rfl (Or.inl rfl)) (fun _ _ _ _ _ => pts_nil) (fun _ _ _ _ _ => (pe_callB (show CallR _ _ (rIsi K) from call_isi) (by rfl) T.n_isinstance (by decide +kernel) (pa_cons (pe_ix (show IxR _ (rIxT K) from ix_tup) (pv 2) (pe_un un_neg pe_int) (fun _ _ => rfl)) (pa_cons (pe_bltn (v := .ty "bool") (by rfl) T.n_bool (by decide +kernel) rfl) pa_nil))))) pa_nil)))))), ?_⟩
    rw [show L2.start ["found", "rows", "row"] [.ref a, .ref b] = [some (.ref a), some (.ref b), none] from rfl]
    try dsimp only [cxOf]
    have hk : Kind H (.ref a) "list" := .lst ha
    have sh := rDs_shaped hok
    walk_at "wp"
    refine neD (hx.dp (SqL.of ha)) (hy.dp (SqL.of hb)) sh (eq_self sh) ?_
    walk_at "wp"
    refine ⟨⟨_, SqL.of ha⟩, fun D hD => ?_⟩
    refine loopCL (fun j H' => Same H H' ∧ H' D = some (.lst ((List.replicate j false).map V.bl)) ∧ j ≤ 100) ⟨same_new hD, upd_same, Nat.zero_le _⟩ (fun j H' hj h => SqL.of (h.1 _ _ ha)) ?_ ?_
    · rintro j x H4 hx0 ⟨s4, hD4, hj⟩
      obtain ⟨⟨z, o⟩, hr0, hv⟩ := hx.get hx0
      obtain ⟨t, rfl, ht⟩ := hv.keep (Same.tk s4)
      have hlt : j < rs.length := (List.getElem?_eq_some_iff.mp hr0).1
      have fin : ∃ acc, H4 D = some (.lst acc) ∧ acc.length < sizeLine ∧ (Same H (upd H4 D (.lst (acc ++ [V.bl false]))) ∧ upd H4 D (.lst (acc ++ [V.bl false])) D = some (.lst ((List.replicate (j + 1) false).map V.bl)) ∧ j + 1 ≤ 100) := by
        refine ⟨_, hD4, ?_, ?_, ?_, by omega⟩
        · rw [List.length_map, List.length_replicate]; exact Wb.small (by omega)
        · intro q z hq
          rw [upd_ne (ne_of_none hq hD)]
          exact s4 _ _ hq
        · rw [upd_same, List.replicate_succ', List.map_append] <;> rfl
      cases o with
      | none =>
        have ht : H4 t = some (.tup [.str z]) := ht
        walk_at "wp"
        exact fin
      | some n =>
        have ht : H4 t = some (.tup [.str z, .int n]) := ht
        walk_at "wp"
        exact fin
    · rintro H4 ⟨s4, hD4, hj⟩
      walk_at "wp"
      refine ⟨D, _, rfl, SqL.of hD4, ?_⟩
      have eany : (List.replicate xs.length false).any id = false := by
        rw [List.any_eq_false]
        intro b hb
        rw [List.eq_of_mem_replicate hb]
        decide
      rw [eany]
      walk_at "wp"
      exact k _ s4

end
end K56

namespace K56
open PySem PySem.Spec PyProof.Rows L2 Wp Wq Wr Wt Wrw
local macro_rules | `(tactic| walk_at "ne") => `(tactic| first
  | assumption
  | (refine Ne.symm ?_; assumption)
  | exact ne_of_none (by assumption) (by assumption)
  | exact (ne_of_none (by assumption) (by assumption)).symm
  | exact ne_of (by assumption) (by assumption) (by intro q; cases q))
local macro_rules | `(tactic| walk_at "hp") => `(tactic| first
  | assumption
  | exact upd_same
  | (refine (upd_ne ?_).trans ?_; (walk_at "ne"); (walk_at "hp")))
local macro_rules | `(tactic| walk_at "sq") => `(tactic| first
  | assumption
  | exact SqL.of (by walk_at "hp")
  | exact SqT.of (by walk_at "hp"))
local macro_rules | `(tactic| walk_at "kind") => `(tactic| first
  | assumption
  | exact Kind.int _
  | exact Kind.str _
  | exact Kind.bl _
  | exact Kind.non
  | exact Kind.tup (by walk_at "hp")
  | exact Kind.lst (by walk_at "hp")
  | exact Kind.dK (by walk_at "hp"))
local macro_rules | `(tactic| walk_at "w1") => `(tactic| first
  | (with_reducible refine Wp.seq ?_)
  | (with_reducible refine Wp.nx_mk ?_)
  | (with_reducible refine Wp.rt_mk ?_)
  | (with_reducible refine Wp.bk_mk ?_)
  | (with_reducible refine Wp.ct_mk ?_)
  | (with_reducible refine Wp.next ?_)
  | (with_reducible refine Wp.asg ?_)
  | ((with_reducible refine' Wp.gname ?e ?_); (case e => (try dsimp only [List.set, L2.wipe, List.map_cons, List.map_nil]); (try exact rfl)))
  | (with_reducible refine Wp.gsub ?_)
  | (with_reducible refine Wp.ret ?_)
  | (with_reducible refine Wp.retN ?_)
  | (with_reducible refine Wp.drop ?_)
  | (with_reducible refine Wp.dput ?_)
  | (with_reducible refine Wp.ifs ?_)
  | ((with_reducible refine' Wp.var ?h ?_); (case h => exact rfl))
  | (with_reducible refine Wp.con ?_)
  | (with_reducible refine Wp.op ?_)
  | (with_reducible refine Wp.un ?_)
  | (with_reducible refine Wp.cb ?_)
  | (with_reducible refine Wp.anil ?_)
  | (with_reducible refine Wp.acons ?_)
  | (with_reducible refine Wp.call ?_)
  | (with_reducible refine Wp.test ?_)
  | (with_reducible refine Wp.tb_ ?_)
  | (with_reducible refine Wp.and_ ?_)
  | (with_reducible refine Wp.or_ ?_)
  | (with_reducible refine Wp.not_ ?_)
  | (with_reducible refine Wp.andV ?_)
  | (with_reducible refine Wp.orV ?_)
  | (with_reducible refine Wp.notV ?_)
  | (with_reducible refine Wp.rI0_ ?_)
  | (with_reducible refine Wp.rU_ ?_)
  | ((with_reducible refine Wp.rEq_ ?k ?_); (case k => exact rfl))
  | ((with_reducible refine Wp.rNe_ ?k ?_); (case k => exact rfl))
  | (with_reducible refine Wp.gcons ?_)
  | (with_reducible refine Wp.gnil ?_)
  | ((with_reducible refine' Wp.gtup ?h ?e ?_); (case h => walk_at "sq"); (case e => exact rfl))
  | (with_reducible refine Wp.sl ?_)
  | (with_reducible refine Wp.part ?_)
  | (with_reducible refine Wp.nopart ?_)
  | (with_reducible refine Wp.ifE ?_)
  | (with_reducible refine Wp.bm0 ?_)
  | (with_reducible refine Wp.bm ?_)
  | (with_reducible refine Wp.lcR1 ?_)
  | (with_reducible refine Wp.lcR2 ?_)
  | (with_reducible refine Wp.lcL ?_)
  | (with_reducible refine Wp.chain ?_)
  | (with_reducible refine Wp.lc2V ?_)
  | (with_reducible refine Wp.piL ?_)
  | (with_reducible refine Wp.yes ?_)
  | (with_reducible refine Wp.dinI ?_)
  | (with_reducible refine Wp.dninI ?_)
  | (with_reducible refine Wp.dget ?_)
  | ((with_reducible refine' ⟨?k, ?_⟩); (case k => show L2.wipe _ _ = L2.wipe _ _; exact rfl))
  | (with_reducible refine Wp.forR1 ?_)
  | (with_reducible refine Wp.forR2 ?_)
  | (with_reducible refine Wp.forL ?_)
  | (with_reducible refine Wp.forT ?_)
  | ((with_reducible refine' ⟨?k, ?_⟩); (case k => exact Wp.tyvL (by walk_at "hp")))
  | ((with_reducible refine' Wp.rev_ ?k ?_); (case k => walk_at "hp"))
  | ((with_reducible refine' Wp.isi ?k ?h ?_); (case k => walk_at "kind"); (case h => decide))
  | ((with_reducible refine' Wp.typ ?k ?_); (case k => walk_at "kind"))
  | (with_reducible refine Wp.slS ?k ?_; (case k => assumption))
  | (with_reducible refine iteT ?_)
  | (with_reducible refine iteF ?_)
  | (with_reducible refine Wz.par ?_)
  | (with_reducible refine Wz.forN ?_)
  | (with_reducible refine Wz.dcL ?_)
  | (with_reducible refine Wz.forZ ?_)
  | (with_reducible refine Wz.lcR3 ?_)
  | (with_reducible refine Wc.revL ?_)
  | (with_reducible refine Wd.nm ?_)
  | (with_reducible refine Wd.nget ?_)
  | ((with_reducible refine Wd.tnew ?_); intro p hp)
  | (with_reducible refine Wd.pikn ?_)
  | (with_reducible refine Wt.m1 ?_)
  | (with_reducible refine Wt.m0 ?_)
  | ((with_reducible refine' ⟨?k, ?_⟩); (case k => show ∃ a, _ = V.str a; exact ⟨_, rfl⟩))
  | (with_reducible refine Wt.js_cons ?_)
  | (with_reducible refine Wt.fmt_ ?_)
  | (with_reducible refine Wp.pcons ?_)
  | (with_reducible refine Wp.pnil ?_)
  | ((with_reducible refine' Wp.iteBnT ?h ?_); (case h => show isB _ _ = false; decide))
  | ((with_reducible refine' Wp.iteBnF ?h ?_); (case h => show isB _ _ = true; decide))
  | ((with_reducible refine' Wp.iteBt ?h ?_); (case h => show isB _ _ = true; decide))
  | ((with_reducible refine' Wp.iteBf ?h ?_); (case h => show isB _ _ = false; decide))
  | (with_reducible refine Wp.iteT' ?_)
  | (with_reducible refine Wp.iteF' ?_)
  | (with_reducible refine Wp.rNT_ ?_)
  | ((with_reducible refine Wp.lst ?_))
  | ((with_reducible refine Wp.tup ?_))
  | ((with_reducible refine' Wp.ixL ?h ?e ?_); (case h => walk_at "sq"); (case e => exact rfl))
  | ((with_reducible refine' Wp.ixT ?h ?e ?_); (case h => walk_at "sq"); (case e => exact rfl))
  | ((with_reducible refine' Wp.setL ?h ?e ?_); (case h => walk_at "hp"); (case e => exact rfl))
  | ((with_reducible refine Wp.rI_ ?k ?_); (case k => first | (show (0:Int) < _; omega) | (show CPow _ _; refine' ⟨?_, ?_, ?_⟩ <;> omega) | (show CDiv _ _; refine' ⟨?_, ?_⟩ <;> omega) | (show CMul _ _; refine' Or.inl ⟨?_, ?_⟩ <;> omega) | (show CMul _ _; refine' Or.inr ⟨?_, ?_⟩ <;> first | omega | decide) | (show CDivW _ _; refine' wide_div (b := 240) ?_ ?_ ?_ ?_ <;> first | omega | decide)))
  | ((with_reducible refine ⟨?k, ?_⟩); (case k => first | exact Nat.zero_le _ | (exact Nat.le_of_ble_eq_true rfl)); intro p hp)
  | ((with_reducible refine' ⟨_, _, rfl, .inl ?k, ?_⟩); (case k => walk_at "sq"))
  | ((with_reducible refine' ⟨_, _, rfl, .inr ?k, ?_⟩); (case k => walk_at "sq"))
  | (with_reducible refine ⟨_, rfl, ?_⟩)
  | (with_reducible refine ⟨_, _, rfl, rfl, ?_⟩)
  | (with_reducible refine ⟨_, _, rfl, ?_⟩))
local macro_rules | `(tactic| walk_at "wp") => `(tactic| repeat (walk_at "w1"))

section
variable {P : Program} {w : World} {K : PySem.W.Frag} {mg : Str → Option Value} {base : Heap}
def spLaw (K : PySem.W.Frag) : Sp := fun vs H Q _ => ∃ (a : Addr) (ns : List Int), vs = [.ref a] ∧ SqL K H a (ns.map V.int) ∧ ns.length ≤ 63 ∧ ∀ H', Q (.bl true) H'
theorem ok_law (T : Txt P w K mg) : FnOk P w K mg base CX0 6 T.f_law T.fd_law ["script"] (spLaw K) := by
  have G_program := ok_program (base := base) T
  have G_show_program := ok_show_program (base := base) T
  have G_shown := ok_shown (base := base) T
  have G_read_program := ok_read_program (base := base) T
  have G_alike := ok_alike (base := base) T
  refine T.F_law.ok sc_law (fun vs H Q E h => ?_) (fun cdv A outer s H vs Q E hr h => ?_)
  · obtain ⟨a, ns, rfl, _⟩ := h
    rfl
  · obtain ⟨a, ns, rfl, hS, hl, q⟩ := h
    refine ⟨_, (pss_cons (ps_set (i := 1) sc_law.nd rfl (.inl rfl) (pe_call G_program (hr.mono (by decide)) (by rfl) T.g_program T.F_program.kp T.b_program .nil pass0 (pa_cons (pv 0) (pa_cons pe_int pa_nil))))
      (pss_cons (ps_set (i := 2) sc_law.nd rfl (.inl rfl) (pe_callTy call_list_of (by rfl) T.n_list (by decide +kernel) (pa_cons (pv 1) pa_nil)))
      (pss_cons (ps_set (i := 3) sc_law.nd rfl (.inl rfl) (pe_call G_show_program (hr.mono (by decide)) (by rfl) T.g_show_program T.F_show_program.kp T.b_show_program .nil pass0 (pa_cons (pv 2) pa_nil)))
      (pss_cons (ps_if (PW.pt (pw_or (pt_not (pt_val (pe_callB call_isi (by rfl) T.n_isinstance (by decide +kernel) (pa_cons (pv 3) (pa_cons (pe_bltn (v := .ty "str") (by rfl) T.n_str (by decide +kernel) rfl) pa_nil))))) (pw_or (pt_cmpR op_ne (pv 3) (pe_call G_shown (hr.mono (by decide)) (by rfl) T.g_shown T.F_shown.kp T.b_shown .nil pass0 (pa_cons (pv 1) pa_nil)) (nomark _)) (pw_or1 (pt_cmpR (op_neD hr.units) (pv 2) (pv 1) (nomark _)))))) (pss_one (ps_ret pe_bl)) pss_nil)
      (pss_cons (ps_set (i := 4) sc_law.nd rfl (.inl rfl) (pe_call G_read_program (hr.mono (by decide)) (by rfl) T.g_read_program T.F_read_program.kp T.b_read_program .nil pass0 (pa_cons (pv 3) pa_nil)))
      (pss_cons (ps_if (pt_not (pt_val (pe_call G_alike (hr.mono (by decide)) (by rfl) T.g_alike T.F_alike.kp T.b_alike .nil pass0 (pa_cons (pv 4) (pa_cons (pv 1) pa_nil))))) (pss_one (ps_ret pe_bl)) pss_nil)
      (pss_cons (ps_expr (pe_bm PySem.F.plainAttrs_list PySem.F.slot_list_append PySem.F.type_list_append mt_append (pv 4) (pa_cons (pe_tup (pa_cons pe_str pa_nil)) pa_nil)))
      (pss_one (ps_ret (pe_call G_alike (hr.mono (by decide)) (by rfl) T.g_alike T.F_alike.kp T.b_alike .nil pass0 (pa_cons (pe_call G_read_program (hr.mono (by decide)) (by rfl) T.g_read_program T.F_read_program.kp T.b_read_program .nil pass0 (pa_cons (pe_call G_shown (hr.mono (by decide)) (by rfl) T.g_shown T.F_shown.kp T.b_shown .nil pass0 (pa_cons (pv 1) pa_nil)) pa_nil)) (pa_cons (pv 1) pa_nil)))))))))))), ?_⟩
    rw [show L2.start ["script", "rows", "handed", "text", "found"] [.ref a] = [some (.ref a), none, none, none, none] from rfl]
    try dsimp only [cxOf]
    walk_at "wp"
    refine ⟨a, ns, 40, rfl, hS, hl, by decide, by decide, fun p xs rs H1 hp hp1 hr1 rl rok s1 => ?_⟩
    walk_at "wp"
    intro l hl1
    walk_at "wp"
    have hpl : p ≠ l := ne_of_none hp1 hl1
    have hp2 : upd H1 l (.lst xs) p = some (.lst xs) := same_new hl1 _ _ hp1
    have hr2 : Rws (upd H1 l (.lst xs)) xs rs := hr1.keep (Same.tk (same_new hl1))
    refine ⟨l, xs, rs, rs.length, rfl, upd_same, hr2, by omega, rok, fun H2 s2 => ?_⟩
    walk_at "wp"
    refine ⟨p, xs, rs, rs.length, rfl, s2 _ _ hp2, hr2.keep (Same.tk s2), by omega, rok, fun H3 s3 => ?_⟩
    have s23 := s2.trans s3
    have sh := rDs_shaped (fun r h => (rok r h).rok)
    walk_at "wp"
    refine iteN (fun e => absurd rfl e) (fun _ => ?_)
    walk_at "wp"
    refine neD ((hr2.keep (Same.tk s23)).dp (SqL.of (s23 _ _ upd_same))) ((hr2.keep (Same.tk s23)).dp (SqL.of (s23 _ _ hp2))) sh (eq_self sh) ?_
    walk_at "wp"
    refine ⟨rs, rfl, by omega, rok, fun f ys H4 hf hf4 hy4 s4 => ?_⟩
    have hp4 := s4 _ _ (s23 _ _ hp2)
    have hr4 : Rws H4 xs rs := hr2.keep (Same.tk (s23.trans s4))
    walk_at "wp"
    refine ⟨f, p, ys, xs, rs, rfl, hf4, hp4, hy4, hr4, by omega, fun r h => (rok r h).rok, fun H5 s5 => ?_⟩
    have hp5 := s5 _ _ hp4
    have hf5 := s5 _ _ hf4
    walk_at "wp"
    rename_i t ht
    refine app_ (same_new ht _ _ hf5) (by rw [hy4.len]; exact Wb.small (by omega)) ?_
    have hfp : p ≠ f := fun e => by
      subst e
      have h3 := s23 _ _ hp2
      rw [hf] at h3
      cases h3
    have hp6 : ∀ o, upd (upd H5 t (.tup [.str "add"])) f o p = some (.lst xs) := fun o => by
      rw [upd_ne hfp]
      exact same_new ht _ _ hp5
    have hr6 : ∀ zs, Rws (upd (upd H5 t (.tup [.str "add"])) f (.lst zs)) xs rs := fun zs => (hr4.keep (Same.tk (s5.trans (same_new ht)))).keep (Tk.lst (same_new ht _ _ hf5))
    walk_at "wp"
    refine ⟨p, xs, rs, rs.length, rfl, hp6 _, hr6 _, by omega, rok, fun H7 s7 => ?_⟩
    walk_at "wp"
    refine ⟨rs, rfl, by omega, rok, fun g zs H8 hg hg8 hz8 s8 => ?_⟩
    walk_at "wp"
    refine ⟨g, p, zs, xs, rs, rfl, hg8, s8 _ _ (s7 _ _ (hp6 _)), hz8, (hr6 _).keep (Same.tk (s7.trans s8)), by omega, fun r h => (rok r h).rok, fun H9 s9 => ?_⟩
    exact q _
end
end K56

namespace K56
open PySem PySem.Spec PyProof.Rows L2 Wp Wq Wr Wt Wrw
/-! ### what the top has written; the law's own head -/
theorem all_mk {l : PySem.W.OpenLaw} {w : World} {K : PySem.W.Frag} {h : Heap} {mg : Str → Option Value} {fa : Addr} (X : K.In h) (G : h.Ns mainGlobals mg) (hfa : mg "law" = some (.ref fa))
    {f0 : Addr} {od0 an0 : Option Addr} {sl0 : Array (Option Value)} {oc0 kV0 dc0 pm0 cd0 ct0 : Value}
    (a0 : PySem.W.nsIn K mainGlobals "is_number" = some (some (.ref f0))) (l0 : K.lookup f0 = some ⟨oc0, od0, .func (PySem.W.fnOf "is_number" "is_number" (defArgs s_is_number) (defBody s_is_number) (defScope s_is_number) .none kV0 dc0 pm0 an0 cd0 ct0), sl0⟩) (c0 : PySem.W.codeIn K cd0 "is_number" = true) (k0 : PySem.W.keepIn K (.ref f0) = true)
    {f1 : Addr} {od1 an1 : Option Addr} {sl1 : Array (Option Value)} {oc1 kV1 dc1 pm1 cd1 ct1 : Value}
    (a1 : PySem.W.nsIn K mainGlobals "check_text" = some (some (.ref f1))) (l1 : K.lookup f1 = some ⟨oc1, od1, .func (PySem.W.fnOf "check_text" "check_text" (defArgs s_check_text) (defBody s_check_text) (defScope s_check_text) .none kV1 dc1 pm1 an1 cd1 ct1), sl1⟩) (c1 : PySem.W.codeIn K cd1 "check_text" = true) (k1 : PySem.W.keepIn K (.ref f1) = true)
    {f2 : Addr} {od2 an2 : Option Addr} {sl2 : Array (Option Value)} {oc2 kV2 dc2 pm2 cd2 ct2 : Value}
    (a2 : PySem.W.nsIn K mainGlobals "read_number" = some (some (.ref f2))) (l2 : K.lookup f2 = some ⟨oc2, od2, .func (PySem.W.fnOf "read_number" "read_number" (defArgs s_read_number) (defBody s_read_number) (defScope s_read_number) .none kV2 dc2 pm2 an2 cd2 ct2), sl2⟩) (c2 : PySem.W.codeIn K cd2 "read_number" = true) (k2 : PySem.W.keepIn K (.ref f2) = true)
    {f3 : Addr} {od3 an3 : Option Addr} {sl3 : Array (Option Value)} {oc3 kV3 dc3 pm3 cd3 ct3 : Value}
    (a3 : PySem.W.nsIn K mainGlobals "read_signed" = some (some (.ref f3))) (l3 : K.lookup f3 = some ⟨oc3, od3, .func (PySem.W.fnOf "read_signed" "read_signed" (defArgs s_read_signed) (defBody s_read_signed) (defScope s_read_signed) .none kV3 dc3 pm3 an3 cd3 ct3), sl3⟩) (c3 : PySem.W.codeIn K cd3 "read_signed" = true) (k3 : PySem.W.keepIn K (.ref f3) = true)
    {f4 : Addr} {od4 an4 : Option Addr} {sl4 : Array (Option Value)} {oc4 kV4 dc4 pm4 cd4 ct4 : Value}
    (a4 : PySem.W.nsIn K mainGlobals "is_row" = some (some (.ref f4))) (l4 : K.lookup f4 = some ⟨oc4, od4, .func (PySem.W.fnOf "is_row" "is_row" (defArgs s_is_row) (defBody s_is_row) (defScope s_is_row) .none kV4 dc4 pm4 an4 cd4 ct4), sl4⟩) (c4 : PySem.W.codeIn K cd4 "is_row" = true) (k4 : PySem.W.keepIn K (.ref f4) = true)
    {f5 : Addr} {od5 an5 : Option Addr} {sl5 : Array (Option Value)} {oc5 kV5 dc5 pm5 cd5 ct5 : Value}
    (a5 : PySem.W.nsIn K mainGlobals "is_program" = some (some (.ref f5))) (l5 : K.lookup f5 = some ⟨oc5, od5, .func (PySem.W.fnOf "is_program" "is_program" (defArgs s_is_program) (defBody s_is_program) (defScope s_is_program) .none kV5 dc5 pm5 an5 cd5 ct5), sl5⟩) (c5 : PySem.W.codeIn K cd5 "is_program" = true) (k5 : PySem.W.keepIn K (.ref f5) = true)
    {f6 : Addr} {od6 an6 : Option Addr} {sl6 : Array (Option Value)} {oc6 kV6 dc6 pm6 cd6 ct6 : Value}
    (a6 : PySem.W.nsIn K mainGlobals "show_program" = some (some (.ref f6))) (l6 : K.lookup f6 = some ⟨oc6, od6, .func (PySem.W.fnOf "show_program" "show_program" (defArgs s_show_program) (defBody s_show_program) (defScope s_show_program) .none kV6 dc6 pm6 an6 cd6 ct6), sl6⟩) (c6 : PySem.W.codeIn K cd6 "show_program" = true) (k6 : PySem.W.keepIn K (.ref f6) = true)
    {f7 : Addr} {od7 an7 : Option Addr} {sl7 : Array (Option Value)} {oc7 kV7 dc7 pm7 cd7 ct7 : Value}
    (a7 : PySem.W.nsIn K mainGlobals "read_row" = some (some (.ref f7))) (l7 : K.lookup f7 = some ⟨oc7, od7, .func (PySem.W.fnOf "read_row" "read_row" (defArgs s_read_row) (defBody s_read_row) (defScope s_read_row) .none kV7 dc7 pm7 an7 cd7 ct7), sl7⟩) (c7 : PySem.W.codeIn K cd7 "read_row" = true) (k7 : PySem.W.keepIn K (.ref f7) = true)
    {f8 : Addr} {od8 an8 : Option Addr} {sl8 : Array (Option Value)} {oc8 kV8 dc8 pm8 cd8 ct8 : Value}
    (a8 : PySem.W.nsIn K mainGlobals "read_program" = some (some (.ref f8))) (l8 : K.lookup f8 = some ⟨oc8, od8, .func (PySem.W.fnOf "read_program" "read_program" (defArgs s_read_program) (defBody s_read_program) (defScope s_read_program) .none kV8 dc8 pm8 an8 cd8 ct8), sl8⟩) (c8 : PySem.W.codeIn K cd8 "read_program" = true) (k8 : PySem.W.keepIn K (.ref f8) = true)
    {f9 : Addr} {od9 an9 : Option Addr} {sl9 : Array (Option Value)} {oc9 kV9 dc9 pm9 cd9 ct9 : Value}
    (a9 : PySem.W.nsIn K mainGlobals "_law_cell_at" = some (some (.ref f9))) (l9 : K.lookup f9 = some ⟨oc9, od9, .func (PySem.W.fnOf "_law_cell_at" "_law_cell_at" (defArgs s_cell_at) (defBody s_cell_at) (defScope s_cell_at) .none kV9 dc9 pm9 an9 cd9 ct9), sl9⟩) (c9 : PySem.W.codeIn K cd9 "_law_cell_at" = true) (k9 : PySem.W.keepIn K (.ref f9) = true)
    {f10 : Addr} {od10 an10 : Option Addr} {sl10 : Array (Option Value)} {oc10 kV10 dc10 pm10 cd10 ct10 : Value}
    (a10 : PySem.W.nsIn K mainGlobals "_law_stir" = some (some (.ref f10))) (l10 : K.lookup f10 = some ⟨oc10, od10, .func (PySem.W.fnOf "_law_stir" "_law_stir" (defArgs s_stir) (defBody s_stir) (defScope s_stir) .none kV10 dc10 pm10 an10 cd10 ct10), sl10⟩) (c10 : PySem.W.codeIn K cd10 "_law_stir" = true) (k10 : PySem.W.keepIn K (.ref f10) = true)
    {f11 : Addr} {od11 an11 : Option Addr} {sl11 : Array (Option Value)} {oc11 kV11 dc11 pm11 cd11 ct11 : Value}
    (a11 : PySem.W.nsIn K mainGlobals "_law_well" = some (some (.ref f11))) (l11 : K.lookup f11 = some ⟨oc11, od11, .func (PySem.W.fnOf "_law_well" "_law_well" (defArgs s_well) (defBody s_well) (defScope s_well) .none kV11 dc11 pm11 an11 cd11 ct11), sl11⟩) (c11 : PySem.W.codeIn K cd11 "_law_well" = true) (k11 : PySem.W.keepIn K (.ref f11) = true)
    {f12 : Addr} {od12 an12 : Option Addr} {sl12 : Array (Option Value)} {oc12 kV12 dc12 pm12 cd12 ct12 : Value}
    (a12 : PySem.W.nsIn K mainGlobals "_law_draw" = some (some (.ref f12))) (l12 : K.lookup f12 = some ⟨oc12, od12, .func (PySem.W.fnOf "_law_draw" "_law_draw" (defArgs s_draw) (defBody s_draw) (defScope s_draw) .none kV12 dc12 pm12 an12 cd12 ct12), sl12⟩) (c12 : PySem.W.codeIn K cd12 "_law_draw" = true) (k12 : PySem.W.keepIn K (.ref f12) = true)
    {f13 : Addr} {od13 an13 : Option Addr} {sl13 : Array (Option Value)} {oc13 kV13 dc13 pm13 cd13 ct13 : Value}
    (a13 : PySem.W.nsIn K mainGlobals "_law_wide" = some (some (.ref f13))) (l13 : K.lookup f13 = some ⟨oc13, od13, .func (PySem.W.fnOf "_law_wide" "_law_wide" (defArgs s_wide) (defBody s_wide) (defScope s_wide) .none kV13 dc13 pm13 an13 cd13 ct13), sl13⟩) (c13 : PySem.W.codeIn K cd13 "_law_wide" = true) (k13 : PySem.W.keepIn K (.ref f13) = true)
    {f14 : Addr} {od14 an14 : Option Addr} {sl14 : Array (Option Value)} {oc14 kV14 dc14 pm14 cd14 ct14 : Value}
    (a14 : PySem.W.nsIn K mainGlobals "_law_row" = some (some (.ref f14))) (l14 : K.lookup f14 = some ⟨oc14, od14, .func (PySem.W.fnOf "_law_row" "_law_row" (defArgs s_row) (defBody s_row) (defScope s_row) .none kV14 dc14 pm14 an14 cd14 ct14), sl14⟩) (c14 : PySem.W.codeIn K cd14 "_law_row" = true) (k14 : PySem.W.keepIn K (.ref f14) = true)
    {f15 : Addr} {od15 an15 : Option Addr} {sl15 : Array (Option Value)} {oc15 kV15 dc15 pm15 cd15 ct15 : Value}
    (a15 : PySem.W.nsIn K mainGlobals "_law_program" = some (some (.ref f15))) (l15 : K.lookup f15 = some ⟨oc15, od15, .func (PySem.W.fnOf "_law_program" "_law_program" (defArgs s_program) (defBody s_program) (defScope s_program) .none kV15 dc15 pm15 an15 cd15 ct15), sl15⟩) (c15 : PySem.W.codeIn K cd15 "_law_program" = true) (k15 : PySem.W.keepIn K (.ref f15) = true)
    {f16 : Addr} {od16 an16 : Option Addr} {sl16 : Array (Option Value)} {oc16 kV16 dc16 pm16 cd16 ct16 : Value}
    (a16 : PySem.W.nsIn K mainGlobals "_law_shown" = some (some (.ref f16))) (l16 : K.lookup f16 = some ⟨oc16, od16, .func (PySem.W.fnOf "_law_shown" "_law_shown" (defArgs s_shown) (defBody s_shown) (defScope s_shown) .none kV16 dc16 pm16 an16 cd16 ct16), sl16⟩) (c16 : PySem.W.codeIn K cd16 "_law_shown" = true) (k16 : PySem.W.keepIn K (.ref f16) = true)
    {f17 : Addr} {od17 an17 : Option Addr} {sl17 : Array (Option Value)} {oc17 kV17 dc17 pm17 cd17 ct17 : Value}
    (a17 : PySem.W.nsIn K mainGlobals "_law_alike" = some (some (.ref f17))) (l17 : K.lookup f17 = some ⟨oc17, od17, .func (PySem.W.fnOf "_law_alike" "_law_alike" (defArgs s_alike) (defBody s_alike) (defScope s_alike) .none kV17 dc17 pm17 an17 cd17 ct17), sl17⟩) (c17 : PySem.W.codeIn K cd17 "_law_alike" = true) (k17 : PySem.W.keepIn K (.ref f17) = true)
    {f18 : Addr} {od18 an18 : Option Addr} {sl18 : Array (Option Value)} {oc18 kV18 dc18 pm18 cd18 ct18 : Value}
    (a18 : PySem.W.nsIn K mainGlobals "law" = some (some (.ref f18))) (l18 : K.lookup f18 = some ⟨oc18, od18, .func (PySem.W.fnOf "law" "law" (defArgs s_law) (defBody s_law) (defScope s_law) .none kV18 dc18 pm18 an18 cd18 ct18), sl18⟩) (c18 : PySem.W.codeIn K cd18 "law" = true) (k18 : PySem.W.keepIn K (.ref f18) = true)
    (z_all : PySem.W.nsIn K mainGlobals "all" = some none)
    (z_any : PySem.W.nsIn K mainGlobals "any" = some none)
    (z_bool : PySem.W.nsIn K mainGlobals "bool" = some none)
    (z_int : PySem.W.nsIn K mainGlobals "int" = some none)
    (z_isinstance : PySem.W.nsIn K mainGlobals "isinstance" = some none)
    (z_len : PySem.W.nsIn K mainGlobals "len" = some none)
    (z_list : PySem.W.nsIn K mainGlobals "list" = some none)
    (z_max : PySem.W.nsIn K mainGlobals "max" = some none)
    (z_min : PySem.W.nsIn K mainGlobals "min" = some none)
    (z_range : PySem.W.nsIn K mainGlobals "range" = some none)
    (z_str : PySem.W.nsIn K mainGlobals "str" = some none)
    (z_tuple : PySem.W.nsIn K mainGlobals "tuple" = some none)
    (z_type : PySem.W.nsIn K mainGlobals "type" = some none)
    {tFIGURES : Tok} (sFIGURES : PySem.W.nsIn K mainGlobals "FIGURES" = some (some (.str "0123456789" tFIGURES)))
    {tMOST_FIGURES : Tok} (sMOST_FIGURES : PySem.W.nsIn K mainGlobals "MOST_FIGURES" = some (some (.int 60 tMOST_FIGURES)))
    {dBARE : Addr} {odBARE : Option Addr} {itsBARE : Array Value} {noBARE : Nat} {slsBARE : Array (Option Value)} (smBARE : PySem.W.nsIn K mainGlobals "BARE" = some (some (.ref dBARE))) (slBARE : K.lookup dBARE = some ⟨.type "tuple", odBARE, .seq itsBARE noBARE, slsBARE⟩) (svBARE : Vals [V.str "add", V.str "less", V.str "box", V.str "get", V.str "set", V.str "tell", V.str "sweep"] itsBARE.toList) (szBARE : itsBARE.size ≤ sizeLine)
    {dDEEP : Addr} {odDEEP : Option Addr} {itsDEEP : Array Value} {noDEEP : Nat} {slsDEEP : Array (Option Value)} (smDEEP : PySem.W.nsIn K mainGlobals "DEEP" = some (some (.ref dDEEP))) (slDEEP : K.lookup dDEEP = some ⟨.type "tuple", odDEEP, .seq itsDEEP noDEEP, slsDEEP⟩) (svDEEP : Vals [V.str "pick", V.str "drop", V.str "lift", V.str "go", V.str "back"] itsDEEP.toList) (szDEEP : itsDEEP.size ≤ sizeLine)
    {dLEADING : Addr} {odLEADING : Option Addr} {itsLEADING : Array Value} {noLEADING : Nat} {slsLEADING : Array (Option Value)} (smLEADING : PySem.W.nsIn K mainGlobals "LEADING" = some (some (.ref dLEADING))) (slLEADING : K.lookup dLEADING = some ⟨.type "tuple", odLEADING, .seq itsLEADING noLEADING, slsLEADING⟩) (svLEADING : Vals [V.str "keep", V.str "call", V.str "jump", V.str "if"] itsLEADING.toList) (szLEADING : itsLEADING.size ≤ sizeLine)
    : ∃ fd : FuncData, (∀ (s : Shared) (v : Value), BindsTo s fd ⟨[v], []⟩ [("script", v)]) ∧ ∀ base : Heap, K.In base → base.Ns mainGlobals mg → FnOk l.prog w K mg base CX0 6 fa fd ["script"] (spLaw K) := by
  have e := hfa.symm.trans (PySem.W.mg_of X G a18)
  cases e
  have F0 := fun_mk (st := s_is_number) l0 c0 k0
  have F1 := fun_mk (st := s_check_text) l1 c1 k1
  have F2 := fun_mk (st := s_read_number) l2 c2 k2
  have F3 := fun_mk (st := s_read_signed) l3 c3 k3
  have F4 := fun_mk (st := s_is_row) l4 c4 k4
  have F5 := fun_mk (st := s_is_program) l5 c5 k5
  have F6 := fun_mk (st := s_show_program) l6 c6 k6
  have F7 := fun_mk (st := s_read_row) l7 c7 k7
  have F8 := fun_mk (st := s_read_program) l8 c8 k8
  have F9 := fun_mk (st := s_cell_at) l9 c9 k9
  have F10 := fun_mk (st := s_stir) l10 c10 k10
  have F11 := fun_mk (st := s_well) l11 c11 k11
  have F12 := fun_mk (st := s_draw) l12 c12 k12
  have F13 := fun_mk (st := s_wide) l13 c13 k13
  have F14 := fun_mk (st := s_row) l14 c14 k14
  have F15 := fun_mk (st := s_program) l15 c15 k15
  have F16 := fun_mk (st := s_shown) l16 c16 k16
  have F17 := fun_mk (st := s_alike) l17 c17 k17
  have F18 := fun_mk (st := s_law) l18 c18 k18
  let T : Txt l.prog w K mg := {
    f_is_number := f0,
    fd_is_number := _,
    F_is_number := F0,
    b_is_number := F0.binds (ps := ["thing"]) fun _ _ _ _ _ _ us hl => match us, hl with | [_], _ => rfl,
    g_is_number := PySem.W.mg_of X G a0,
    f_check_text := f1,
    fd_check_text := _,
    F_check_text := F1,
    b_check_text := F1.binds (ps := ["text"]) fun _ _ _ _ _ _ us hl => match us, hl with | [_], _ => rfl,
    g_check_text := PySem.W.mg_of X G a1,
    f_read_number := f2,
    fd_read_number := _,
    F_read_number := F2,
    b_read_number := F2.binds (ps := ["text"]) fun _ _ _ _ _ _ us hl => match us, hl with | [_], _ => rfl,
    g_read_number := PySem.W.mg_of X G a2,
    f_read_signed := f3,
    fd_read_signed := _,
    F_read_signed := F3,
    b_read_signed := F3.binds (ps := ["text"]) fun _ _ _ _ _ _ us hl => match us, hl with | [_], _ => rfl,
    g_read_signed := PySem.W.mg_of X G a3,
    f_is_row := f4,
    fd_is_row := _,
    F_is_row := F4,
    b_is_row := F4.binds (ps := ["thing", "many"]) fun _ _ _ _ _ _ us hl => match us, hl with | [_, _], _ => rfl,
    g_is_row := PySem.W.mg_of X G a4,
    f_is_program := f5,
    fd_is_program := _,
    F_is_program := F5,
    b_is_program := F5.binds (ps := ["thing"]) fun _ _ _ _ _ _ us hl => match us, hl with | [_], _ => rfl,
    g_is_program := PySem.W.mg_of X G a5,
    f_show_program := f6,
    fd_show_program := _,
    F_show_program := F6,
    b_show_program := F6.binds (ps := ["rows"]) fun _ _ _ _ _ _ us hl => match us, hl with | [_], _ => rfl,
    g_show_program := PySem.W.mg_of X G a6,
    f_read_row := f7,
    fd_read_row := _,
    F_read_row := F7,
    b_read_row := F7.binds (ps := ["part"]) fun _ _ _ _ _ _ us hl => match us, hl with | [_], _ => rfl,
    g_read_row := PySem.W.mg_of X G a7,
    f_read_program := f8,
    fd_read_program := _,
    F_read_program := F8,
    b_read_program := F8.binds (ps := ["text"]) fun _ _ _ _ _ _ us hl => match us, hl with | [_], _ => rfl,
    g_read_program := PySem.W.mg_of X G a8,
    f_cell_at := f9,
    fd_cell_at := _,
    F_cell_at := F9,
    b_cell_at := F9.binds (ps := ["script", "k"]) fun _ _ _ _ _ _ us hl => match us, hl with | [_, _], _ => rfl,
    g_cell_at := PySem.W.mg_of X G a9,
    f_stir := f10,
    fd_stir := _,
    F_stir := F10,
    b_stir := F10.binds (ps := ["seed", "turn"]) fun _ _ _ _ _ _ us hl => match us, hl with | [_, _], _ => rfl,
    g_stir := PySem.W.mg_of X G a10,
    f_well := f11,
    fd_well := _,
    F_well := F11,
    b_well := F11.binds (ps := ["cell", "k"]) fun _ _ _ _ _ _ us hl => match us, hl with | [_, _], _ => rfl,
    g_well := PySem.W.mg_of X G a11,
    f_draw := f12,
    fd_draw := _,
    F_draw := F12,
    b_draw := F12.binds (ps := ["well", "many"]) fun _ _ _ _ _ _ us hl => match us, hl with | [_, _], _ => rfl,
    g_draw := PySem.W.mg_of X G a12,
    f_wide := f13,
    fd_wide := _,
    F_wide := F13,
    b_wide := F13.binds (ps := ["well"]) fun _ _ _ _ _ _ us hl => match us, hl with | [_], _ => rfl,
    g_wide := PySem.W.mg_of X G a13,
    f_row := f14,
    fd_row := _,
    F_row := F14,
    b_row := F14.binds (ps := ["well", "many"]) fun _ _ _ _ _ _ us hl => match us, hl with | [_, _], _ => rfl,
    g_row := PySem.W.mg_of X G a14,
    f_program := f15,
    fd_program := _,
    F_program := F15,
    b_program := F15.binds (ps := ["cells", "most"]) fun _ _ _ _ _ _ us hl => match us, hl with | [_, _], _ => rfl,
    g_program := PySem.W.mg_of X G a15,
    f_shown := f16,
    fd_shown := _,
    F_shown := F16,
    b_shown := F16.binds (ps := ["rows"]) fun _ _ _ _ _ _ us hl => match us, hl with | [_], _ => rfl,
    g_shown := PySem.W.mg_of X G a16,
    f_alike := f17,
    fd_alike := _,
    F_alike := F17,
    b_alike := F17.binds (ps := ["found", "rows"]) fun _ _ _ _ _ _ us hl => match us, hl with | [_, _], _ => rfl,
    g_alike := PySem.W.mg_of X G a17,
    f_law := fa,
    fd_law := _,
    F_law := F18,
    b_law := F18.binds (ps := ["script"]) fun _ _ _ _ _ _ us hl => match us, hl with | [_], _ => rfl,
    g_law := PySem.W.mg_of X G a18,
    n_all := PySem.W.mg_none_of X G z_all,
    n_any := PySem.W.mg_none_of X G z_any,
    n_bool := PySem.W.mg_none_of X G z_bool,
    n_int := PySem.W.mg_none_of X G z_int,
    n_isinstance := PySem.W.mg_none_of X G z_isinstance,
    n_len := PySem.W.mg_none_of X G z_len,
    n_list := PySem.W.mg_none_of X G z_list,
    n_max := PySem.W.mg_none_of X G z_max,
    n_min := PySem.W.mg_none_of X G z_min,
    n_range := PySem.W.mg_none_of X G z_range,
    n_str := PySem.W.mg_none_of X G z_str,
    n_tuple := PySem.W.mg_none_of X G z_tuple,
    n_type := PySem.W.mg_none_of X G z_type,
    t_FIGURES := tFIGURES,
    c_FIGURES := PySem.W.mg_of X G sFIGURES,
    t_MOST_FIGURES := tMOST_FIGURES,
    c_MOST_FIGURES := PySem.W.mg_of X G sMOST_FIGURES,
    d_BARE := dBARE,
    c_BARE := PySem.W.mg_of X G smBARE,
    q_BARE := fun _ => .inr ⟨_, _, _, slBARE, rfl, rfl, szBARE, svBARE⟩,
    d_DEEP := dDEEP,
    c_DEEP := PySem.W.mg_of X G smDEEP,
    q_DEEP := fun _ => .inr ⟨_, _, _, slDEEP, rfl, rfl, szDEEP, svDEEP⟩,
    d_LEADING := dLEADING,
    c_LEADING := PySem.W.mg_of X G smLEADING,
    q_LEADING := fun _ => .inr ⟨_, _, _, slLEADING, rfl, rfl, szLEADING, svLEADING⟩ }
  exact ⟨PySem.W.fnOf "law" "law" (defArgs s_law) (defBody s_law) (defScope s_law) .none kV18 dc18 pm18 an18 cd18 ct18, fun s v => .of_eq rfl, fun base _ _ => ok_law T⟩
end K56
open PySem PySem.W PyProof.Rows
set_option maxHeartbeats 0 in
theorem PySem.Challenge.cw_manygoings_k56_programs_written_and_read_holds : PySem.Challenge.rw_manygoings_k56_programs_written_and_read.Holds := by
  w_on; o_law; k_head; (case hw => w_witness2)
  k_fill
  refine L2.walk_of (l := PySem.Challenge.rw_manygoings_k56_programs_written_and_read) (n := 63) (k := 6) (x := "script") (CX := fun _ => L2.CX0) (sp := fun w => K56.spLaw _) rfl (by decide) rfl ⟨rfl, by decide, by decide⟩ (fun w h Y => PySem.W.kIn_of Y) ?F (fun _ _ a ns hl _ hS => ⟨a, ns, rfl, hS, hl, fun _ => rfl⟩) (fun _ _ _ _ _ h => h)
  case F =>
    intro w mg fa h KX G hmg
    refine' K56.all_mk KX G hmg ?a0 ?l0 ?c0 ?k0 ?a1 ?l1 ?c1 ?k1 ?a2 ?l2 ?c2 ?k2 ?a3 ?l3 ?c3 ?k3 ?a4 ?l4 ?c4 ?k4 ?a5 ?l5 ?c5 ?k5 ?a6 ?l6 ?c6 ?k6 ?a7 ?l7 ?c7 ?k7 ?a8 ?l8 ?c8 ?k8 ?a9 ?l9 ?c9 ?k9 ?a10 ?l10 ?c10 ?k10 ?a11 ?l11 ?c11 ?k11 ?a12 ?l12 ?c12 ?k12 ?a13 ?l13 ?c13 ?k13 ?a14 ?l14 ?c14 ?k14 ?a15 ?l15 ?c15 ?k15 ?a16 ?l16 ?c16 ?k16 ?a17 ?l17 ?c17 ?k17 ?a18 ?l18 ?c18 ?k18 ?z_all ?z_any ?z_bool ?z_int ?z_isinstance ?z_len ?z_list ?z_max ?z_min ?z_range ?z_str ?z_tuple ?z_type ?sFIGURES ?sMOST_FIGURES ?smBARE ?slBARE ?svBARE ?szBARE ?smDEEP ?slDEEP ?svDEEP ?szDEEP ?smLEADING ?slLEADING ?svLEADING ?szLEADING
    (case a0 => k_is); (case l0 => k_is); (case c0 => k_is); (case k0 => k_is); (case a1 => k_is); (case l1 => k_is); (case c1 => k_is); (case k1 => k_is); (case a2 => k_is); (case l2 => k_is); (case c2 => k_is); (case k2 => k_is); (case a3 => k_is); (case l3 => k_is); (case c3 => k_is); (case k3 => k_is); (case a4 => k_is); (case l4 => k_is); (case c4 => k_is); (case k4 => k_is); (case a5 => k_is); (case l5 => k_is); (case c5 => k_is); (case k5 => k_is); (case a6 => k_is); (case l6 => k_is); (case c6 => k_is); (case k6 => k_is); (case a7 => k_is); (case l7 => k_is); (case c7 => k_is); (case k7 => k_is); (case a8 => k_is); (case l8 => k_is); (case c8 => k_is); (case k8 => k_is); (case a9 => k_is); (case l9 => k_is); (case c9 => k_is); (case k9 => k_is); (case a10 => k_is); (case l10 => k_is); (case c10 => k_is); (case k10 => k_is); (case a11 => k_is); (case l11 => k_is); (case c11 => k_is); (case k11 => k_is); (case a12 => k_is); (case l12 => k_is); (case c12 => k_is); (case k12 => k_is); (case a13 => k_is); (case l13 => k_is); (case c13 => k_is); (case k13 => k_is); (case a14 => k_is); (case l14 => k_is); (case c14 => k_is); (case k14 => k_is); (case a15 => k_is); (case l15 => k_is); (case c15 => k_is); (case k15 => k_is); (case a16 => k_is); (case l16 => k_is); (case c16 => k_is); (case k16 => k_is); (case a17 => k_is); (case l17 => k_is); (case c17 => k_is); (case k17 => k_is); (case a18 => k_is); (case l18 => k_is); (case c18 => k_is); (case k18 => k_is); (case z_all => k_is); (case z_any => k_is); (case z_bool => k_is); (case z_int => k_is); (case z_isinstance => k_is); (case z_len => k_is); (case z_list => k_is); (case z_max => k_is); (case z_min => k_is); (case z_range => k_is); (case z_str => k_is); (case z_tuple => k_is); (case z_type => k_is)
    (case sFIGURES => k_is)
    (case sMOST_FIGURES => k_is)
    (case smBARE => k_is)
    (case slBARE => k_is)
    (case svBARE => exact (.cons ⟨_, rfl⟩ (.cons ⟨_, rfl⟩ (.cons ⟨_, rfl⟩ (.cons ⟨_, rfl⟩ (.cons ⟨_, rfl⟩ (.cons ⟨_, rfl⟩ (.cons ⟨_, rfl⟩ .nil))))))))
    (case szBARE => exact Nat.le_of_ble_eq_true rfl)
    (case smDEEP => k_is)
    (case slDEEP => k_is)
    (case svDEEP => exact (.cons ⟨_, rfl⟩ (.cons ⟨_, rfl⟩ (.cons ⟨_, rfl⟩ (.cons ⟨_, rfl⟩ (.cons ⟨_, rfl⟩ .nil))))))
    (case szDEEP => exact Nat.le_of_ble_eq_true rfl)
    (case smLEADING => k_is)
    (case slLEADING => k_is)
    (case svLEADING => exact (.cons ⟨_, rfl⟩ (.cons ⟨_, rfl⟩ (.cons ⟨_, rfl⟩ (.cons ⟨_, rfl⟩ .nil)))))
    (case szLEADING => exact Nat.le_of_ble_eq_true rfl)

