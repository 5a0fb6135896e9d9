import PyProof.Rows.All
import Wide.All
import OpenK.AllK
import Wide.FinOn
import HandS.ForMost
import HandS.IsInst
import HandS.Wide
import HandS.More
import HandS.Codes
import HandS.Deep
import HandS.Conv
import HandS.FStr
import HandS.Text
import PySem.Challenge.RW_manygoings_k03_worths_and_piles_written
set_option Elab.async false
set_option linter.all false
set_option maxRecDepth 100000
set_option maxHeartbeats 4000000
/-! Steps over the readings of the hand layer: one lemma a form, and a walk by them. -/
namespace Wp
open PySem PySem.Spec PyProof.Rows L2
section
variable {σ : L2.St} {H : Hp} {Q : VK} {D : Ends} {te ta tb tc : TE} {t u v : TS} {c c2 : TT} {x y z : V} {i : Nat} {K : PySem.W.Frag}
theorem seq (h : t { D with nx := u D } σ H) : tSeq t u D σ H := h
theorem nx_mk {n : L2.St → Hp → Prop} {r : VK} {b k : L2.St → Hp → Prop} (h : n σ H) : (Ends.mk n r b k).nx σ H := h
theorem rt_mk {n : L2.St → Hp → Prop} {r : VK} {b k : L2.St → Hp → Prop} (h : r x H) : (Ends.mk n r b k).rt x H := h
theorem bk_mk {n : L2.St → Hp → Prop} {r : VK} {b k : L2.St → Hp → Prop} (h : b σ H) : (Ends.mk n r b k).bk σ H := h
theorem ct_mk {n : L2.St → Hp → Prop} {r : VK} {b k : L2.St → Hp → Prop} (h : k σ H) : (Ends.mk n r b k).ct σ H := h
theorem next (h : D.nx σ H) : tNext D σ H := h
theorem asg {g : TG} (h : te σ H fun x H1 => g x σ H1 D.nx) : tAsg te g D σ H := h
theorem gname {R : L2.St → Hp → Prop} {σ' : L2.St} (e : σ.set i (some x) = σ') (h : R σ' H) : gName i x σ H R := by subst e; exact h
theorem gsub {s : TSet} {R : L2.St → Hp → Prop} (h : ta σ H fun o H1 => tb σ H1 fun i H2 => s o i x H2 fun H3 => R σ H3) : gSub ta tb s x σ H R := h
theorem ret (h : te σ H D.rt) : tRet te D σ H := h
theorem retN (h : D.rt .non H) : tRetN D σ H := h
theorem drop (h : te σ H fun _ H1 => D.nx σ H1) : tDrop te D σ H := h
theorem ifs (h : c σ H fun b H1 => if b = true then t D σ H1 else u D σ H1) : tIfS c t u D σ H := h
theorem var (h : σ[i]? = some (some x)) (q : Q x H) : tVar i σ H Q := ⟨x, h, q⟩
theorem con (q : Q x H) : tC x σ H Q := q
theorem op {r : R2} (h : ta σ H fun x H1 => tb σ H1 fun y H2 => r x y H2 Q) : tOp r ta tb σ H Q := h
theorem un {r : V → Hp → VK → Prop} (h : ta σ H fun x H1 => r x H1 Q) : tUn r ta σ H Q := h
theorem cb {r : List V → Hp → VK → Prop} {t : TA} (h : t σ H fun vs H1 => r vs H1 Q) : tCB r t σ H Q := h
theorem anil {R : List V → Hp → Prop} (h : R [] H) : tNil σ H R := h
theorem acons {tr : TA} {R : List V → Hp → Prop} (h : te σ H fun x H1 => tr σ H1 fun xs H2 => R (x :: xs) H2) : tCons te tr σ H R := h
theorem call {sp : Sp} {dvs : List V} {E : XK} {t : TA} (h : t σ H fun vs H1 => sp (vs ++ dvs) H1 Q E) : tCall sp dvs E t σ H Q := h
theorem lst {t : TA} (h : t σ H fun xs H1 => xs.length ≤ sizeLine ∧ ∀ p, H1 p = none → Q (.ref p) (upd H1 p (.lst xs))) : tLst t σ H Q := h
theorem tup {t : TA} (h : t σ H fun xs H1 => xs.length ≤ sizeLine ∧ ∀ p, H1 p = none → Q (.ref p) (upd H1 p (.tup xs))) : tTup t σ H Q := h
theorem test {R : Bool → Hp → Prop} (h : te σ H fun x H1 => ∃ k, x = .bl k ∧ R k H1) : tTest te σ H R := h
theorem tb_ {R : Bool → Hp → Prop} (h : te σ H fun x H1 => ∃ k, x = .bl k ∧ R k H1) : tB te σ H R := h
theorem and_ {R : Bool → Hp → Prop} (h : c σ H fun b H1 => if b = true then c2 σ H1 R else R false H1) : tAnd c c2 σ H R := h
theorem or_ {R : Bool → Hp → Prop} (h : c σ H fun b H1 => if b = true then R true H1 else c2 σ H1 R) : tOr c c2 σ H R := h
theorem not_ {R : Bool → Hp → Prop} (h : c σ H fun b H1 => R (!b) H1) : tNot c σ H R := h
theorem andV (h : ta σ H fun x H1 => ∃ c, x = .bl c ∧ if c = true then tb σ H1 Q else Q (.bl false) H1) : tAndV ta tb σ H Q := h
theorem orV (h : ta σ H fun x H1 => ∃ c, x = .bl c ∧ if c = true then Q (.bl true) H1 else tb σ H1 Q) : tOrV ta tb σ H Q := h
theorem notV (h : ta σ H fun x H1 => ∃ c, x = .bl c ∧ Q (.bl (!c)) H1) : tNotV ta σ H Q := h
theorem rI0_ {g : Int → Int → V} {a b : Int} (q : Q (g a b) H) : rI0 g (.int a) (.int b) H Q := ⟨a, b, rfl, rfl, q⟩
theorem rI_ {C : Int → Int → Prop} {g : Int → Int → V} {a b : Int} (k : C a b) (q : Q (g a b) H) : rI C g (.int a) (.int b) H Q := ⟨a, b, rfl, rfl, k, q⟩
theorem rU_ {g : Int → V} {a : Int} (q : Q (g a) H) : rU g (.int a) H Q := ⟨a, rfl, q⟩
theorem rEq_ {x y : V} (k : scal x y = true) (q : Q (.bl (decide (x = y))) H) : rEq x y H Q := ⟨k, q⟩
theorem rNe_ {x y : V} (k : scal x y = true) (q : Q (.bl (!decide (x = y))) H) : rNe x y H Q := ⟨k, q⟩
theorem ixL {p : Addr} {xs : List V} {j : Int} (h : SqL K H p xs) (e : atI xs j = some x) (q : Q x H) : rIxL K (.ref p) (.int j) H Q := ⟨p, xs, j, x, rfl, rfl, h, e, q⟩
theorem ixT {p : Addr} {xs : List V} {j : Int} (h : SqT K H p xs) (e : atI xs j = some x) (q : Q x H) : rIxT K (.ref p) (.int j) H Q := ⟨p, xs, j, x, rfl, rfl, h, e, q⟩
theorem setL {p : Addr} {xs : List V} {j : Int} {n : Nat} {R : Hp → Prop} (h : H p = some (.lst xs)) (e : ixN xs.length j = some n) (q : R (upd H p (.lst (xs.set n x)))) : rSetL (.ref p) (.int j) x H R := ⟨p, xs, j, n, rfl, rfl, h, e, q⟩
/-- a test's two ways -/
theorem ite_ {p A B : Prop} [Decidable p] (h1 : p → A) (h2 : ¬ p → B) : if decide p = true then A else B := by
  by_cases h : p
  · rw [if_pos (decide_eq_true h)]; exact h1 h
  · rw [if_neg (by rw [decide_eq_false h]; exact Bool.false_ne_true)]; exact h2 h
theorem iteN {p A B : Prop} [Decidable p] (h1 : ¬ p → A) (h2 : p → B) : if (!decide p) = true then A else B := by
  by_cases h : p
  · rw [decide_eq_true h]; exact iteF (h2 h)
  · rw [decide_eq_false h]; exact iteT (h1 h)
theorem iteB {b : Bool} {A B : Prop} (h1 : b = true → A) (h2 : b = false → B) : if b = true then A else B := by
  cases b with
  | true => exact iteT (h1 rfl)
  | false => exact iteF (h2 rfl)
end
/-! ### the walk -/
/-- all but the object at b is kept -/
def Kp (b : Addr) (H H' : Hp) : Prop := ∀ a o, a ≠ b → H a = some o → H' a = some o
theorem Kp.refl (b : Addr) (H : Hp) : Kp b H H := fun _ _ _ h => h
theorem Kp.trans {b : Addr} {H H1 H2 : Hp} (x : Kp b H H1) (y : Kp b H1 H2) : Kp b H H2 := fun a o n h => y a o n (x a o n h)
theorem Kp.new {b p : Addr} {H : Hp} {o : HO} (h : H p = none) : Kp b H (upd H p o) := fun a u _ e => by rw [upd_ne (ne_of_none e h)]; exact e
theorem Kp.at {b : Addr} {H : Hp} {o : HO} : Kp b H (upd H b o) := fun a u n e => by rw [upd_ne n]; exact e
section
variable {σ : L2.St} {H H1 H2 : Hp} {Q : VK} {D : Ends} {te ta tb tc : TE} {t u v : TS} {c c2 : TT} {x y z : V} {i : Nat} {K : PySem.W.Frag} {a b p : Addr} {xs ys : List V}
theorem gtup {tt : TGs} {R : L2.St → Hp → Prop} {n : Nat} (h : SqT K H a xs) (e : xs.length = n) (q : tt xs σ H R) : gTup K n tt (.ref a) σ H R := ⟨a, xs, rfl, h, e, q⟩
theorem gcons {g : TG} {tt : TGs} {R : L2.St → Hp → Prop} {r : List V} (q : g x σ H fun σ' H' => tt r σ' H' R) : gCons g tt (x :: r) σ H R := ⟨x, r, rfl, q⟩
theorem gnil {R : L2.St → Hp → Prop} (q : R σ H) : gNil [] σ H R := ⟨rfl, q⟩
theorem sl {r : V → Option Int → Option Int → Hp → VK → Prop} {tl th : TO} (h : te σ H fun x H1 => tl σ H1 fun l H2 => th σ H2 fun u H3 => r x l u H3 Q) : tSl r te tl th σ H Q := h
theorem part {R : Option Int → Hp → Prop} (h : te σ H fun x H1 => ∃ i, x = .int i ∧ R (some i) H1) : tPart te σ H R := h
theorem nopart {R : Option Int → Hp → Prop} (h : R none H) : tNoPart σ H R := h
theorem slS {zs : Str} {lo hi : Option Int} (h : zs.length ≤ sizeLine) (q : Q (.str (cutS zs lo hi)) H) : rSlS (.str zs) lo hi H Q := ⟨zs, rfl, h, q⟩
theorem ifE (h : c σ H fun b H1 => if b = true then ta σ H1 Q else tb σ H1 Q) : tIf c ta tb σ H Q := h
theorem bm0 {T : String} {r : V → List V → Hp → VK → Prop} (h : te σ H fun x H1 => tyV K T x H1 ∧ r x [] H1 Q) : tBM0 K T r te σ H Q := h
theorem bm {T : String} {r : V → List V → Hp → VK → Prop} {tt : TA} (h : te σ H fun x H1 => tyV K T x H1 ∧ tt σ H1 fun xs H2 => r x xs H2 Q) : tBM K T r te tt σ H Q := h
theorem lcat {t u : List V} {R : Addr → Hp → Prop} (h : ∀ p, H p = none → R p (upd H p (.lst (t ++ u)))) : ∀ p, H p = none → R p (upd H p (.lst (t ++ u))) := h
theorem iteT' {A B : Prop} (h : A) : if (!false) = true then A else B := iteT h
theorem iteF' {A B : Prop} (h : B) : if (!true) = true then A else B := iteF h
theorem iteBt {b : Bool} {A B : Prop} (h : b = true) (q : A) : if b = true then A else B := by rw [h]; exact iteT q
theorem iteBf {b : Bool} {A B : Prop} (h : b = false) (q : B) : if b = true then A else B := by rw [h]; exact iteF q
theorem cutS_len (z : Str) (lo hi : Option Int) : (cutS z lo hi).length ≤ z.length := by
  show ((z.cps.toList.drop (HT.sIx z.length 0 lo)).take (HT.sIx z.length z.length hi - HT.sIx z.length 0 lo)).toArray.size ≤ z.cps.size
  rw [List.size_toArray, List.length_take, List.length_drop, Array.length_toList]
  omega
theorem app_len (x y : Str) : (x ++ y).length = x.length + y.length := by
  show (x.cps ++ y.cps).size = x.cps.size + y.cps.size
  exact Array.size_append
theorem str1_len (c : Nat) : (⟨#[c]⟩ : Str).length = 1 := rfl
theorem iteBnT {b : Bool} {A B : Prop} (h : b = false) (q : A) : if (!b) = true then A else B := by rw [h]; exact iteT q
theorem iteBnF {b : Bool} {A B : Prop} (h : b = true) (q : B) : if (!b) = true then A else B := by rw [h]; exact iteF q
theorem pcons {tk tv : TE} {r : List (TE × TE)} {R : List (V × V) → Hp → Prop} (h : tk σ H fun x H1 => tv σ H1 fun y H2 => tPairs r σ H2 fun ps H3 => R ((x, y) :: ps) H3) : tPairs ((tk, tv) :: r) σ H R := h
theorem pnil {R : List (V × V) → Hp → Prop} (h : R [] H) : tPairs [] σ H R := h
/-! ### a written dict with text keys -/
def keysAre : List DictEntry → List (Str × V) → Prop
  | [], [] => True
  | e :: r, (k, v) :: s => (∃ t, e.key = .str k t) ∧ RelV v e.val ∧ keysAre r s
  | _, _ => False
def seek (z : Str) : List (Str × V) → Option V
  | [] => none
  | (k, v) :: s => if k = z then some v else seek z s
theorem keys_find {z : Str} : ∀ {l : List DictEntry} {ks : List (Str × V)}, keysAre l ks →
    (l.any (·.refKey) = false) ∧ ((∃ v e, seek z ks = some v ∧ l.find? (·.key.isStr z) = some e ∧ RelV v e.val) ∨ (seek z ks = none ∧ l.find? (·.key.isStr z) = none))
  | [], [], _ => ⟨rfl, .inr ⟨rfl, rfl⟩⟩
  | [], _ :: _, h => h.elim
  | _ :: _, [], h => h.elim
  | e :: r, (k, v) :: s, ⟨⟨t, hk⟩, hv, h⟩ => by
    obtain ⟨h1, h2⟩ := keys_find (z := z) h
    refine ⟨?_, ?_⟩
    · rw [List.any_cons, h1, Bool.or_false]
      show DictEntry.refKey e = false
      unfold DictEntry.refKey
      rw [hk] <;> rfl
    · rw [List.find?_cons]
      have e1 : (e.key.isStr z) = decide (k = z) := by
        rw [hk, PySem.W.isStr_of]
        show (k == z) = decide (k = z)
        exact Bool.beq_eq_decide_eq k z
      show (∃ v' e', (if k = z then some v else seek z s) = some v' ∧ _) ∨ ((if k = z then some v else seek z s) = none ∧ _)
      by_cases c : k = z
      · rw [if_pos c, e1, decide_eq_true c]
        exact .inl ⟨v, e, rfl, rfl, hv⟩
      · rw [if_neg c, e1, decide_eq_false c]
        exact h2
theorem ns_seek {d : Addr} {es : Array DictEntry} {n : Nat} {ks : List (Str × V)} (hl : K.lookup d = some ⟨.type "dict", none, .dict es n, #[]⟩) (hk : keysAre es.toList ks) (z : Str) :
    (∃ v u, seek z ks = some v ∧ PySem.W.nsIn K d z = some (some u) ∧ RelV v u) ∨ (seek z ks = none ∧ PySem.W.nsIn K d z = some none) := by
  obtain ⟨h1, h2⟩ := keys_find (z := z) hk
  unfold PySem.W.nsIn
  rw [hl]
  dsimp only
  rcases h2 with ⟨v, e, e1, e2, r⟩ | ⟨e1, e2⟩
  · rw [e2]
    exact .inl ⟨v, e.val, e1, rfl, r⟩
  · rw [e2]
    dsimp only
    rw [h1]
    exact .inr ⟨e1, rfl⟩
theorem ixS_any {zs : Str} {j : Int} (hz : zs.length ≤ sizeLine) (h0 : 0 ≤ j) (h1 : j < zs.length) (q : ∀ c, Q (.str ⟨#[c]⟩) H) : rIxS (.str zs) (.int j) H Q := by
  have h2 : j.toNat < zs.cps.toList.length := by
    rw [Array.length_toList]
    show j.toNat < zs.length
    omega
  obtain ⟨c, hc⟩ : ∃ c, zs.cps.toList[j.toNat]? = some c := ⟨_, List.getElem?_eq_getElem h2⟩
  have e : ((j.toNat : Nat) : Int) = j := by omega
  have hc2 := atI_nat hc
  rw [e] at hc2
  exact ⟨zs, j, c, rfl, rfl, hz, hc2, q c⟩
theorem tyvL {p : Addr} {xs : List V} (h : H p = some (.lst xs)) : tyV K "list" (.ref p) H := .inl ⟨rfl, _, SqL.of h⟩
theorem app_ {p : Addr} {xs : List V} {y : V} (h : H p = some (.lst xs)) (hl : xs.length < sizeLine) (q : Q .non (upd H p (.lst (xs ++ [y])))) : rAppend (.ref p) [y] H Q := ⟨p, xs, y, rfl, rfl, h, hl, q⟩
theorem rev_ {p : Addr} {xs : List V} (h : H p = some (.lst xs)) (q : Q .non (upd H p (.lst xs.reverse))) : rReverse (.ref p) [] H Q := ⟨p, xs, rfl, rfl, h, q⟩
theorem slL {p : Addr} {xs : List V} {lo hi : Option Int} (h : SqL K H p xs) (q : ∀ p, H p = none → Q (.ref p) (upd H p (.lst (cutV xs lo hi)))) : rSlL K (.ref p) lo hi H Q := ⟨p, xs, rfl, h, q⟩
theorem cat_ {l b : Addr} {xs zs : List V} (h : H l = some (.lst xs)) (h2 : H b = some (.lst zs)) (hl : xs.length + zs.length ≤ sizeLine) (q : ∀ p, H p = none → Q (.ref p) (upd H p (.lst (xs ++ zs)))) : rCat (.ref l) (.ref b) H Q :=
  ⟨l, b, xs, zs, rfl, rfl, h, h2, hl, q⟩
theorem un65 {k : Nat} {A : Around} (r : Room k A) : A.units + 65 < cLine := by have := r.un; omega
theorem eqD {x y : V} {d : PyData} (h1 : Dp K H x d) (h2 : Dp K H y d) (s : SeqAt.shaped d = true) (e : PyData.eqv d d = true) (q : Q (.bl true) H) : rEqD K x y H Q := ⟨d, d, h1, h2, s, s, by rw [e]; exact q⟩
theorem neD {x y : V} {d : PyData} (h1 : Dp K H x d) (h2 : Dp K H y d) (s : SeqAt.shaped d = true) (e : PyData.eqv d d = true) (q : Q (.bl false) H) : rNeD K x y H Q := ⟨d, d, h1, h2, s, s, by rw [e]; exact q⟩
theorem cut_take {xs : List V} {n : Nat} : cutV xs none (some (n : Int)) = xs.take n := by
  unfold cutV
  rw [show HT.sIx xs.length 0 none = 0 from HT.sIx_none .., show HT.sIx xs.length xs.length (some (n : Int)) = min n xs.length from HT.sIx_nat ..]
  show (xs.drop 0).take (min n xs.length - 0) = xs.take n
  rw [List.drop_zero, Nat.sub_zero]
  by_cases h : n ≤ xs.length
  · rw [Nat.min_eq_left h]
  · rw [Nat.min_eq_right (by omega), List.take_of_length_le (Nat.le_refl _), List.take_of_length_le (by omega)]
theorem dput {td tk tv : TE} (h : tv σ H fun v H1 => td σ H1 fun x H2 => tk σ H2 fun y H3 => ∃ a H', x = .ref a ∧ DPut H3 a y v H' ∧ D.nx σ H') : sDPut td tk tv D σ H := h
theorem cut (Mid : L2.St → Hp → Prop) (h1 : t { D with nx := Mid } σ H) (h2 : ∀ σ' H', Mid σ' H' → u D σ' H') : C8.tCut t u D σ H := ⟨Mid, h1, h2⟩
theorem len_take {xs : List V} {n m : Nat} (h : n ≤ m) : (xs.take n).length ≤ m := Nat.le_trans (List.length_take_le _ _) h
/-! ### loops -/
/-- the loop over J -/
def Loop (J : It) (g : TG) (tb : TS) (D : Ends) (σ : L2.St) (H : Hp) : Prop := ∃ W : Nat → Nat → L2.St → Hp → Prop, (∃ m, W 0 m σ H) ∧ ∀ i m σ H, W i m σ H →
  (J.stop i H ∧ D.nx σ H) ∨ (J.go i H ∧ ∃ N : L2.St → Hp → Prop, (∀ σ' H', N σ' H' → ∃ m', m' < m ∧ W (i + 1) m' σ' H') ∧ ∀ x H', J.yld i H x H' → g x σ H' fun σ2 H2 => tb { D with nx := N, ct := N, bk := D.nx } σ2 H2)
theorem forR1 {ta : TA} {g : TG} {tb : TS} (h : ta σ H fun vs H1 => ∃ j : Int, vs = [.int j] ∧ -(2 ^ 62) ≤ j ∧ j < 2 ^ 62 ∧ Loop (Itr 0 j.toNat) g tb D σ H1) : tFor (iRng1 ta) g tb D σ H := h
theorem forR2 {ta : TA} {g : TG} {tb : TS} (h : ta σ H fun vs H1 => ∃ i j : Int, vs = [.int i, .int j] ∧ (-(2 ^ 62) ≤ i ∧ i < 2 ^ 62 ∧ -(2 ^ 62) ≤ j ∧ j < 2 ^ 62) ∧ Loop (Itr i (j - i).toNat) g tb D σ H1) : tFor (iRng2 ta) g tb D σ H := h
theorem forL {g : TG} {tb : TS} (h : te σ H fun x H1 => ∃ a, x = .ref a ∧ (∃ xs, SqL K H1 a xs) ∧ Loop (Itl K a) g tb D σ H1) : tFor (iList K te) g tb D σ H := h
theorem forT {g : TG} {tb : TS} (h : te σ H fun x H1 => ∃ a, x = .ref a ∧ (∃ xs, SqT K H1 a xs) ∧ Loop (Itt K a) g tb D σ H1) : tFor (iTup K te) g tb D σ H := h
theorem loopR {lo : Int} {n : Nat} {g : TG} {tb : TS} (Pv : Nat → L2.St → Hp → Prop) (h0 : Pv 0 σ H)
    (hs : ∀ i σ H, i < n → Pv i σ H → g (.int (lo + i)) σ H fun σ2 H2 => tb { D with nx := Pv (i + 1), ct := Pv (i + 1), bk := D.nx } σ2 H2) (hd : ∀ σ H, Pv n σ H → D.nx σ H) : Loop (Itr lo n) g tb D σ H := for_range Pv h0 hs hd
theorem loopL {g : TG} {tb : TS} {xs : List V} (Pv : Nat → L2.St → Hp → Prop) (h0 : Pv 0 σ H) (hl : ∀ i σ H, i ≤ xs.length → Pv i σ H → SqL K H a xs)
    (hs : ∀ i x σ H, xs[i]? = some x → Pv i σ H → g x σ H fun σ2 H2 => tb { D with nx := Pv (i + 1), ct := Pv (i + 1), bk := D.nx } σ2 H2) (hd : ∀ σ H, Pv xs.length σ H → D.nx σ H) : Loop (Itl K a) g tb D σ H := for_list Pv h0 hl hs hd
/-! ### comprehensions, whiles -/
def LoopC (J : It) (g : TG) (tt : TT) (te : TE) (vs : List Nat) (σ : L2.St) (D : Addr) (Qd : Hp → Prop) (H0 : Hp) : Prop := ∃ W : Nat → Nat → Hp → Prop, (∃ m, W 0 m H0) ∧ ∀ i m H, W i m H →
  (J.stop i H ∧ Qd H) ∨ (J.go i H ∧ ∃ Nx : Hp → Prop, (∀ H', Nx H' → ∃ m', m' < m ∧ W (i + 1) m' H') ∧ ∀ x H', J.yld i H x H' → g x (wipe σ vs) H' fun σ2 H2 => wipe σ2 vs = wipe σ vs ∧ tt σ2 H2 fun b H3 =>
    if b = true then te σ2 H3 fun y H4 => ∃ acc, H4 D = some (.lst acc) ∧ acc.length < sizeLine ∧ Nx (upd H4 D (.lst (acc ++ [y]))) else Nx H3)
theorem lcR1 {ta : TA} {g : TG} {tt : TT} {vs : List Nat} (h : ta σ H fun us H1 => ∃ j : Int, us = [.int j] ∧ -(2 ^ 62) ≤ j ∧ j < 2 ^ 62 ∧ ∀ D, H1 D = none → LoopC (Itr 0 j.toNat) g tt te vs σ D (fun H => Q (.ref D) H) (upd H1 D (.lst []))) : tLc (iRng1 ta) g tt te vs σ H Q := h
theorem lcR2 {ta : TA} {g : TG} {tt : TT} {vs : List Nat} (h : ta σ H fun us H1 => ∃ i j : Int, us = [.int i, .int j] ∧ (-(2 ^ 62) ≤ i ∧ i < 2 ^ 62 ∧ -(2 ^ 62) ≤ j ∧ j < 2 ^ 62) ∧ ∀ D, H1 D = none → LoopC (Itr i (j - i).toNat) g tt te vs σ D (fun H => Q (.ref D) H) (upd H1 D (.lst []))) : tLc (iRng2 ta) g tt te vs σ H Q := h
theorem lcL {g : TG} {tt : TT} {vs : List Nat} (h : ta σ H fun x H1 => ∃ a, x = .ref a ∧ (∃ xs, SqL K H1 a xs) ∧ ∀ D, H1 D = none → LoopC (Itl K a) g tt te vs σ D (fun H => Q (.ref D) H) (upd H1 D (.lst []))) : tLc (iList K ta) g tt te vs σ H Q := h
theorem loopCR {lo : Int} {n : Nat} {g : TG} {tt : TT} {vs : List Nat} {D : Addr} {Qd : Hp → Prop} (Pv : Nat → Hp → Prop) (h0 : Pv 0 H)
    (hs : ∀ i H, i < n → Pv i H → g (.int (lo + i)) (wipe σ vs) H fun σ2 H2 => wipe σ2 vs = wipe σ vs ∧ tt σ2 H2 fun b H3 =>
      if b = true then te σ2 H3 fun y H4 => ∃ acc, H4 D = some (.lst acc) ∧ acc.length < sizeLine ∧ Pv (i + 1) (upd H4 D (.lst (acc ++ [y]))) else Pv (i + 1) H3) (hd : ∀ H, Pv n H → Qd H) : LoopC (Itr lo n) g tt te vs σ D Qd H := by
  refine ⟨fun i m H => m = n - i ∧ i ≤ n ∧ Pv i H, ⟨n, by simp, Nat.zero_le _, h0⟩, ?_⟩
  rintro i m H ⟨rfl, hi, p⟩
  by_cases hlt : i < n
  · refine .inr ⟨hlt, Pv (i + 1), fun H' p' => ⟨n - (i + 1), by omega, rfl, hlt, p'⟩, fun x H' y => ?_⟩
    obtain ⟨e, y⟩ := y
    subst e y
    exact hs i _ hlt p
  · have e : i = n := by omega
    subst e
    exact .inl ⟨Nat.le_refl _, hd H p⟩
theorem loopCL {a : Addr} {xs : List V} {g : TG} {tt : TT} {vs : List Nat} {D : Addr} {Qd : Hp → Prop} (Pv : Nat → Hp → Prop) (h0 : Pv 0 H) (hl : ∀ i H, i ≤ xs.length → Pv i H → SqL K H a xs)
    (hs : ∀ i x H, xs[i]? = some x → Pv i H → g x (wipe σ vs) H fun σ2 H2 => wipe σ2 vs = wipe σ vs ∧ tt σ2 H2 fun b H3 =>
      if b = true then te σ2 H3 fun y H4 => ∃ acc, H4 D = some (.lst acc) ∧ acc.length < sizeLine ∧ Pv (i + 1) (upd H4 D (.lst (acc ++ [y]))) else Pv (i + 1) H3) (hd : ∀ H, Pv xs.length H → Qd H) : LoopC (Itl K a) g tt te vs σ D Qd H := by
  refine ⟨fun i m H => m = xs.length - i ∧ i ≤ xs.length ∧ Pv i H, ⟨xs.length, by simp, Nat.zero_le _, h0⟩, ?_⟩
  rintro i m H ⟨rfl, hi, p⟩
  have q := hl i H hi p
  by_cases hlt : i < xs.length
  · refine .inr ⟨⟨xs, xs[i], q, by simp [hlt]⟩, Pv (i + 1), fun H' p' => ⟨xs.length - (i + 1), by omega, rfl, hlt, p'⟩, fun x H' y => ?_⟩
    obtain ⟨e, y⟩ := y
    subst e
    exact hs i x _ (y xs q) p
  · have e : i = xs.length := by omega
    subst e
    exact .inl ⟨⟨xs, q, Nat.le_refl _⟩, hd H p⟩
theorem yes {R : Bool → Hp → Prop} (h : R true H) : tYes σ H R := h
theorem whileW (M : Nat → L2.St → Hp → Prop) (m0 : Nat) (h0 : M m0 σ H)
    (hs : ∀ m σ H, M m σ H → c σ H fun b H1 => if b = true then (∃ N : L2.St → Hp → Prop, (∀ σ' H', N σ' H' → ∃ m', m' < m ∧ M m' σ' H') ∧ t { D with nx := N, ct := N, bk := D.nx } σ H1) else D.nx σ H1) : tWhile c t D σ H := by
  refine ⟨M, ⟨m0, h0⟩, fun m σ H h => ?_⟩
  have h2 := hs m σ H h
  exact h2
theorem dinI {ty td : TE} (h : ty σ H fun y H1 => td σ H1 fun x H2 => ∃ a o, x = .ref a ∧ DGet H2 a y o ∧ Q (.bl o.isSome) H2) : tDIn ty td σ H Q := h
theorem dninI {ty td : TE} (h : ty σ H fun y H1 => td σ H1 fun x H2 => ∃ a o, x = .ref a ∧ DGet H2 a y o ∧ Q (.bl (!o.isSome)) H2) : tDNotIn ty td σ H Q := h
theorem dget {ty td : TE} (h : td σ H fun x H1 => ty σ H1 fun y H2 => ∃ a v, x = .ref a ∧ DGet H2 a y (some v) ∧ Q v H2) : tDGet td ty σ H Q := h
/-- len and list of a sequence, by names -/
def rLenS (K : PySem.W.Frag) : List V → Hp → VK → Prop := fun xs H Q => ∃ p ys, xs = [.ref p] ∧ (SqL K H p ys ∨ SqT K H p ys) ∧ Q (.int ys.length) H
theorem call_lenS {X : Cx} : CallR X (.builtin "len") (rLenS X.K) := call_len_seq
def rListS (K : PySem.W.Frag) : List V → Hp → VK → Prop := fun xs H Q => ∃ p ys, xs = [.ref p] ∧ (SqL K H p ys ∨ SqT K H p ys) ∧ ∀ l, H l = none → Q (.ref l) (upd H l (.lst ys))
theorem call_listS {X : Cx} : CallR X (.type "list") (rListS X.K) := call_list_of
theorem lenS_ {p : Addr} {ys : List V} (h : SqL K H p ys) (q : Q (.int ys.length) H) : rLenS K [.ref p] H Q := ⟨p, ys, rfl, .inl h, q⟩
theorem listS_ {p : Addr} {ys : List V} (h : SqL K H p ys) (q : ∀ l, H l = none → Q (.ref l) (upd H l (.lst ys))) : rListS K [.ref p] H Q := ⟨p, ys, rfl, .inl h, q⟩
theorem chain {r r' : R2} (h : ta σ H fun x H1 => tb σ H1 fun y H2 => r x y H2 fun z H3 => ∃ k, z = .bl k ∧ (if k = true then tc σ H3 fun w' H4 => r' y w' H4 Q else Q (.bl false) H3)) : tChain r r' ta tb tc σ H Q := h
/-- a comprehension of two clauses, the first one's loop -/
def LoopC2 (J : It) (g : TG) (tt : TT) (wi1 : TI) (g1 : TG) (tt1 : TT) (te : TE) (vs vs1 : List Nat) (σ : L2.St) (D : Addr) (Qd : Hp → Prop) (H0 : Hp) : Prop := ∃ W : Nat → Nat → Hp → Prop, (∃ m, W 0 m H0) ∧ ∀ i m H, W i m H →
  (J.stop i H ∧ Qd H) ∨ (J.go i H ∧ ∃ Nx : Hp → Prop, (∀ H', Nx H' → ∃ m', m' < m ∧ W (i + 1) m' H') ∧ ∀ x H', J.yld i H x H' → g x (wipe σ vs) H' fun σ2 H2 => wipe σ2 vs = wipe σ vs ∧ tt σ2 H2 fun b H3 =>
    if b = true then wi1 σ2 H3 (fun J1 H4 => LoopC J1 g1 tt1 te vs1 σ2 D Nx H4) else Nx H3)
theorem lc2V {K : PySem.W.Frag} {ts : TA} {wi1 : TI} {g g1 : TG} {tt tt1 : TT} {vs vs1 : List Nat} (h : ts σ H fun us H1 => ∃ (a : Addr) (xs : List V), us = [.ref a] ∧ SqL K H1 a xs ∧ ∀ D, H1 D = none → LoopC2 (Itv K a xs.length) g tt wi1 g1 tt1 te vs vs1 σ D (fun H => Q (.ref D) H) (upd H1 D (.lst []))) :
    tLc2 (iRev K ts) g tt wi1 g1 tt1 te vs vs1 σ H Q := h
theorem loopC2V {a : Addr} {xs : List V} {wi1 : TI} {g g1 : TG} {tt tt1 : TT} {vs vs1 : List Nat} {D : Addr} {Qd : Hp → Prop} (Pv : Nat → Hp → Prop) (h0 : Pv 0 H) (hl : ∀ i H, Pv i H → SqL K H a xs)
    (hs : ∀ i x H, i < xs.length → xs[xs.length - 1 - i]? = some x → Pv i H → g x (wipe σ vs) H fun σ2 H2 => wipe σ2 vs = wipe σ vs ∧ tt σ2 H2 fun b H3 =>
      if b = true then wi1 σ2 H3 (fun J1 H4 => LoopC J1 g1 tt1 te vs1 σ2 D (Pv (i + 1)) H4) else Pv (i + 1) H3) (hd : ∀ H, Pv xs.length H → Qd H) : LoopC2 (Itv K a xs.length) g tt wi1 g1 tt1 te vs vs1 σ D Qd H := by
  refine ⟨fun i m H => m = xs.length - i ∧ i ≤ xs.length ∧ Pv i H, ⟨xs.length, by simp, Nat.zero_le _, h0⟩, ?_⟩
  rintro i m H ⟨rfl, hi, p⟩
  by_cases hlt : i < xs.length
  · have hx : xs.length - 1 - i < xs.length := by omega
    refine .inr ⟨⟨hlt, xs, xs[xs.length - 1 - i], hl i H p, List.getElem?_eq_getElem hx⟩, Pv (i + 1), fun H' p' => ⟨xs.length - (i + 1), by omega, rfl, hlt, p'⟩, fun x H' y => ?_⟩
    obtain ⟨e, y⟩ := y
    subst e
    exact hs i x _ hlt (y xs (hl i _ p)) p
  · have e : i = xs.length := by omega
    subst e
    exact .inl ⟨Nat.le_refl _, hd H p⟩
theorem piL {R : It → Hp → Prop} (h : ta σ H fun x H1 => ∃ a, x = .ref a ∧ (∃ xs, SqL K H1 a xs) ∧ R (Itl K a) H1) : iList K ta σ H R := h
/-! ### kinds -/
/-- a value's built-in type, of what is known of it -/
inductive Kind (H : Hp) : V → String → Prop where
  | non : Kind H .non "NoneType"
  | bl (b : Bool) : Kind H (.bl b) "bool"
  | int (i : Int) : Kind H (.int i) "int"
  | str (x : Str) : Kind H (.str x) "str"
  | lst {a : Addr} {xs : List V} (h : H a = some (.lst xs)) : Kind H (.ref a) "list"
  | tup {a : Addr} {xs : List V} (h : H a = some (.tup xs)) : Kind H (.ref a) "tuple"
  | dK {a : Addr} {kvs : List (Key × V)} (h : H a = some (.dK kvs)) : Kind H (.ref a) "dict"
theorem Kind.tyB {T : String} (k : Kind H x T) : TyB K H x T := by
  cases k with
  | non => exact .non
  | bl b => exact .bl b
  | int i => exact .int i
  | str s => exact .str s
  | lst h => exact .lst (SqL.of h)
  | tup h => exact .tup (SqT.of h)
  | dK h => exact .dK h
theorem Kind.tyX {T : String} (k : Kind H x T) : TyX K H x (.type T) := by
  cases k with
  | non => exact .base .non
  | bl b => exact .base (.bl b)
  | int i => exact .base (.int i)
  | str s => exact .base (.str s)
  | lst h => exact .base (.lst h)
  | tup h => exact .base (.tup h)
  | dK h => exact .base (.dK h)
def isB (T C : String) : Bool := decide (T = C) || (decide (T = "bool") && decide (C = "int"))
theorem isB_eq {T C : String} (h : C ≠ "int") : isB T C = decide (T = C) := by
  unfold isB
  rw [decide_eq_false h, Bool.and_false, Bool.or_false]
theorem Kind.kit {T : String} (k : Kind H x T) {C : String} (hC : C = "int" ∨ C = "bool" ∨ C = "str" ∨ C = "tuple" ∨ C = "list") : PySem.W.kitOne K (.type T) (.type C) = some (isB T C) := by
  rcases hC with rfl | rfl | rfl | rfl | rfl <;> cases k <;> exact kit_ty (by decide +kernel)
theorem isi {T C : String} (k : Kind H x T) (hC : C = "int" ∨ C = "bool" ∨ C = "str" ∨ C = "tuple" ∨ C = "list") (q : Q (.bl (isB T C)) H) : rIsi K [x, .ty C] H Q :=
  ⟨x, .ty C, _, _, _, rfl, .ty C, k.tyX, k.kit hC, q⟩
theorem typ {T : String} (k : Kind H x T) (q : Q (.ty T) H) : rTyp K [x] H Q := ⟨x, T, rfl, k.tyB, q⟩
theorem rNT_ {s1 s2 : String} (q : Q (.bl (!decide (s1 = s2))) H) : rNT (.ty s1) (.ty s2) H Q := ⟨s1, s2, rfl, rfl, q⟩
/-! ### heaps -/
theorem Kp.same (h : H b = none) (k : Kp b H H1) : Same H H1 := fun a o e => k a o (ne_of_none e h) e
theorem Kp.updNew {o : HO} (k : Kp b H H1) (h : H p = none) : Kp b H (upd H1 p o) := fun a u n e => by rw [upd_ne (ne_of_none e h)]; exact k a u n e
theorem Same.kp (k : Same H H1) : Kp b H H1 := fun a o _ e => k a o e
theorem same_new {o : HO} (h : H p = none) : Same H (upd H p o) := fun a u e => by rw [upd_ne (ne_of_none e h)]; exact e
theorem Kp.kind {T : String} {bs : List V} (k : Kp b H H1) (hb : H b = some (.lst bs)) (q : Kind H x T) (n : x ≠ .ref b) : Kind H1 x T := by
  cases q with
  | non => exact .non
  | bl b => exact .bl b
  | int i => exact .int i
  | str s => exact .str s
  | lst h => exact .lst (k _ _ (fun e => n (by rw [e])) h)
  | tup h => exact .tup (k _ _ (fun e => n (by rw [e])) h)
  | dK h => exact .dK (k _ _ (fun e => n (by rw [e])) h)
theorem Same.kind {T : String} (k : Same H H1) (q : Kind H x T) : Kind H1 x T := by
  cases q with
  | non => exact .non
  | bl b => exact .bl b
  | int i => exact .int i
  | str s => exact .str s
  | lst h => exact .lst (k _ _ h)
  | tup h => exact .tup (k _ _ h)
  | dK h => exact .dK (k _ _ h)
theorem atI_of {α : Type} {xs : List α} {x : α} {j : Int} {n : Nat} (e : j = n) (h : xs[n]? = some x) : atI xs j = some x := by rw [e]; exact atI_nat h
end
end Wp

/-! Worths and piles as data: (text, int), lists of such; what is kept of them. -/
namespace Wq
open PySem PySem.Spec PyProof.Rows L2 Wp
abbrev W := Str × Int
def wD (w : W) : PyData := .tuple [.str w.1, .int w.2]
def IsW (H : Hp) (v : V) (w : W) : Prop := ∃ t, v = .ref t ∧ H t = some (.tup [.str w.1, .int w.2])
def Pile (H : Hp) (vs : List V) (ws : List W) : Prop := Paired (IsW H) vs ws
/-- the tuples stay -/
def Tk (H H' : Hp) : Prop := ∀ t xs, H t = some (.tup xs) → H' t = some (.tup xs)
section
variable {H H1 H2 : Hp} {a b p : Addr} {v x y : V} {w : W} {vs us : List V} {ws zs : List W} {K : PySem.W.Frag}
theorem Tk.refl : Tk H H := fun _ _ h => h
theorem Tk.trans (h : Tk H H1) (k : Tk H1 H2) : Tk H H2 := fun t xs e => k t xs (h t xs e)
theorem Same.tk (s : Same H H1) : Tk H H1 := fun t xs e => s t _ e
theorem Kp.tk {bs : List V} (k : Kp b H H1) (h : H b = some (.lst bs)) : Tk H H1 := fun t xs e => k t _ (ne_of e h (by intro q; cases q)) e
theorem Tk.lst {o : HO} {bs : List V} (h : H b = some (.lst bs)) : Tk H (upd H b o) := fun t xs e => by rw [upd_ne (ne_of e h (by intro q; cases q))]; exact e
theorem Tk.dT {o : HO} {bs : List (List Key × V)} (h : H b = some (.dT bs)) : Tk H (upd H b o) := fun t xs e => by rw [upd_ne (ne_of e h (by intro q; cases q))]; exact e
theorem Tk.dK {o : HO} {bs : List (Key × V)} (h : H b = some (.dK bs)) : Tk H (upd H b o) := fun t xs e => by rw [upd_ne (ne_of e h (by intro q; cases q))]; exact e
theorem Tk.new {o : HO} (h : H p = none) : Tk H (upd H p o) := fun t xs e => by rw [upd_ne (ne_of_none e h)]; exact e
theorem IsW.keep (h : IsW H v w) (k : Tk H H1) : IsW H1 v w := by
  obtain ⟨t, e, h⟩ := h
  exact ⟨t, e, k _ _ h⟩
theorem Pile.keep (h : Pile H vs ws) (k : Tk H H1) : Pile H1 vs ws := Paired.mapP h fun _ _ q => q.keep k
theorem Pile.len (h : Pile H vs ws) : vs.length = ws.length := Paired.length h
theorem Pile.nil : Pile H [] [] := Paired.nil
theorem Pile.app (h : Pile H vs ws) (k : Pile H us zs) : Pile H (vs ++ us) (ws ++ zs) := by
  unfold Pile at *
  induction h with
  | nil => exact k
  | cons r t ih => exact .cons r ih
theorem Pile.one (h : IsW H v w) : Pile H [v] [w] := Paired.cons h Paired.nil
theorem Pile.take (h : Pile H vs ws) : ∀ n, Pile H (vs.take n) (ws.take n) := by
  unfold Pile at *
  induction h with
  | nil => intro n; cases n <;> exact .nil
  | cons r t ih => intro n; cases n with
    | zero => exact .nil
    | succ n => exact .cons r (ih n)
theorem Pile.drop (h : Pile H vs ws) : ∀ n, Pile H (vs.drop n) (ws.drop n) := by
  unfold Pile at *
  induction h with
  | nil => intro n; cases n <;> exact .nil
  | cons r t ih => intro n; cases n with
    | zero => exact .cons r t
    | succ n => exact ih n
theorem Pile.rev (h : Pile H vs ws) : Pile H vs.reverse ws.reverse := by
  unfold Pile at *
  induction h with
  | nil => exact .nil
  | cons r t ih =>
    rw [List.reverse_cons, List.reverse_cons]
    exact Pile.app ih (Pile.one r)
theorem Pile.get (h : Pile H vs ws) : ∀ {i : Nat}, vs[i]? = some v → ∃ w, ws[i]? = some w ∧ IsW H v w := by
  unfold Pile at h
  induction h with
  | nil => intro i e; cases i <;> cases e
  | cons r t ih => intro i e; cases i with
    | zero => cases e; exact ⟨_, rfl, r⟩
    | succ n => exact ih e
theorem Pile.at (h : Pile H vs ws) {i : Nat} (hi : i < ws.length) : ∃ v w, vs[i]? = some v ∧ ws[i]? = some w ∧ IsW H v w := by
  have h2 : i < vs.length := by rw [h.len]; exact hi
  obtain ⟨w, hw, q⟩ := h.get (List.getElem?_eq_getElem h2)
  exact ⟨_, w, List.getElem?_eq_getElem h2, hw, q⟩
/-! ### as data -/
theorem IsW.dp (h : IsW H v w) : Dp K H v (wD w) := by
  obtain ⟨t, rfl, h⟩ := h
  exact .tup (SqT.of h) (.cons (.str _) (.cons (.int _) .nil))
theorem Pile.dpAll (h : Pile H vs ws) : DpAll K H vs (ws.map wD) := by
  unfold Pile at h
  induction h with
  | nil => exact .nil
  | cons r t ih => exact .cons r.dp ih
theorem Pile.dp (h : Pile H vs ws) (e : SqL K H a vs) : Dp K H (.ref a) (.list (ws.map wD)) := .lst e h.dpAll
/-- texts as worths have them -/
def Wok (w : W) : Prop := PyData.strOk w.1 = true
theorem wD_lay (h : Wok w) : (wD w).canLay0 = true := by
  unfold wD
  simp only [PyData.canLay0, PyData.canLayAll0]
  rw [show PyData.strOk w.1 = true from h]
  rfl
theorem wD_depth : (wD w).depth = 1 := by simp [wD, PyData.depth, PyData.depthAll]
theorem wDs_lay : ∀ ws : List W, (∀ w ∈ ws, Wok w) → PyData.canLayAll0 (ws.map wD) = true
  | [], _ => by simp [PyData.canLayAll0]
  | w :: ws, h => by
    rw [List.map_cons]
    simp only [PyData.canLayAll0]
    rw [wD_lay (h w List.mem_cons_self), wDs_lay ws (fun x hx => h x (List.mem_cons_of_mem _ hx))] <;> rfl
theorem wDs_depth : ∀ ws : List W, PyData.depthAll (ws.map wD) ≤ 1
  | [] => by simp [PyData.depthAll]
  | w :: ws => by
    have h := wDs_depth ws
    rw [List.map_cons]
    simp only [PyData.depthAll]
    rw [wD_depth]
    omega
theorem wD_shaped (h : Wok w) : SeqAt.shaped (wD w) = true := by
  unfold SeqAt.shaped
  rw [wD_lay h, wD_depth] <;> rfl
theorem wDs_shaped (h : ∀ w ∈ ws, Wok w) : SeqAt.shaped (.list (ws.map wD)) = true := by
  have h2 := wDs_depth ws
  have h3 : (PyData.list (ws.map wD)).depth ≤ 64 := by
    simp only [PyData.depth]
    omega
  show (PyData.canLay0 (.list (ws.map wD)) && decide ((PyData.list (ws.map wD)).depth ≤ 64)) = true
  rw [decide_eq_true h3, Bool.and_true]
  simp only [PyData.canLay0]
  exact wDs_lay ws h
theorem wD_eqv (w z : W) : PyData.eqv (wD w) (wD z) = decide (w = z) := by
  unfold wD
  simp only [PyData.eqv, PyData.eqvAll, Bool.and_true]
  obtain ⟨s, n⟩ := w
  obtain ⟨t, m⟩ := z
  rw [Bool.beq_eq_decide_eq, Bool.beq_eq_decide_eq]
  by_cases e1 : s = t
  · by_cases e2 : n = m
    · subst e1 e2; simp
    · simp [e1, e2]
  · simp [e1]
theorem any_wD (w : W) : ∀ ws : List W, ((ws.map wD).any fun z => PyData.eqv z (wD w)) = decide (w ∈ ws)
  | [] => rfl
  | z :: ws => by
    rw [List.map_cons, List.any_cons, any_wD w ws, wD_eqv]
    by_cases e : z = w
    · subst e; simp
    · rw [decide_eq_false e, Bool.false_or]
      exact decide_eq_decide.mpr ⟨fun h => List.mem_cons_of_mem _ h, fun h => (List.mem_cons.mp h).elim (fun q => absurd q.symm e) id⟩
theorem eq_self {d : PyData} (h : SeqAt.shaped d = true) : PyData.eqv d d = true := by
  refine PySem.SeqAt.eqv_refl d ?_
  have h2 : (d.canLay0 && decide (d.depth ≤ 64)) = true := h
  rw [Bool.and_eq_true] at h2
  exact h2.1
end
end Wq

/-! Whole numbers as texts. -/
namespace Wt
open PySem PySem.Spec PyProof.Rows L2 Wp Wq TL
def numT (i : Int) : Str := Str.ofString (toString i)
theorem numT_nat (m : Nat) : (numT (m : Int)).cps.toList = numL m := tl_num m
theorem numL_head : ∀ (m : Nat) (r : List Nat), numL m = 48 :: r → m = 0 ∧ r = [] := by
  intro m
  induction m using Nat.strongRecOn with
  | _ m ih =>
    intro r h
    by_cases c : m < 10
    · rw [numL_lt c] at h
      have h1 := (List.cons.inj h).1
      have h2 := (List.cons.inj h).2
      exact ⟨by omega, h2.symm⟩
    · rw [numL_step (by omega)] at h
      cases e : numL (m / 10) with
      | nil => exact absurd e (numL_ne _)
      | cons x s =>
        rw [e, List.cons_append] at h
        have hx := (List.cons.inj h).1
        subst hx
        have := (ih (m / 10) (by omega) s e).1
        omega
theorem numT_len {m : Nat} (h : m < 10 ^ 60) : 1 ≤ (numT (m : Int)).length ∧ (numT (m : Int)).length ≤ 60 := by
  have e : (numT (m : Int)).length = (numL m).length := by
    rw [← numT_nat]
    show (numT (m : Int)).cps.size = _
    rw [Array.length_toList]
  rw [e]
  refine ⟨?_, numL_len (by decide) h⟩
  cases q : numL m with
  | nil => exact absurd q (numL_ne m)
  | cons x s => exact Nat.succ_le_succ (Nat.zero_le _)
theorem int_back {m : Nat} (h : m < 10 ^ 60) : intText? (numT (m : Int)) = some (m : Int) := by
  have hl := numT_len h
  have z := PySem.intText_digits (x := numT (m : Int)) (by rw [numT_nat]; exact numL_digits m) (by rw [numT_nat]; exact numL_ne m) (by omega)
  rw [z, numT_nat, numL_val]
theorem numT_neg {m : Nat} (h : 0 < m) : tl (numT (-(m : Int))) = 45 :: numL m := by
  unfold numT
  rw [PyProof.Rows.toString_neg (by omega), show (0 - -(m : Int)) = (m : Int) by omega]
  show (PySem.Str.ofString ("-" ++ toString (m : Int))).cps.toList = _
  rw [PyProof.Rows.signs_ofString, String.toList_append, List.map_append, ← PyProof.Rows.signs_ofString (toString (m : Int))]
  rw [show List.map Char.toNat "-".toList = [45] by decide +kernel]
  exact congrArg (fun l => 45 :: l) (tl_num m)
theorem emp_app (x : Str) : Str.empty ++ x = x := ext_tl (by rw [tl_append] <;> rfl)
theorem numT_any {i : Int} (h : i.natAbs < 10 ^ 60) : (numT i).length ≤ 61 := by
  by_cases c : 0 ≤ i
  · have := (numT_len (m := i.natAbs) h).2
    rw [show ((i.natAbs : Nat) : Int) = i by omega] at this
    omega
  · rw [len_tl, show i = -((i.natAbs : Nat) : Int) by omega, numT_neg (by omega)]
    have := numL_len (k := 60) (by decide) h
    show (numL _).length + 1 ≤ 61
    omega
section
variable {σ : L2.St} {H : Hp} {Q : VK} {R : Str → Hp → Prop} {te t : TE} {ts : List TE} {acc : Str} {K : PySem.W.Frag} {w : World}
theorem js_nil (h : R acc H) : tJs [] acc σ H R := h
theorem js_cons (h : t σ H fun x H1 => ∃ y : Str, x = .str y ∧ (acc ++ y).length ≤ sizeLine ∧ tJs ts (acc ++ y) σ H1 R) : tJs (t :: ts) acc σ H R := h
theorem fmt_ (h : te σ H fun x H1 => (∃ y : Str, x = .str y ∧ y.length ≤ sizeLine ∧ Q (.str y) H1) ∨ ∃ i : Int, x = .int i ∧ i.natAbs.log2 < 1920 ∧ Q (.str (toString i)) H1) : tFmt te σ H Q := h
end
section
variable {σ : L2.St} {H : Hp} {Q : VK} {te ta to : TE} {r : V → List V → Hp → VK → Prop}
theorem m1 (h : to σ H fun x H1 => (∃ a, x = .str a) ∧ te σ H1 fun y H2 => r x [y] H2 Q) : tM1 r to te σ H Q := h
theorem m0 (h : to σ H fun x H1 => (∃ a, x = .str a) ∧ r x [] H1 Q) : tM0 r to σ H Q := h
theorem lcS {g : TG} {tt : TT} {vs : List Nat} (h : ta σ H fun x H1 => ∃ z, x = .str z ∧ ∀ D, H1 D = none → LoopC (Its z) g tt te vs σ D (fun H => Q (.ref D) H) (upd H1 D (.lst []))) : tLc (iStr ta) g tt te vs σ H Q := h
theorem loopCS {z : Str} {g : TG} {tt : TT} {vs : List Nat} {D : Addr} {Qd : Hp → Prop} (Pv : Nat → Hp → Prop) (h0 : Pv 0 H)
    (hs : ∀ i c H, z.cps[i]? = some c → Pv i H → g (.str ⟨#[c]⟩) (wipe σ vs) H fun σ2 H2 => wipe σ2 vs = wipe σ vs ∧ tt σ2 H2 fun b H3 =>
      if b = true then te σ2 H3 fun y H4 => ∃ acc, H4 D = some (.lst acc) ∧ acc.length < sizeLine ∧ Pv (i + 1) (upd H4 D (.lst (acc ++ [y]))) else Pv (i + 1) H3) (hd : ∀ H, Pv z.cps.size H → Qd H) : LoopC (Its z) g tt te vs σ D Qd H := by
  refine ⟨fun i m H => m = z.cps.size - i ∧ i ≤ z.cps.size ∧ Pv i H, ⟨z.cps.size, by simp, Nat.zero_le _, h0⟩, ?_⟩
  rintro i m H ⟨rfl, hi, p⟩
  by_cases hlt : i < z.cps.size
  · refine .inr ⟨hlt, Pv (i + 1), fun H' p' => ⟨z.cps.size - (i + 1), by omega, rfl, hlt, p'⟩, fun x H' y => ?_⟩
    obtain ⟨e, c, hc, ex⟩ := y
    subst e
    subst ex
    exact hs i c _ hc p
  · have e : i = z.cps.size := by omega
    subst e
    exact .inl ⟨Nat.le_refl _, hd H p⟩
end
theorem log_ok {n : Nat} (h : n < 10 ^ 60) : n.log2 < 1920 := by
  by_cases e : n = 0
  · subst e; decide
  · rw [Nat.log2_lt e]
    exact Nat.lt_of_lt_of_le h (by decide)
end Wt

namespace K03
open PySem PySem.Spec PyProof.Rows L2 Wp Wq
/-! ### the text by places -/
def topS (i : Nat) : Stmt := PySem.Challenge.pw_manygoings_k03_worths_and_piles_written.main.body.getD i (.Pass ⟨0, 0, 0, 0⟩)
abbrev s_show_worth : Stmt := topS 8
abbrev s_show_pile : Stmt := topS 9
abbrev s_check_text : Stmt := topS 10
abbrev s_read_number : Stmt := topS 11
abbrev s_read_signed : Stmt := topS 12
abbrev s_read_worth : Stmt := topS 13
abbrev s_read_pile : Stmt := topS 14
abbrev s_cell_at : Stmt := topS 16
abbrev s_bag : Stmt := topS 17
abbrev s_draw : Stmt := topS 18
abbrev s_number : Stmt := topS 19
abbrev s_whole : Stmt := topS 20
abbrev s_worth : Stmt := topS 21
abbrev s_same : Stmt := topS 22
abbrev s_same_pile : Stmt := topS 23
abbrev s_written : Stmt := topS 24
abbrev s_pile_good : Stmt := topS 25
abbrev s_law : Stmt := topS 26
theorem sc_show_worth : FnScope ["worth", "word", "number"] ["worth"] (defScope s_show_worth) := ⟨rfl, rfl, rfl, by decide +kernel, rfl, by decide +kernel, by decide +kernel⟩
theorem sc_show_pile : FnScope ["worths", "worth"] ["worths"] (defScope s_show_pile) := ⟨rfl, rfl, rfl, by decide +kernel, rfl, by decide +kernel, by decide +kernel⟩
theorem sc_check_text : FnScope ["text"] ["text"] (defScope s_check_text) := ⟨rfl, rfl, rfl, by decide +kernel, rfl, by decide +kernel, by decide +kernel⟩
theorem sc_read_number : FnScope ["text", "sign"] ["text"] (defScope s_read_number) := ⟨rfl, rfl, rfl, by decide +kernel, rfl, by decide +kernel, by decide +kernel⟩
theorem sc_read_signed : FnScope ["text", "number"] ["text"] (defScope s_read_signed) := ⟨rfl, rfl, rfl, by decide +kernel, rfl, by decide +kernel, by decide +kernel⟩
theorem sc_read_worth : FnScope ["text", "sign"] ["text"] (defScope s_read_worth) := ⟨rfl, rfl, rfl, by decide +kernel, rfl, by decide +kernel, by decide +kernel⟩
theorem sc_read_pile : FnScope ["text", "part"] ["text"] (defScope s_read_pile) := ⟨rfl, rfl, rfl, by decide +kernel, rfl, by decide +kernel, by decide +kernel⟩
theorem sc_cell_at : FnScope ["script", "k"] ["script", "k"] (defScope s_cell_at) := ⟨rfl, rfl, rfl, by decide +kernel, rfl, by decide +kernel, by decide +kernel⟩
theorem sc_bag : FnScope ["cell", "place"] ["cell", "place"] (defScope s_bag) := ⟨rfl, rfl, rfl, by decide +kernel, rfl, by decide +kernel, by decide +kernel⟩
theorem sc_draw : FnScope ["bag", "many", "found", "mixed"] ["bag", "many"] (defScope s_draw) := ⟨rfl, rfl, rfl, by decide +kernel, rfl, by decide +kernel, by decide +kernel⟩
theorem sc_number : FnScope ["bag", "way", "bound", "found", "k"] ["bag"] (defScope s_number) := ⟨rfl, rfl, rfl, by decide +kernel, rfl, by decide +kernel, by decide +kernel⟩
theorem sc_whole : FnScope ["found"] ["found"] (defScope s_whole) := ⟨rfl, rfl, rfl, by decide +kernel, rfl, by decide +kernel, by decide +kernel⟩
theorem sc_worth : FnScope ["bag", "word", "below", "number"] ["bag"] (defScope s_worth) := ⟨rfl, rfl, rfl, by decide +kernel, rfl, by decide +kernel, by decide +kernel⟩
theorem sc_same : FnScope ["found", "due"] ["found", "due"] (defScope s_same) := ⟨rfl, rfl, rfl, by decide +kernel, rfl, by decide +kernel, by decide +kernel⟩
theorem sc_same_pile : FnScope ["found", "due", "k"] ["found", "due"] (defScope s_same_pile) := ⟨rfl, rfl, rfl, by decide +kernel, rfl, by decide +kernel, by decide +kernel⟩
theorem sc_written : FnScope ["worth", "word", "number"] ["worth"] (defScope s_written) := ⟨rfl, rfl, rfl, by decide +kernel, rfl, by decide +kernel, by decide +kernel⟩
theorem sc_pile_good : FnScope ["pile", "due", "worth", "handed", "text", "found"] ["pile"] (defScope s_pile_good) := ⟨rfl, rfl, rfl, by decide +kernel, rfl, by decide +kernel, by decide +kernel⟩
theorem sc_law : FnScope ["script", "pile", "bag", "k", "j", "worth", "text", "first", "behind"] ["script"] (defScope s_law) := ⟨rfl, rfl, rfl, by decide +kernel, rfl, by decide +kernel, by decide +kernel⟩
/-! ### the facts of the top -/
structure Txt (P : Program) (w : World) (K : PySem.W.Frag) (mg : Str → Option Value) where
  f_show_worth : Addr
  fd_show_worth : FuncData
  F_show_worth : Fun K "show_worth" "show_worth" s_show_worth f_show_worth fd_show_worth
  b_show_worth : Binds K fd_show_worth ["worth"] []
  g_show_worth : mg "show_worth" = some (.ref f_show_worth)
  f_show_pile : Addr
  fd_show_pile : FuncData
  F_show_pile : Fun K "show_pile" "show_pile" s_show_pile f_show_pile fd_show_pile
  b_show_pile : Binds K fd_show_pile ["worths"] []
  g_show_pile : mg "show_pile" = some (.ref f_show_pile)
  f_check_text : Addr
  fd_check_text : FuncData
  F_check_text : Fun K "check_text" "check_text" s_check_text f_check_text fd_check_text
  b_check_text : Binds K fd_check_text ["text"] []
  g_check_text : mg "check_text" = some (.ref f_check_text)
  f_read_number : Addr
  fd_read_number : FuncData
  F_read_number : Fun K "read_number" "read_number" s_read_number f_read_number fd_read_number
  b_read_number : Binds K fd_read_number ["text"] []
  g_read_number : mg "read_number" = some (.ref f_read_number)
  f_read_signed : Addr
  fd_read_signed : FuncData
  F_read_signed : Fun K "read_signed" "read_signed" s_read_signed f_read_signed fd_read_signed
  b_read_signed : Binds K fd_read_signed ["text"] []
  g_read_signed : mg "read_signed" = some (.ref f_read_signed)
  f_read_worth : Addr
  fd_read_worth : FuncData
  F_read_worth : Fun K "read_worth" "read_worth" s_read_worth f_read_worth fd_read_worth
  b_read_worth : Binds K fd_read_worth ["text"] []
  g_read_worth : mg "read_worth" = some (.ref f_read_worth)
  f_read_pile : Addr
  fd_read_pile : FuncData
  F_read_pile : Fun K "read_pile" "read_pile" s_read_pile f_read_pile fd_read_pile
  b_read_pile : Binds K fd_read_pile ["text"] []
  g_read_pile : mg "read_pile" = some (.ref f_read_pile)
  f_cell_at : Addr
  fd_cell_at : FuncData
  F_cell_at : Fun K "_law_cell_at" "_law_cell_at" s_cell_at f_cell_at fd_cell_at
  b_cell_at : Binds K fd_cell_at ["script", "k"] []
  g_cell_at : mg "_law_cell_at" = some (.ref f_cell_at)
  f_bag : Addr
  fd_bag : FuncData
  F_bag : Fun K "_law_bag" "_law_bag" s_bag f_bag fd_bag
  b_bag : Binds K fd_bag ["cell", "place"] []
  g_bag : mg "_law_bag" = some (.ref f_bag)
  f_draw : Addr
  fd_draw : FuncData
  F_draw : Fun K "_law_draw" "_law_draw" s_draw f_draw fd_draw
  b_draw : Binds K fd_draw ["bag", "many"] []
  g_draw : mg "_law_draw" = some (.ref f_draw)
  f_number : Addr
  fd_number : FuncData
  F_number : Fun K "_law_number" "_law_number" s_number f_number fd_number
  b_number : Binds K fd_number ["bag"] []
  g_number : mg "_law_number" = some (.ref f_number)
  f_whole : Addr
  fd_whole : FuncData
  F_whole : Fun K "_law_whole" "_law_whole" s_whole f_whole fd_whole
  b_whole : Binds K fd_whole ["found"] []
  g_whole : mg "_law_whole" = some (.ref f_whole)
  f_worth : Addr
  fd_worth : FuncData
  F_worth : Fun K "_law_worth" "_law_worth" s_worth f_worth fd_worth
  b_worth : Binds K fd_worth ["bag"] []
  g_worth : mg "_law_worth" = some (.ref f_worth)
  f_same : Addr
  fd_same : FuncData
  F_same : Fun K "_law_same" "_law_same" s_same f_same fd_same
  b_same : Binds K fd_same ["found", "due"] []
  g_same : mg "_law_same" = some (.ref f_same)
  f_same_pile : Addr
  fd_same_pile : FuncData
  F_same_pile : Fun K "_law_same_pile" "_law_same_pile" s_same_pile f_same_pile fd_same_pile
  b_same_pile : Binds K fd_same_pile ["found", "due"] []
  g_same_pile : mg "_law_same_pile" = some (.ref f_same_pile)
  f_written : Addr
  fd_written : FuncData
  F_written : Fun K "_law_written" "_law_written" s_written f_written fd_written
  b_written : Binds K fd_written ["worth"] []
  g_written : mg "_law_written" = some (.ref f_written)
  f_pile_good : Addr
  fd_pile_good : FuncData
  F_pile_good : Fun K "_law_pile_good" "_law_pile_good" s_pile_good f_pile_good fd_pile_good
  b_pile_good : Binds K fd_pile_good ["pile"] []
  g_pile_good : mg "_law_pile_good" = some (.ref f_pile_good)
  f_law : Addr
  fd_law : FuncData
  F_law : Fun K "law" "law" s_law f_law fd_law
  b_law : Binds K fd_law ["script"] []
  g_law : mg "law" = some (.ref f_law)
  n_all : mg "all" = none
  n_bool : mg "bool" = none
  n_int : mg "int" = none
  n_isinstance : mg "isinstance" = none
  n_len : mg "len" = none
  n_list : mg "list" = none
  n_max : mg "max" = none
  n_min : mg "min" = none
  n_range : mg "range" = none
  n_str : mg "str" = none
  n_tuple : mg "tuple" = none
  n_type : mg "type" = none
  d_SIGNS : Addr
  es_SIGNS : Array DictEntry
  no_SIGNS : Nat
  c_SIGNS : mg "SIGNS" = some (.ref d_SIGNS)
  k_SIGNS : KDict K w d_SIGNS es_SIGNS no_SIGNS
  w_SIGNS : ∀ z : Str, (∃ v u, seek z [("num", .str ""), ("at", .str "@"), ("box", .str "b"), ("go", .str "g")] = some v ∧ PySem.W.nsIn K d_SIGNS z = some (some u) ∧ RelV v u) ∨ (seek z [("num", .str ""), ("at", .str "@"), ("box", .str "b"), ("go", .str "g")] = none ∧ PySem.W.nsIn K d_SIGNS z = some none)
  d_WORDS : Addr
  es_WORDS : Array DictEntry
  no_WORDS : Nat
  c_WORDS : mg "WORDS" = some (.ref d_WORDS)
  k_WORDS : KDict K w d_WORDS es_WORDS no_WORDS
  w_WORDS : ∀ z : Str, (∃ v u, seek z [("@", .str "at"), ("b", .str "box"), ("g", .str "go")] = some v ∧ PySem.W.nsIn K d_WORDS z = some (some u) ∧ RelV v u) ∨ (seek z [("@", .str "at"), ("b", .str "box"), ("g", .str "go")] = none ∧ PySem.W.nsIn K d_WORDS z = some none)
  t_FIGURES : Tok
  c_FIGURES : mg "FIGURES" = some (.str "0123456789" t_FIGURES)
  t_MOST_FIGURES : Tok
  c_MOST_FIGURES : mg "MOST_FIGURES" = some (.int 60 t_MOST_FIGURES)

local macro_rules | `(tactic| walk_at "ne") => `(tactic| first
  | assumption
  | (refine Ne.symm ?_; assumption)
  | exact ne_of_none (by assumption) (by assumption)
  | exact (ne_of_none (by assumption) (by assumption)).symm
  | exact ne_of (by assumption) (by assumption) (by intro q; cases q))
local macro_rules | `(tactic| walk_at "hp") => `(tactic| first
  | assumption
  | exact upd_same
  | (refine (upd_ne ?_).trans ?_; (walk_at "ne"); (walk_at "hp")))
local macro_rules | `(tactic| walk_at "sq") => `(tactic| first
  | assumption
  | exact SqL.of (by walk_at "hp")
  | exact SqT.of (by walk_at "hp"))
local macro_rules | `(tactic| walk_at "kind") => `(tactic| first
  | assumption
  | exact Kind.int _
  | exact Kind.str _
  | exact Kind.bl _
  | exact Kind.non
  | exact Kind.tup (by walk_at "hp")
  | exact Kind.lst (by walk_at "hp")
  | exact Kind.dK (by walk_at "hp"))
local macro_rules | `(tactic| walk_at "w1") => `(tactic| first
  | (with_reducible refine Wp.seq ?_)
  | (with_reducible refine Wp.nx_mk ?_)
  | (with_reducible refine Wp.rt_mk ?_)
  | (with_reducible refine Wp.bk_mk ?_)
  | (with_reducible refine Wp.ct_mk ?_)
  | (with_reducible refine Wp.next ?_)
  | (with_reducible refine Wp.asg ?_)
  | ((with_reducible refine' Wp.gname ?e ?_); (case e => (try dsimp only [List.set, L2.wipe, List.map_cons, List.map_nil]); (try exact rfl)))
  | (with_reducible refine Wp.gsub ?_)
  | (with_reducible refine Wp.ret ?_)
  | (with_reducible refine Wp.retN ?_)
  | (with_reducible refine Wp.drop ?_)
  | (with_reducible refine Wp.dput ?_)
  | (with_reducible refine Wp.ifs ?_)
  | ((with_reducible refine' Wp.var ?h ?_); (case h => exact rfl))
  | (with_reducible refine Wp.con ?_)
  | (with_reducible refine Wp.op ?_)
  | (with_reducible refine Wp.un ?_)
  | (with_reducible refine Wp.cb ?_)
  | (with_reducible refine Wp.anil ?_)
  | (with_reducible refine Wp.acons ?_)
  | (with_reducible refine Wp.call ?_)
  | (with_reducible refine Wp.test ?_)
  | (with_reducible refine Wp.tb_ ?_)
  | (with_reducible refine Wp.and_ ?_)
  | (with_reducible refine Wp.or_ ?_)
  | (with_reducible refine Wp.not_ ?_)
  | (with_reducible refine Wp.andV ?_)
  | (with_reducible refine Wp.orV ?_)
  | (with_reducible refine Wp.notV ?_)
  | (with_reducible refine Wp.rI0_ ?_)
  | (with_reducible refine Wp.rU_ ?_)
  | ((with_reducible refine Wp.rEq_ ?k ?_); (case k => exact rfl))
  | ((with_reducible refine Wp.rNe_ ?k ?_); (case k => exact rfl))
  | (with_reducible refine Wp.gcons ?_)
  | (with_reducible refine Wp.gnil ?_)
  | ((with_reducible refine' Wp.gtup ?h ?e ?_); (case h => walk_at "sq"); (case e => exact rfl))
  | (with_reducible refine Wp.sl ?_)
  | (with_reducible refine Wp.part ?_)
  | (with_reducible refine Wp.nopart ?_)
  | (with_reducible refine Wp.ifE ?_)
  | (with_reducible refine Wp.bm0 ?_)
  | (with_reducible refine Wp.bm ?_)
  | (with_reducible refine Wp.lcR1 ?_)
  | (with_reducible refine Wp.lcR2 ?_)
  | (with_reducible refine Wp.lcL ?_)
  | (with_reducible refine Wp.chain ?_)
  | (with_reducible refine Wp.lc2V ?_)
  | (with_reducible refine Wp.piL ?_)
  | (with_reducible refine Wp.yes ?_)
  | (with_reducible refine Wp.dinI ?_)
  | (with_reducible refine Wp.dninI ?_)
  | (with_reducible refine Wp.dget ?_)
  | ((with_reducible refine' ⟨?k, ?_⟩); (case k => show L2.wipe _ _ = L2.wipe _ _; exact rfl))
  | (with_reducible refine Wp.forR1 ?_)
  | (with_reducible refine Wp.forR2 ?_)
  | (with_reducible refine Wp.forL ?_)
  | (with_reducible refine Wp.forT ?_)
  | ((with_reducible refine' ⟨?k, ?_⟩); (case k => exact Wp.tyvL (by walk_at "hp")))
  | ((with_reducible refine' Wp.rev_ ?k ?_); (case k => walk_at "hp"))
  | ((with_reducible refine' Wp.isi ?k ?h ?_); (case k => walk_at "kind"); (case h => decide))
  | ((with_reducible refine' Wp.typ ?k ?_); (case k => walk_at "kind"))
  | (with_reducible refine Wp.slS ?k ?_; (case k => assumption))
  | (with_reducible refine iteT ?_)
  | (with_reducible refine iteF ?_)
  | (with_reducible refine Wz.par ?_)
  | (with_reducible refine Wz.forN ?_)
  | (with_reducible refine Wz.dcL ?_)
  | (with_reducible refine Wz.forZ ?_)
  | (with_reducible refine Wz.lcR3 ?_)
  | (with_reducible refine Wc.revL ?_)
  | (with_reducible refine Wd.nm ?_)
  | (with_reducible refine Wd.nget ?_)
  | ((with_reducible refine Wd.tnew ?_); intro p hp)
  | (with_reducible refine Wd.pikn ?_)
  | (with_reducible refine Wt.m1 ?_)
  | (with_reducible refine Wt.m0 ?_)
  | ((with_reducible refine' ⟨?k, ?_⟩); (case k => show ∃ a, _ = V.str a; exact ⟨_, rfl⟩))
  | (with_reducible refine Wt.js_cons ?_)
  | (with_reducible refine Wt.fmt_ ?_)
  | (with_reducible refine Wp.pcons ?_)
  | (with_reducible refine Wp.pnil ?_)
  | ((with_reducible refine' Wp.iteBnT ?h ?_); (case h => show isB _ _ = false; decide))
  | ((with_reducible refine' Wp.iteBnF ?h ?_); (case h => show isB _ _ = true; decide))
  | ((with_reducible refine' Wp.iteBt ?h ?_); (case h => show isB _ _ = true; decide))
  | ((with_reducible refine' Wp.iteBf ?h ?_); (case h => show isB _ _ = false; decide))
  | (with_reducible refine Wp.iteT' ?_)
  | (with_reducible refine Wp.iteF' ?_)
  | (with_reducible refine Wp.rNT_ ?_)
  | ((with_reducible refine Wp.lst ?_))
  | ((with_reducible refine Wp.tup ?_))
  | ((with_reducible refine' Wp.ixL ?h ?e ?_); (case h => walk_at "sq"); (case e => exact rfl))
  | ((with_reducible refine' Wp.ixT ?h ?e ?_); (case h => walk_at "sq"); (case e => exact rfl))
  | ((with_reducible refine' Wp.setL ?h ?e ?_); (case h => walk_at "hp"); (case e => exact rfl))
  | ((with_reducible refine Wp.rI_ ?k ?_); (case k => first | (show (0:Int) < _; omega) | (show CPow _ _; refine' ⟨?_, ?_, ?_⟩ <;> omega) | (show CDiv _ _; refine' ⟨?_, ?_⟩ <;> omega) | (show CMul _ _; refine' Or.inl ⟨?_, ?_⟩ <;> omega) | (show CMul _ _; refine' Or.inr ⟨?_, ?_⟩ <;> first | omega | decide) | (show CDivW _ _; refine' wide_div (b := 240) ?_ ?_ ?_ ?_ <;> first | omega | decide)))
  | ((with_reducible refine ⟨?k, ?_⟩); (case k => first | exact Nat.zero_le _ | (exact Nat.le_of_ble_eq_true rfl)); intro p hp)
  | ((with_reducible refine' ⟨_, _, rfl, .inl ?k, ?_⟩); (case k => walk_at "sq"))
  | ((with_reducible refine' ⟨_, _, rfl, .inr ?k, ?_⟩); (case k => walk_at "sq"))
  | (with_reducible refine ⟨_, rfl, ?_⟩)
  | (with_reducible refine ⟨_, _, rfl, rfl, ?_⟩)
  | (with_reducible refine ⟨_, _, rfl, ?_⟩))
local macro_rules | `(tactic| walk_at "wp") => `(tactic| repeat (walk_at "w1"))

section
variable {P : Program} {w : World} {K : PySem.W.Frag} {mg : Str → Option Value} {base : Heap}
/-- a bag: three ints, the second below 2 ^ 62, the third at most n -/
def Bag (H : Hp) (b : Addr) (n : Nat) : Prop := ∃ x y z : Int, H b = some (.lst [.int x, .int y, .int z]) ∧ 0 ≤ y ∧ y < 4611686018427387904 ∧ 0 ≤ z ∧ z ≤ n
theorem Bag.mono {H : Hp} {b : Addr} {n m : Nat} (h : Bag H b n) (k : n ≤ m) : Bag H b m := by
  obtain ⟨x, y, z, h1, h2, h3, h4, h5⟩ := h
  exact ⟨x, y, z, h1, h2, h3, h4, by omega⟩
theorem Bag.ne_new {H : Hp} {b p : Addr} {n : Nat} (h : Bag H b n) (k : H p = none) : p ≠ b := by
  obtain ⟨x, y, z, h1, h⟩ := h
  exact (ne_of_none h1 k).symm
theorem Bag.keep {H H' : Hp} {b : Addr} {n : Nat} (h : Bag H b n) (k : Same H H') : Bag H' b n := by
  obtain ⟨x, y, z, h1, h⟩ := h
  exact ⟨x, y, z, k _ _ h1, h⟩
theorem Bag.upd {H : Hp} {b r : Addr} {n : Nat} {o : HO} (h : Bag H b n) (k : r ≠ b) : Bag (L2.upd H r o) b n := by
  obtain ⟨x, y, z, h1, h⟩ := h
  exact ⟨x, y, z, by rw [upd_ne k.symm]; exact h1, h⟩

def spCell (K : PySem.W.Frag) : Sp := fun vs H Q _ => ∃ (a : Addr) (ns : List Int) (k : Nat), vs = [.ref a, .int k] ∧ SqL K H a (ns.map V.int) ∧ ∀ v, Q (.int v) H
theorem ok_cell_at (T : Txt P w K mg) : FnOk P w K mg base CX0 1 T.f_cell_at T.fd_cell_at ["script", "k"] (spCell K) := by
  refine T.F_cell_at.ok sc_cell_at (fun vs H Q E h => ?_) (fun cdv A outer s H vs Q E hr h => ?_)
  · obtain ⟨a, ns, k, rfl, _⟩ := h
    rfl
  · obtain ⟨a, ns, k, rfl, hS, q⟩ := h
    refine ⟨_, (pss_cons (ps_if (pt_cmpR op_lt (pv 1) (pe_callB call_len_seq (by rfl) T.n_len (by decide +kernel) (pa_cons (pv 0) pa_nil)) (nomark _)) (pss_one (ps_ret (pe_ix ix_list (pv 0) (pv 1) (fun _ _ => rfl)))) pss_nil)
      (pss_one (ps_ret pe_int))), ?_⟩
    rw [show L2.start ["script", "k"] [.ref a, .int k] = [some (.ref a), some (.int k)] from rfl]
    try dsimp only [cxOf]
    walk_at "wp"
    refine ite_ (fun c => ?_) (fun c => ?_)
    · walk_at "wp"
      have hk : k < ns.length := by
        rw [List.length_map] at c
        omega
      refine ixL hS (atI_nat (v := .int ns[k]) ?_) ?_
      · rw [List.getElem?_map, List.getElem?_eq_getElem hk]
        rfl
      · exact q _
    · walk_at "wp"
      exact q _

def spBag : Sp := fun vs H Q _ => ∃ (c : Int) (p : Nat), vs = [.int c, .int p] ∧ p ≤ 100 ∧ ∀ b H', H b = none → Bag H' b 0 → Same H H' → Q (.ref b) H'
theorem ok_bag (T : Txt P w K mg) : FnOk P w K mg base CX0 1 T.f_bag T.fd_bag ["cell", "place"] spBag := by
  refine T.F_bag.ok sc_bag (fun vs H Q E h => ?_) (fun cdv A outer s H vs Q E hr h => ?_)
  · obtain ⟨c, p, rfl, _⟩ := h
    rfl
  · obtain ⟨c, p, rfl, hp, q⟩ := h
    refine ⟨_, (pss_one (ps_ret (pe_lst (pa_cons (pe_callB (call_max2 rfl) (by rfl) T.n_max (by decide +kernel) (pa_cons pe_int (pa_cons (pe_op op_sub (pv 0) (pe_op op_pow pe_int pe_int)) pa_nil))) (pa_cons (pe_op op_add (pe_op op_mod (pv 0) pe_int) (pe_op op_mul pe_int (pv 1))) (pa_cons pe_int pa_nil)))))), ?_⟩
    rw [show L2.start ["cell", "place"] [.int c, .int p] = [some (.int c), some (.int p)] from rfl]
    try dsimp only [cxOf]
    walk_at "wp"
    refine q _ _ ‹_› ⟨_, _, _, upd_same, ?_, ?_, by omega, by omega⟩ (same_new ‹_›)
    · have := Int.emod_nonneg c (show (2305843009213693951 : Int) ≠ 0 by decide)
      omega
    · have := Int.emod_lt_of_pos c (show (0 : Int) < 2305843009213693951 by decide)
      omega

def spDraw : Sp := fun vs H Q _ => ∃ (b : Addr) (n : Nat) (m : Int), vs = [.ref b, .int m] ∧ Bag H b n ∧ n < 1000000 ∧ 0 < m ∧ m < 2 ^ 240 ∧ ∀ v H', 0 ≤ v → v < m → Bag H' b (n + 1) → Kp b H H' → Q (.int v) H'
theorem ok_draw (T : Txt P w K mg) : FnOk P w K mg base CX0 1 T.f_draw T.fd_draw ["bag", "many"] spDraw := by
  refine T.F_draw.ok sc_draw (fun vs H Q E h => ?_) (fun cdv A outer s H vs Q E hr h => ?_)
  · obtain ⟨b, n, m, rfl, _⟩ := h
    rfl
  · obtain ⟨b, n, m, rfl, ⟨x, y, z, hb, hy, hy2, hz, hz2⟩, hn, hm, hm2, k⟩ := h
    refine ⟨_, (pss_cons (ps_if (pt_cmpR op_gt (pe_ix ix_list (pv 0) pe_int (fun _ _ => rfl)) pe_int (nomark _)) (pss_cons (ps_set (i := 2) sc_draw.nd rfl (.inl rfl) (pe_op op_mod (pe_ix ix_list (pv 0) pe_int (fun _ _ => rfl)) (pv 1)))
      (pss_cons (ps_asg (pe_op op_fdivW (pe_ix ix_list (pv 0) pe_int (fun _ _ => rfl)) (pv 1)) (pg_sub (pv 0) pe_int set_list))
      (pss_one (ps_ret (pv 2))))) pss_nil)
      (pss_cons (ps_asg (pe_op op_add (pe_ix ix_list (pv 0) pe_int (fun _ _ => rfl)) pe_int) (pg_sub (pv 0) pe_int set_list))
      (pss_cons (ps_set (i := 3) sc_draw.nd rfl (.inl rfl) (pe_op op_mod (pe_op op_pow (pe_op op_add (pe_ix ix_list (pv 0) pe_int (fun _ _ => rfl)) (pe_op op_mul pe_int (pe_ix ix_list (pv 0) pe_int (fun _ _ => rfl)))) pe_int) pe_int))
      (pss_cons (ps_set (i := 3) sc_draw.nd rfl (.inl rfl) (pe_op op_mod (pe_op op_pow (pe_op op_add (pv 3) (pe_op op_mul pe_int (pe_ix ix_list (pv 0) pe_int (fun _ _ => rfl)))) pe_int) pe_int))
      (pss_one (ps_ret (pe_op op_mod (pe_op op_fdiv (pv 3) pe_int) (pv 1)))))))), ?_⟩
    rw [show L2.start ["bag", "many", "found", "mixed"] [.ref b, .int m] = [some (.ref b), some (.int m), none, none] from rfl]
    try dsimp only [cxOf]
    walk_at "wp"
    refine ite_ (fun c => ?_) (fun c => ?_)
    · walk_at "wp"
      refine k _ _ ?_ ?_ ⟨_, _, _, upd_same, hy, hy2, hz, by omega⟩ Kp.at
      · exact Int.emod_nonneg _ (by omega)
      · exact Int.emod_lt_of_pos _ hm
    · walk_at "wp"
      refine k _ _ ?_ ?_ ⟨_, _, _, upd_same, hy, hy2, by omega, by omega⟩ Kp.at
      · exact Int.emod_nonneg _ (by omega)
      · exact Int.emod_lt_of_pos _ hm

def spNumber : Sp := fun vs H Q _ => ∃ (b : Addr) (n : Nat), vs = [.ref b] ∧ Bag H b n ∧ n < 900000 ∧ ∀ v H', 0 ≤ v → v < 10 ^ 60 → Bag H' b (n + 7) → Kp b H H' → Q (.int v) H'
theorem ok_number (T : Txt P w K mg) : FnOk P w K mg base CX0 2 T.f_number T.fd_number ["bag"] spNumber := by
  have G_draw := ok_draw (base := base) T
  refine T.F_number.ok sc_number (fun vs H Q E h => ?_) (fun cdv A outer s H vs Q E hr h => ?_)
  · obtain ⟨b, n, rfl, _⟩ := h
    rfl
  · obtain ⟨b, n, rfl, hb, hn, k⟩ := h
    refine ⟨_, (pss_cons (ps_set (i := 1) sc_number.nd rfl (.inl rfl) (pe_call G_draw (hr.mono (by decide)) (by rfl) T.g_draw T.F_draw.kp T.b_draw .nil pass0 (pa_cons (pv 0) (pa_cons pe_int pa_nil))))
      (pss_cons (ps_if (pt_cmpR op_lt (pv 1) pe_int (nomark _)) (pss_one (ps_ret (pe_call G_draw (hr.mono (by decide)) (by rfl) T.g_draw T.F_draw.kp T.b_draw .nil pass0 (pa_cons (pv 0) (pa_cons (pe_ix ix_list (pe_lst (pa_cons pe_int (pa_cons pe_int pa_nil))) (pv 1) (fun _ _ => rfl)) pa_nil))))) pss_nil)
      (pss_cons (ps_set (i := 2) sc_number.nd rfl (.inl rfl) (pe_ix ix_list (pe_lst (pa_cons pe_int (pa_cons pe_int (pa_cons (pe_op op_pow pe_int pe_int) (pa_cons (pe_op op_pow pe_int pe_int) (pa_cons (pe_op op_pow pe_int pe_int) (pa_cons (pe_op op_pow pe_int pe_int) (pa_cons (pe_op op_pow pe_int pe_int) pa_nil)))))))) (pe_call G_draw (hr.mono (by decide)) (by rfl) T.g_draw T.F_draw.kp T.b_draw .nil pass0 (pa_cons (pv 0) (pa_cons pe_int pa_nil))) (fun _ _ => rfl)))
      (pss_cons (ps_set (i := 3) sc_number.nd rfl (.inl rfl) pe_int)
      (pss_cons (ps_for PassesOwn.never rfl (pi_range1 (by rfl) T.n_range (pa_cons pe_int pa_nil)) (pg_name (i := 4) sc_number.nd rfl (.inl rfl)) (pss_one (ps_set (i := 3) sc_number.nd rfl (.inl rfl) (pe_op op_add (pe_op op_mul (pv 3) (pe_op op_pow pe_int pe_int)) (pe_call G_draw (hr.mono (by decide)) (by rfl) T.g_draw T.F_draw.kp T.b_draw .nil pass0 (pa_cons (pv 0) (pa_cons (pe_op op_pow pe_int pe_int) pa_nil)))))))
      (pss_one (ps_ret (pe_op op_mod (pv 3) (pv 2))))))))), ?_⟩
    rw [show L2.start ["bag", "way", "bound", "found", "k"] [.ref b] = [some (.ref b), none, none, none, none] from rfl]
    try dsimp only [cxOf]
    walk_at "wp"
    refine ⟨b, n, _, rfl, hb, by omega, by decide, by decide, fun way H1 w0 w1 hb1 k1 => ?_⟩
    walk_at "wp"
    refine ite_ (fun c => ?_) (fun c => ?_)
    · walk_at "wp"
      have cc : way = 0 ∨ way = 1 := by omega
      rcases cc with rfl | rfl
      · refine ixL (SqL.of upd_same) rfl ?_
        walk_at "wp"
        refine ⟨b, n + 1, _, rfl, hb1.keep (same_new ‹_›), by omega, by decide, by decide, fun v H2 v0 v1 hb2 k2 => ?_⟩
        walk_at "wp"
        exact k _ _ v0 (Int.lt_trans v1 (by decide)) (hb2.mono (by omega)) (Kp.trans k1 (Kp.trans (Kp.new ‹_›) k2))
      · refine ixL (SqL.of upd_same) rfl ?_
        walk_at "wp"
        refine ⟨b, n + 1, _, rfl, hb1.keep (same_new ‹_›), by omega, by decide, by decide, fun v H2 v0 v1 hb2 k2 => ?_⟩
        walk_at "wp"
        exact k _ _ v0 (Int.lt_trans v1 (by decide)) (hb2.mono (by omega)) (Kp.trans k1 (Kp.trans (Kp.new ‹_›) k2))
    · walk_at "wp"
      rename_i p hp
      refine ⟨b, n + 1, _, rfl, hb1.keep (same_new hp), by omega, by decide, by decide, fun at_ H2 v0 v1 hb2 k2 => ?_⟩
      have hpl : H2 p = _ := k2 _ _ (hb1.ne_new hp) upd_same
      obtain ⟨bd, hbd, bd0, bd1⟩ : ∃ bd : Int, atI [V.int 10, V.int 100, V.int (10 ^ Int.toNat 5), V.int (10 ^ Int.toNat 18), V.int (10 ^ Int.toNat 30), V.int (10 ^ Int.toNat 59), V.int (10 ^ Int.toNat 60)] at_ = some (V.int bd) ∧ 0 < bd ∧ bd ≤ 10 ^ 60 := by
        have cc : at_ = 0 ∨ at_ = 1 ∨ at_ = 2 ∨ at_ = 3 ∨ at_ = 4 ∨ at_ = 5 ∨ at_ = 6 := by omega
        rcases cc with rfl | rfl | rfl | rfl | rfl | rfl | rfl <;> exact ⟨_, rfl, by decide, by decide⟩
      refine ixL (SqL.of hpl) hbd ?_
      walk_at "wp"
      refine ⟨by decide, by decide, loopR (fun i σ H' => ∃ (f : Int) (v : Option V), σ = [some (.ref b), some (.int way), some (.int bd), some (.int f), v] ∧ Bag H' b (n + 2 + i) ∧ Kp b H2 H') ⟨0, none, rfl, hb2, Kp.refl _ _⟩ ?_ ?_⟩
      · rintro i σ H3 hi ⟨f, v, rfl, hb3, k3⟩
        have hi5 : i < 5 := hi
        walk_at "wp"
        refine ⟨b, n + 2 + i, _, rfl, hb3, by omega, by decide, by decide, fun v4 H4 v0 v1 hb4 k4 => ?_⟩
        walk_at "wp"
        exact ⟨hb4, Kp.trans k3 k4⟩
      · rintro σ H3 ⟨f, v, rfl, hb3, k3⟩
        walk_at "wp"
        exact k _ _ (Int.emod_nonneg _ (by omega)) (Int.lt_of_lt_of_le (Int.emod_lt_of_pos _ bd0) bd1) hb3 (Kp.trans k1 (Kp.trans (Kp.new hp) (Kp.trans k2 k3)))

def spWhole : Sp := fun vs H Q _ => ∃ (v : V) (T : String), vs = [v] ∧ Kind H v T ∧ Q (.bl (decide (T = "int"))) H
theorem ok_whole (T : Txt P w K mg) : FnOk P w K mg base CX0 1 T.f_whole T.fd_whole ["found"] spWhole := by
  refine T.F_whole.ok sc_whole (fun vs H Q E h => ?_) (fun cdv A outer s H vs Q E hr h => ?_)
  · obtain ⟨v, ty, rfl, _⟩ := h
    rfl
  · obtain ⟨v, ty, rfl, hk, q⟩ := h
    refine ⟨_, (pss_one (ps_ret (pe_and (pe_callB call_isi (by rfl) T.n_isinstance (by decide +kernel) (pa_cons (pv 0) (pa_cons (pe_bltn (v := .ty "int") (by rfl) T.n_int (by decide +kernel) rfl) pa_nil))) (pe_one (pe_not (pe_callB call_isi (by rfl) T.n_isinstance (by decide +kernel) (pa_cons (pv 0) (pa_cons (pe_bltn (v := .ty "bool") (by rfl) T.n_bool (by decide +kernel) rfl) pa_nil)))))))), ?_⟩
    rw [show L2.start ["found"] [v] = [some v] from rfl]
    try dsimp only [cxOf]
    walk_at "wp"
    by_cases e1 : ty = "int"
    · subst e1
      walk_at "wp"
      exact q
    · rw [decide_eq_false e1] at q
      by_cases e2 : ty = "bool"
      · subst e2
        walk_at "wp"
        exact q
      · rw [show isB ty "int" = false by unfold isB; rw [decide_eq_false e1, decide_eq_false e2] <;> rfl]
        walk_at "wp"
        exact q

def spSame : Sp := fun vs H Q _ => ∃ (v u : V) (z : W), vs = [v, u] ∧ IsW H v z ∧ IsW H u z ∧ Wok z ∧ Q (.bl true) H
theorem ok_same (T : Txt P w K mg) : FnOk P w K mg base CX0 2 T.f_same T.fd_same ["found", "due"] spSame := by
  have G_whole := ok_whole (base := base) T
  refine T.F_same.ok sc_same (fun vs H Q E h => ?_) (fun cdv A outer s H vs Q E hr h => ?_)
  · obtain ⟨v, u, z, rfl, _⟩ := h
    rfl
  · obtain ⟨v, u, z, rfl, hv, hu, hz, q⟩ := h
    have dv := hv.dp (K := K)
    have du := hu.dp (K := K)
    obtain ⟨t, rfl, ht⟩ := hv
    refine ⟨_, (pss_cons (ps_if (PW.pt (pw_or (pt_not (pt_val (pe_callB call_isi (by rfl) T.n_isinstance (by decide +kernel) (pa_cons (pv 0) (pa_cons (pe_bltn (v := .ty "tuple") (by rfl) T.n_tuple (by decide +kernel) rfl) pa_nil))))) (pw_or1 (pt_cmpR op_ne (pe_callB call_len_seq (by rfl) T.n_len (by decide +kernel) (pa_cons (pv 0) pa_nil)) pe_int (nomark _))))) (pss_one (ps_ret pe_bl)) pss_nil)
      (pss_one (ps_ret (pe_and (pe_callB call_isi (by rfl) T.n_isinstance (by decide +kernel) (pa_cons (pe_ix ix_tup (pv 0) pe_int (fun _ _ => rfl)) (pa_cons (pe_bltn (v := .ty "str") (by rfl) T.n_str (by decide +kernel) rfl) pa_nil))) (pe_and (pe_call G_whole (hr.mono (by decide)) (by rfl) T.g_whole T.F_whole.kp T.b_whole .nil pass0 (pa_cons (pe_ix ix_tup (pv 0) pe_int (fun _ _ => rfl)) pa_nil)) (pe_one (pe_cmpR (op_eqD hr.units) (pv 0) (pv 1) (nomark _)))))))), ?_⟩
    rw [show L2.start ["found", "due"] [.ref t, u] = [some (.ref t), some u] from rfl]
    try dsimp only [cxOf]
    walk_at "wp"
    refine iteN (fun e => absurd rfl e) (fun _ => ?_)
    walk_at "wp"
    refine ⟨_, _, rfl, .int _, ?_⟩
    walk_at "wp"
    refine ite_ (fun _ => ?_) (fun e => absurd rfl e)
    walk_at "wp"
    exact eqD dv du (wD_shaped hz) (Wq.eq_self (wD_shaped hz)) q

def spSamePile (K : PySem.W.Frag) : Sp := fun vs H Q _ => ∃ (a b : Addr) (xs ys : List V) (ws : List W), vs = [.ref a, .ref b] ∧ H a = some (.lst xs) ∧ H b = some (.lst ys) ∧ Pile H xs ws ∧ Pile H ys ws ∧ (∀ z ∈ ws, Wok z) ∧ ws.length ≤ 100000 ∧ Q (.bl true) H
theorem ok_same_pile (T : Txt P w K mg) : FnOk P w K mg base CX0 3 T.f_same_pile T.fd_same_pile ["found", "due"] (spSamePile K) := by
  have G_same := ok_same (base := base) T
  refine T.F_same_pile.ok sc_same_pile (fun vs H Q E h => ?_) (fun cdv A outer s H vs Q E hr h => ?_)
  · obtain ⟨a, b, xs, ys, ws, rfl, _⟩ := h
    rfl
  · obtain ⟨a, b, xs, ys, ws, rfl, ha, hb, pa, pb, hok, hl, q⟩ := h
    refine ⟨_, (pss_cons (ps_if (PW.pt (pw_or (pt_not (pt_val (pe_callB call_isi (by rfl) T.n_isinstance (by decide +kernel) (pa_cons (pv 0) (pa_cons (pe_bltn (v := .ty "list") (by rfl) T.n_list (by decide +kernel) rfl) pa_nil))))) (pw_or1 (pt_cmpR op_ne (pe_callB call_len_seq (by rfl) T.n_len (by decide +kernel) (pa_cons (pv 0) pa_nil)) (pe_callB call_len_seq (by rfl) T.n_len (by decide +kernel) (pa_cons (pv 1) pa_nil)) (nomark _))))) (pss_one (ps_ret pe_bl)) pss_nil)
      (pss_cons (ps_for PassesOwn.never rfl (pi_range1 (by rfl) T.n_range (pa_cons (pe_callB call_len_seq (by rfl) T.n_len (by decide +kernel) (pa_cons (pv 1) pa_nil)) pa_nil)) (pg_name (i := 2) sc_same_pile.nd rfl (.inl rfl)) (pss_one (ps_if (pt_not (pt_val (pe_call G_same (hr.mono (by decide)) (by rfl) T.g_same T.F_same.kp T.b_same .nil pass0 (pa_cons (pe_ix ix_list (pv 0) (pv 2) (fun _ _ => rfl)) (pa_cons (pe_ix ix_list (pv 1) (pv 2) (fun _ _ => rfl)) pa_nil))))) (pss_one (ps_ret pe_bl)) pss_nil)))
      (pss_one (ps_ret pe_bl)))), ?_⟩
    rw [show L2.start ["found", "due", "k"] [.ref a, .ref b] = [some (.ref a), some (.ref b), none] from rfl]
    try dsimp only [cxOf]
    walk_at "wp"
    refine iteN (fun e => absurd (by rw [pa.len, pb.len]) e) (fun _ => ?_)
    walk_at "wp"
    have el : ys.length = ws.length := pb.len
    refine ⟨by omega, by omega, loopR (fun i σ H' => ∃ y, σ = [some (.ref a), some (.ref b), y] ∧ H' = H) ⟨_, rfl, rfl⟩ ?_ ?_⟩
    · rintro i σ H1 hi ⟨y, rfl, rfl⟩
      have hi2 : i < ws.length := by omega
      obtain ⟨v, z, hv, hz, wv⟩ := pa.at hi2
      obtain ⟨u, z2, hu, hz2, wu⟩ := pb.at hi2
      obtain rfl : z = z2 := Option.some.inj (hz.symm.trans hz2)
      rw [Int.zero_add]
      walk_at "wp"
      refine ixL (SqL.of ha) (atI_nat hv) ?_
      walk_at "wp"
      refine ixL (SqL.of hb) (atI_nat hu) ?_
      walk_at "wp"
      refine ⟨v, u, z, rfl, wv, wu, hok z (List.mem_of_getElem? hz), ?_⟩
      walk_at "wp"
      rfl
    · rintro σ H1 ⟨y, rfl, rfl⟩
      walk_at "wp"
      exact q

end
end K03

namespace K03
open PySem PySem.Spec PyProof.Rows L2 Wp Wq Wt
local macro_rules | `(tactic| walk_at "ne") => `(tactic| first
  | assumption
  | (refine Ne.symm ?_; assumption)
  | exact ne_of_none (by assumption) (by assumption)
  | exact (ne_of_none (by assumption) (by assumption)).symm
  | exact ne_of (by assumption) (by assumption) (by intro q; cases q))
local macro_rules | `(tactic| walk_at "hp") => `(tactic| first
  | assumption
  | exact upd_same
  | (refine (upd_ne ?_).trans ?_; (walk_at "ne"); (walk_at "hp")))
local macro_rules | `(tactic| walk_at "sq") => `(tactic| first
  | assumption
  | exact SqL.of (by walk_at "hp")
  | exact SqT.of (by walk_at "hp"))
local macro_rules | `(tactic| walk_at "kind") => `(tactic| first
  | assumption
  | exact Kind.int _
  | exact Kind.str _
  | exact Kind.bl _
  | exact Kind.non
  | exact Kind.tup (by walk_at "hp")
  | exact Kind.lst (by walk_at "hp")
  | exact Kind.dK (by walk_at "hp"))
local macro_rules | `(tactic| walk_at "w1") => `(tactic| first
  | (with_reducible refine Wp.seq ?_)
  | (with_reducible refine Wp.nx_mk ?_)
  | (with_reducible refine Wp.rt_mk ?_)
  | (with_reducible refine Wp.bk_mk ?_)
  | (with_reducible refine Wp.ct_mk ?_)
  | (with_reducible refine Wp.next ?_)
  | (with_reducible refine Wp.asg ?_)
  | ((with_reducible refine' Wp.gname ?e ?_); (case e => (try dsimp only [List.set, L2.wipe, List.map_cons, List.map_nil]); (try exact rfl)))
  | (with_reducible refine Wp.gsub ?_)
  | (with_reducible refine Wp.ret ?_)
  | (with_reducible refine Wp.retN ?_)
  | (with_reducible refine Wp.drop ?_)
  | (with_reducible refine Wp.dput ?_)
  | (with_reducible refine Wp.ifs ?_)
  | ((with_reducible refine' Wp.var ?h ?_); (case h => exact rfl))
  | (with_reducible refine Wp.con ?_)
  | (with_reducible refine Wp.op ?_)
  | (with_reducible refine Wp.un ?_)
  | (with_reducible refine Wp.cb ?_)
  | (with_reducible refine Wp.anil ?_)
  | (with_reducible refine Wp.acons ?_)
  | (with_reducible refine Wp.call ?_)
  | (with_reducible refine Wp.test ?_)
  | (with_reducible refine Wp.tb_ ?_)
  | (with_reducible refine Wp.and_ ?_)
  | (with_reducible refine Wp.or_ ?_)
  | (with_reducible refine Wp.not_ ?_)
  | (with_reducible refine Wp.andV ?_)
  | (with_reducible refine Wp.orV ?_)
  | (with_reducible refine Wp.notV ?_)
  | (with_reducible refine Wp.rI0_ ?_)
  | (with_reducible refine Wp.rU_ ?_)
  | ((with_reducible refine Wp.rEq_ ?k ?_); (case k => exact rfl))
  | ((with_reducible refine Wp.rNe_ ?k ?_); (case k => exact rfl))
  | (with_reducible refine Wp.gcons ?_)
  | (with_reducible refine Wp.gnil ?_)
  | ((with_reducible refine' Wp.gtup ?h ?e ?_); (case h => walk_at "sq"); (case e => exact rfl))
  | (with_reducible refine Wp.sl ?_)
  | (with_reducible refine Wp.part ?_)
  | (with_reducible refine Wp.nopart ?_)
  | (with_reducible refine Wp.ifE ?_)
  | (with_reducible refine Wp.bm0 ?_)
  | (with_reducible refine Wp.bm ?_)
  | (with_reducible refine Wp.lcR1 ?_)
  | (with_reducible refine Wp.lcR2 ?_)
  | (with_reducible refine Wp.lcL ?_)
  | (with_reducible refine Wp.chain ?_)
  | (with_reducible refine Wp.lc2V ?_)
  | (with_reducible refine Wp.piL ?_)
  | (with_reducible refine Wp.yes ?_)
  | (with_reducible refine Wp.dinI ?_)
  | (with_reducible refine Wp.dninI ?_)
  | (with_reducible refine Wp.dget ?_)
  | ((with_reducible refine' ⟨?k, ?_⟩); (case k => show L2.wipe _ _ = L2.wipe _ _; exact rfl))
  | (with_reducible refine Wp.forR1 ?_)
  | (with_reducible refine Wp.forR2 ?_)
  | (with_reducible refine Wp.forL ?_)
  | (with_reducible refine Wp.forT ?_)
  | ((with_reducible refine' ⟨?k, ?_⟩); (case k => exact Wp.tyvL (by walk_at "hp")))
  | ((with_reducible refine' Wp.rev_ ?k ?_); (case k => walk_at "hp"))
  | ((with_reducible refine' Wp.isi ?k ?h ?_); (case k => walk_at "kind"); (case h => decide))
  | ((with_reducible refine' Wp.typ ?k ?_); (case k => walk_at "kind"))
  | (with_reducible refine Wp.slS ?k ?_; (case k => assumption))
  | (with_reducible refine iteT ?_)
  | (with_reducible refine iteF ?_)
  | (with_reducible refine Wz.par ?_)
  | (with_reducible refine Wz.forN ?_)
  | (with_reducible refine Wz.dcL ?_)
  | (with_reducible refine Wz.forZ ?_)
  | (with_reducible refine Wz.lcR3 ?_)
  | (with_reducible refine Wc.revL ?_)
  | (with_reducible refine Wd.nm ?_)
  | (with_reducible refine Wd.nget ?_)
  | ((with_reducible refine Wd.tnew ?_); intro p hp)
  | (with_reducible refine Wd.pikn ?_)
  | (with_reducible refine Wt.m1 ?_)
  | (with_reducible refine Wt.m0 ?_)
  | ((with_reducible refine' ⟨?k, ?_⟩); (case k => show ∃ a, _ = V.str a; exact ⟨_, rfl⟩))
  | (with_reducible refine Wt.js_cons ?_)
  | (with_reducible refine Wt.fmt_ ?_)
  | (with_reducible refine Wp.pcons ?_)
  | (with_reducible refine Wp.pnil ?_)
  | ((with_reducible refine' Wp.iteBnT ?h ?_); (case h => show isB _ _ = false; decide))
  | ((with_reducible refine' Wp.iteBnF ?h ?_); (case h => show isB _ _ = true; decide))
  | ((with_reducible refine' Wp.iteBt ?h ?_); (case h => show isB _ _ = true; decide))
  | ((with_reducible refine' Wp.iteBf ?h ?_); (case h => show isB _ _ = false; decide))
  | (with_reducible refine Wp.iteT' ?_)
  | (with_reducible refine Wp.iteF' ?_)
  | (with_reducible refine Wp.rNT_ ?_)
  | ((with_reducible refine Wp.lst ?_))
  | ((with_reducible refine Wp.tup ?_))
  | ((with_reducible refine' Wp.ixL ?h ?e ?_); (case h => walk_at "sq"); (case e => exact rfl))
  | ((with_reducible refine' Wp.ixT ?h ?e ?_); (case h => walk_at "sq"); (case e => exact rfl))
  | ((with_reducible refine' Wp.setL ?h ?e ?_); (case h => walk_at "hp"); (case e => exact rfl))
  | ((with_reducible refine Wp.rI_ ?k ?_); (case k => first | (show (0:Int) < _; omega) | (show CPow _ _; refine' ⟨?_, ?_, ?_⟩ <;> omega) | (show CDiv _ _; refine' ⟨?_, ?_⟩ <;> omega) | (show CMul _ _; refine' Or.inl ⟨?_, ?_⟩ <;> omega) | (show CMul _ _; refine' Or.inr ⟨?_, ?_⟩ <;> first | omega | decide) | (show CDivW _ _; refine' wide_div (b := 240) ?_ ?_ ?_ ?_ <;> first | omega | decide)))
  | ((with_reducible refine ⟨?k, ?_⟩); (case k => first | exact Nat.zero_le _ | (exact Nat.le_of_ble_eq_true rfl)); intro p hp)
  | ((with_reducible refine' ⟨_, _, rfl, .inl ?k, ?_⟩); (case k => walk_at "sq"))
  | ((with_reducible refine' ⟨_, _, rfl, .inr ?k, ?_⟩); (case k => walk_at "sq"))
  | (with_reducible refine ⟨_, rfl, ?_⟩)
  | (with_reducible refine ⟨_, _, rfl, rfl, ?_⟩)
  | (with_reducible refine ⟨_, _, rfl, ?_⟩))
local macro_rules | `(tactic| walk_at "wp") => `(tactic| repeat (walk_at "w1"))

def isWord (s : Str) : Prop := s = "num" ∨ s = "at" ∨ s = "box" ∨ s = "go"
def WOk (z : W) : Prop := isWord z.1 ∧ z.2.natAbs < 10 ^ 60 ∧ (z.1 ≠ "num" → 0 ≤ z.2)
def signs : List (Str × V) := [("num", .str ""), ("at", .str "@"), ("box", .str "b"), ("go", .str "g")]
def signT (s : Str) : Str := if s = "num" then "" else if s = "at" then "@" else if s = "box" then "b" else "g"
theorem sign_seek {s : Str} (h : isWord s) : seek s signs = some (.str (signT s)) := by
  rcases h with rfl | rfl | rfl | rfl <;> rfl
def wText (z : W) : Str := signT z.1 ++ numT z.2
section
variable {P : Program} {w : World} {K : PySem.W.Frag} {mg : Str → Option Value} {base : Heap}
def spShow : Sp := fun vs H Q _ => ∃ (v : V) (z : W), vs = [v] ∧ IsW H v z ∧ WOk z ∧ Q (.str (wText z)) H
theorem ok_show_worth (T : Txt P w K mg) : FnOk P w K mg base CX0 1 T.f_show_worth T.fd_show_worth ["worth"] spShow := by
  refine T.F_show_worth.ok sc_show_worth (fun vs H Q E h => ?_) (fun cdv A outer s H vs Q E hr h => ?_)
  · obtain ⟨v, z, rfl, _⟩ := h
    rfl
  · obtain ⟨v, ⟨z1, z2⟩, rfl, ⟨t, rfl, ht⟩, ⟨zw, zn, zs⟩, k⟩ := h
    refine ⟨_, (pss_cons (ps_asg (pv 0) (pg_tup (by rfl) (pgs_cons (pg_name (i := 1) sc_show_worth.nd rfl (.inl rfl)) (pgs_cons (pg_name (i := 2) sc_show_worth.nd rfl (.inl rfl)) pgs_nil))))
      (pss_one (ps_ret (pe_joined (PJ.cons (pe_fmt (pe_ix ix_kdict (pe_glob (v := .ref T.d_SIGNS) (by rfl) T.c_SIGNS rfl) (pv 1) (fun _ _ => rfl))) (PJ.cons (pe_fmt (pv 2)) PJ.nil)))))), ?_⟩
    rw [show L2.start ["worth", "word", "number"] [.ref t] = [some (.ref t), none, none] from rfl]
    try dsimp only [cxOf]
    walk_at "wp"
    have hs : ∃ u, PySem.W.nsIn K T.d_SIGNS z1 = some (some u) ∧ RelV (.str (signT z1)) u := by
      rcases T.w_SIGNS z1 with ⟨v, u, e, h1, h2⟩ | ⟨e, _⟩
      · have e2 := (sign_seek zw).symm.trans e
        cases e2
        exact ⟨u, h1, h2⟩
      · have e2 := (sign_seek zw).symm.trans e
        cases e2
    obtain ⟨u, h1, h2⟩ := hs
    have sl : (signT z1).length ≤ 1 := by
      rcases zw with rfl | rfl | rfl | rfl <;> decide +kernel
    refine ⟨_, _, _, rfl, rfl, ⟨_, _, u, T.k_SIGNS.at_, T.k_SIGNS.lit, h1, h2⟩, .inl ⟨_, rfl, ?_, _, rfl, ?_, ?_⟩⟩
    · exact Nat.le_trans sl (by decide)
    · rw [Wp.app_len]
      exact Nat.le_trans (Nat.add_le_add (Nat.le_refl _) sl) (by decide)
    walk_at "wp"
    refine .inr ⟨z2, rfl, log_ok zn, _, rfl, ?_, ?_⟩
    · rw [Wp.app_len, emp_app]
      exact Nat.le_trans (Nat.add_le_add sl (numT_any zn)) (by decide)
    · refine js_nil ?_
      walk_at "wp"
      rw [emp_app]
      exact k
def spReadNum : Sp := fun vs H Q _ => ∃ (m : Nat), vs = [.str (numT m)] ∧ m < 10 ^ 60 ∧ ∀ H', Same H H' → Q (.int m) H'
theorem ok_read_number (T : Txt P w K mg) : FnOk P w K mg base CX0 1 T.f_read_number T.fd_read_number ["text"] spReadNum := by
  refine T.F_read_number.ok sc_read_number (fun vs H Q E h => ?_) (fun cdv A outer s H vs Q E hr h => ?_)
  · obtain ⟨m, rfl, _⟩ := h
    rfl
  · obtain ⟨m, rfl, hm, k⟩ := h
    obtain ⟨l1, l2⟩ := numT_len hm
    refine ⟨_, (pss_cons (ps_if (pt_not (pt_chain op_le op_le pe_int (pe_callB call_len_str (by rfl) T.n_len (by decide +kernel) (pa_cons (pv 0) pa_nil)) (pe_glob (v := .int 60) (by rfl) T.c_MOST_FIGURES ⟨_, rfl⟩))) (pss_one ps_never) pss_nil)
      (pss_cons (ps_if (pt_not (pt_val (pe_callB (cr_all rfl) (by rfl) T.n_all (by decide +kernel) (pa_cons (pe_lc (own := [("sign", 1)]) rfl sc_read_number.nd (pi_str (pv 0)) (blkOk_by (N := ["text", "sign"]) (sc := defScope s_read_number) (by decide +kernel)) (fun _ _ _ _ _ => pg_name (i := 1) sc_read_number.nd rfl (Or.inl rfl)) (fun _ _ _ _ _ => pts_nil) (fun _ _ _ _ _ => (pe_cmpR op_in_sign (pv 1) (pe_glob (v := .str "0123456789") (by rfl) T.c_FIGURES ⟨_, rfl⟩) (by rfl)))) pa_nil)))) (pss_one ps_never) pss_nil)
      (pss_cons (ps_if (PW.pt (pw_and (pt_cmpR op_eq (pe_ix ix_str (pv 0) pe_int (fun _ _ => rfl)) pe_str (nomark _)) (pw_and1 (pt_cmpR op_ne (pv 0) pe_str (nomark _))))) (pss_one ps_never) pss_nil)
      (pss_one (ps_ret (pe_callTy call_int_str (by rfl) T.n_int (by decide +kernel) (pa_cons (pv 0) pa_nil))))))), ?_⟩
    rw [show L2.start ["text", "sign"] [.str (numT m)] = [some (.str (numT m)), none] from rfl]
    try dsimp only [cxOf]
    have lz : (numT (m : Int)).length ≤ sizeLine := Nat.le_trans l2 (by decide)
    walk_at "wp"
    refine ⟨lz, ?_⟩
    walk_at "wp"
    refine ite_ (fun _ => ?_) (fun c => absurd (show (1 : Int) ≤ ((numT (m : Int)).length : Nat) by omega) c)
    walk_at "wp"
    refine iteN (fun c => absurd (show (((numT (m : Int)).length : Nat) : Int) ≤ 60 by omega) c) (fun _ => ?_)
    walk_at "wp"
    refine lcS ?_
    walk_at "wp"
    intro D hD
    refine loopCS (fun j H' => Same H H' ∧ H' D = some (.lst ((List.replicate j true).map V.bl)) ∧ j ≤ 60) ⟨same_new hD, upd_same, Nat.zero_le _⟩ ?_ ?_
    · rintro j c H4 hc ⟨s4, hD4, hj⟩
      have hjl : j < (numT (m : Int)).cps.size := (Array.getElem?_eq_some_iff.mp hc).1
      have hjl2 : j < (numT (m : Int)).length := hjl
      have hmem : c ∈ (numT (m : Int)).cps.toList := by
        rw [← Array.getElem?_toList] at hc
        exact List.mem_of_getElem? hc
      rw [numT_nat] at hmem
      have hcd := TL.numL_digits m c hmem
      walk_at "wp"
      have e : decide (c ∈ ("0123456789" : Str).cps.toList) = true := by
        have : c = 48 ∨ c = 49 ∨ c = 50 ∨ c = 51 ∨ c = 52 ∨ c = 53 ∨ c = 54 ∨ c = 55 ∨ c = 56 ∨ c = 57 := by omega
        rcases this with rfl | rfl | rfl | rfl | rfl | rfl | rfl | rfl | rfl | rfl <;> decide +kernel
      rw [e]
      refine ⟨_, hD4, ?_, ?_, ?_, by omega⟩
      · rw [List.length_map, List.length_replicate]; exact Nat.lt_of_le_of_lt hj (by decide)
      · intro q z hq
        rw [upd_ne (ne_of_none hq hD)]
        exact s4 _ _ hq
      · rw [upd_same, List.replicate_succ', List.map_append] <;> rfl
    · rintro H4 ⟨s4, hD4, hj⟩
      walk_at "wp"
      refine ⟨D, _, rfl, SqL.of hD4, ?_⟩
      have eall : (List.replicate (numT (m : Int)).cps.size true).all id = true := by
        rw [List.all_eq_true]
        intro b hb
        rw [List.eq_of_mem_replicate hb] <;> rfl
      rw [eall]
      walk_at "wp"
      cases en : TL.numL m with
      | nil => exact absurd en (TL.numL_ne m)
      | cons c r =>
        have h0 : atI (numT (m : Int)).cps.toList 0 = some c := by
          rw [numT_nat, en]
          exact atI_of (n := 0) rfl rfl
        refine ⟨_, 0, c, rfl, rfl, lz, h0, ?_⟩
        walk_at "wp"
        refine ite_ (fun e => ?_) (fun e => ?_)
        · have ec : c = 48 := by
            have e1 : (⟨#[c]⟩ : Str) = "0" := V.str.inj e
            have e2 : (#[c] : Array Nat) = ("0" : Str).cps := congrArg Str.cps e1
            have e3 : ("0" : Str).cps = #[48] := by decide +kernel
            rw [e3] at e2
            exact (List.cons.inj (congrArg Array.toList e2)).1
          subst ec
          obtain ⟨rfl, rfl⟩ := numL_head m r en
          walk_at "wp"
          have et : numT ((0 : Nat) : Int) = "0" := by decide +kernel
          refine iteN (fun e2 => absurd (congrArg V.str et) e2) (fun _ => ?_)
          walk_at "wp"
          refine ⟨_, _, rfl, int_back hm, by omega, ?_⟩
          exact k _ s4
        · walk_at "wp"
          refine ⟨_, _, rfl, int_back hm, by omega, ?_⟩
          exact k _ s4
end
end K03

namespace K03
open PySem PySem.Spec PyProof.Rows L2 Wp Wq Wt
local macro_rules | `(tactic| walk_at "ne") => `(tactic| first
  | assumption
  | (refine Ne.symm ?_; assumption)
  | exact ne_of_none (by assumption) (by assumption)
  | exact (ne_of_none (by assumption) (by assumption)).symm
  | exact ne_of (by assumption) (by assumption) (by intro q; cases q))
local macro_rules | `(tactic| walk_at "hp") => `(tactic| first
  | assumption
  | exact upd_same
  | (refine (upd_ne ?_).trans ?_; (walk_at "ne"); (walk_at "hp")))
local macro_rules | `(tactic| walk_at "sq") => `(tactic| first
  | assumption
  | exact SqL.of (by walk_at "hp")
  | exact SqT.of (by walk_at "hp"))
local macro_rules | `(tactic| walk_at "kind") => `(tactic| first
  | assumption
  | exact Kind.int _
  | exact Kind.str _
  | exact Kind.bl _
  | exact Kind.non
  | exact Kind.tup (by walk_at "hp")
  | exact Kind.lst (by walk_at "hp")
  | exact Kind.dK (by walk_at "hp"))
local macro_rules | `(tactic| walk_at "w1") => `(tactic| first
  | (with_reducible refine Wp.seq ?_)
  | (with_reducible refine Wp.nx_mk ?_)
  | (with_reducible refine Wp.rt_mk ?_)
  | (with_reducible refine Wp.bk_mk ?_)
  | (with_reducible refine Wp.ct_mk ?_)
  | (with_reducible refine Wp.next ?_)
  | (with_reducible refine Wp.asg ?_)
  | ((with_reducible refine' Wp.gname ?e ?_); (case e => (try dsimp only [List.set, L2.wipe, List.map_cons, List.map_nil]); (try exact rfl)))
  | (with_reducible refine Wp.gsub ?_)
  | (with_reducible refine Wp.ret ?_)
  | (with_reducible refine Wp.retN ?_)
  | (with_reducible refine Wp.drop ?_)
  | (with_reducible refine Wp.dput ?_)
  | (with_reducible refine Wp.ifs ?_)
  | ((with_reducible refine' Wp.var ?h ?_); (case h => exact rfl))
  | (with_reducible refine Wp.con ?_)
  | (with_reducible refine Wp.op ?_)
  | (with_reducible refine Wp.un ?_)
  | (with_reducible refine Wp.cb ?_)
  | (with_reducible refine Wp.anil ?_)
  | (with_reducible refine Wp.acons ?_)
  | (with_reducible refine Wp.call ?_)
  | (with_reducible refine Wp.test ?_)
  | (with_reducible refine Wp.tb_ ?_)
  | (with_reducible refine Wp.and_ ?_)
  | (with_reducible refine Wp.or_ ?_)
  | (with_reducible refine Wp.not_ ?_)
  | (with_reducible refine Wp.andV ?_)
  | (with_reducible refine Wp.orV ?_)
  | (with_reducible refine Wp.notV ?_)
  | (with_reducible refine Wp.rI0_ ?_)
  | (with_reducible refine Wp.rU_ ?_)
  | ((with_reducible refine Wp.rEq_ ?k ?_); (case k => exact rfl))
  | ((with_reducible refine Wp.rNe_ ?k ?_); (case k => exact rfl))
  | (with_reducible refine Wp.gcons ?_)
  | (with_reducible refine Wp.gnil ?_)
  | ((with_reducible refine' Wp.gtup ?h ?e ?_); (case h => walk_at "sq"); (case e => exact rfl))
  | (with_reducible refine Wp.sl ?_)
  | (with_reducible refine Wp.part ?_)
  | (with_reducible refine Wp.nopart ?_)
  | (with_reducible refine Wp.ifE ?_)
  | (with_reducible refine Wp.bm0 ?_)
  | (with_reducible refine Wp.bm ?_)
  | (with_reducible refine Wp.lcR1 ?_)
  | (with_reducible refine Wp.lcR2 ?_)
  | (with_reducible refine Wp.lcL ?_)
  | (with_reducible refine Wp.chain ?_)
  | (with_reducible refine Wp.lc2V ?_)
  | (with_reducible refine Wp.piL ?_)
  | (with_reducible refine Wp.yes ?_)
  | (with_reducible refine Wp.dinI ?_)
  | (with_reducible refine Wp.dninI ?_)
  | (with_reducible refine Wp.dget ?_)
  | ((with_reducible refine' ⟨?k, ?_⟩); (case k => show L2.wipe _ _ = L2.wipe _ _; exact rfl))
  | (with_reducible refine Wp.forR1 ?_)
  | (with_reducible refine Wp.forR2 ?_)
  | (with_reducible refine Wp.forL ?_)
  | (with_reducible refine Wp.forT ?_)
  | ((with_reducible refine' ⟨?k, ?_⟩); (case k => exact Wp.tyvL (by walk_at "hp")))
  | ((with_reducible refine' Wp.rev_ ?k ?_); (case k => walk_at "hp"))
  | ((with_reducible refine' Wp.isi ?k ?h ?_); (case k => walk_at "kind"); (case h => decide))
  | ((with_reducible refine' Wp.typ ?k ?_); (case k => walk_at "kind"))
  | (with_reducible refine Wp.slS ?k ?_; (case k => assumption))
  | (with_reducible refine iteT ?_)
  | (with_reducible refine iteF ?_)
  | (with_reducible refine Wz.par ?_)
  | (with_reducible refine Wz.forN ?_)
  | (with_reducible refine Wz.dcL ?_)
  | (with_reducible refine Wz.forZ ?_)
  | (with_reducible refine Wz.lcR3 ?_)
  | (with_reducible refine Wc.revL ?_)
  | (with_reducible refine Wd.nm ?_)
  | (with_reducible refine Wd.nget ?_)
  | ((with_reducible refine Wd.tnew ?_); intro p hp)
  | (with_reducible refine Wd.pikn ?_)
  | (with_reducible refine Wt.m1 ?_)
  | (with_reducible refine Wt.m0 ?_)
  | ((with_reducible refine' ⟨?k, ?_⟩); (case k => show ∃ a, _ = V.str a; exact ⟨_, rfl⟩))
  | (with_reducible refine Wt.js_cons ?_)
  | (with_reducible refine Wt.fmt_ ?_)
  | (with_reducible refine Wp.pcons ?_)
  | (with_reducible refine Wp.pnil ?_)
  | ((with_reducible refine' Wp.iteBnT ?h ?_); (case h => show isB _ _ = false; decide))
  | ((with_reducible refine' Wp.iteBnF ?h ?_); (case h => show isB _ _ = true; decide))
  | ((with_reducible refine' Wp.iteBt ?h ?_); (case h => show isB _ _ = true; decide))
  | ((with_reducible refine' Wp.iteBf ?h ?_); (case h => show isB _ _ = false; decide))
  | (with_reducible refine Wp.iteT' ?_)
  | (with_reducible refine Wp.iteF' ?_)
  | (with_reducible refine Wp.rNT_ ?_)
  | ((with_reducible refine Wp.lst ?_))
  | ((with_reducible refine Wp.tup ?_))
  | ((with_reducible refine' Wp.ixL ?h ?e ?_); (case h => walk_at "sq"); (case e => exact rfl))
  | ((with_reducible refine' Wp.ixT ?h ?e ?_); (case h => walk_at "sq"); (case e => exact rfl))
  | ((with_reducible refine' Wp.setL ?h ?e ?_); (case h => walk_at "hp"); (case e => exact rfl))
  | ((with_reducible refine Wp.rI_ ?k ?_); (case k => first | (show (0:Int) < _; omega) | (show CPow _ _; refine' ⟨?_, ?_, ?_⟩ <;> omega) | (show CDiv _ _; refine' ⟨?_, ?_⟩ <;> omega) | (show CMul _ _; refine' Or.inl ⟨?_, ?_⟩ <;> omega) | (show CMul _ _; refine' Or.inr ⟨?_, ?_⟩ <;> first | omega | decide) | (show CDivW _ _; refine' wide_div (b := 240) ?_ ?_ ?_ ?_ <;> first | omega | decide)))
  | ((with_reducible refine ⟨?k, ?_⟩); (case k => first | exact Nat.zero_le _ | (exact Nat.le_of_ble_eq_true rfl)); intro p hp)
  | ((with_reducible refine' ⟨_, _, rfl, .inl ?k, ?_⟩); (case k => walk_at "sq"))
  | ((with_reducible refine' ⟨_, _, rfl, .inr ?k, ?_⟩); (case k => walk_at "sq"))
  | (with_reducible refine ⟨_, rfl, ?_⟩)
  | (with_reducible refine ⟨_, _, rfl, rfl, ?_⟩)
  | (with_reducible refine ⟨_, _, rfl, ?_⟩))
local macro_rules | `(tactic| walk_at "wp") => `(tactic| repeat (walk_at "w1"))

/-! ### cut texts -/
theorem cut_head {z : Str} {c : Nat} {r : List Nat} (h : z.cps.toList = c :: r) : cutS z none (some 1) = ⟨#[c]⟩ := by
  refine TL.ext_tl ?_
  show (((z.cps.toList.drop (HT.sIx z.length 0 none)).take (HT.sIx z.length z.length (some ((1 : Nat) : Int)) - HT.sIx z.length 0 none)).toArray).toList = [c]
  rw [show HT.sIx z.length 0 none = 0 from HT.sIx_none .., show HT.sIx z.length z.length (some ((1 : Nat) : Int)) = min 1 z.length from HT.sIx_nat ..]
  have hl : z.length = r.length + 1 := by
    show z.cps.size = _
    rw [← Array.length_toList, h] <;> rfl
  rw [hl, Nat.min_eq_left (by omega), h] <;> rfl
theorem cut_tail {z : Str} {c : Nat} {r : List Nat} (h : z.cps.toList = c :: r) : (cutS z (some 1) none).cps.toList = r := by
  show (((z.cps.toList.drop (HT.sIx z.length 0 (some ((1 : Nat) : Int)))).take (HT.sIx z.length z.length none - HT.sIx z.length 0 (some ((1 : Nat) : Int)))).toArray).toList = r
  rw [show HT.sIx z.length z.length none = z.length from HT.sIx_none .., show HT.sIx z.length 0 (some ((1 : Nat) : Int)) = min 1 z.length from HT.sIx_nat ..]
  have hl : z.length = r.length + 1 := by
    show z.cps.size = _
    rw [← Array.length_toList, h] <;> rfl
  rw [hl, Nat.min_eq_left (by omega), h]
  show (r.take (r.length + 1 - 1)).toArray.toList = r
  rw [Nat.add_sub_cancel, List.take_of_length_le (Nat.le_refl _)]
theorem sgn_inj {c d : Nat} (h : (⟨#[c]⟩ : Str) = ⟨#[d]⟩) : c = d := by
  have e2 : (#[c] : Array Nat) = #[d] := congrArg Str.cps h
  exact (List.cons.inj (congrArg Array.toList e2)).1
/-- the sign ahead of a worth's text and what is behind it -/
theorem wText_at {m : Nat} : (wText ("at", (m : Int))).cps.toList = 64 :: TL.numL m := by
  have e := TL.tl_append ("@" : Str) (numT (m : Int))
  show TL.tl (("@" : Str) ++ numT (m : Int)) = _
  rw [e]
  show ("@" : Str).cps.toList ++ (numT (m : Int)).cps.toList = _
  rw [numT_nat, show ("@" : Str).cps.toList = [64] by decide +kernel] <;> rfl
theorem wText_box {m : Nat} : (wText ("box", (m : Int))).cps.toList = 98 :: TL.numL m := by
  have e := TL.tl_append ("b" : Str) (numT (m : Int))
  show TL.tl (("b" : Str) ++ numT (m : Int)) = _
  rw [e]
  show ("b" : Str).cps.toList ++ (numT (m : Int)).cps.toList = _
  rw [numT_nat, show ("b" : Str).cps.toList = [98] by decide +kernel] <;> rfl
theorem wText_go {m : Nat} : (wText ("go", (m : Int))).cps.toList = 103 :: TL.numL m := by
  have e := TL.tl_append ("g" : Str) (numT (m : Int))
  show TL.tl (("g" : Str) ++ numT (m : Int)) = _
  rw [e]
  show ("g" : Str).cps.toList ++ (numT (m : Int)).cps.toList = _
  rw [numT_nat, show ("g" : Str).cps.toList = [103] by decide +kernel] <;> rfl
theorem wText_num {i : Int} : wText ("num", i) = numT i := by
  show ("" : Str) ++ numT i = numT i
  exact TL.ext_tl (by rw [TL.tl_append, show TL.tl ("" : Str) = [] by decide +kernel] <;> rfl)
/-- the five kinds of texts -/
inductive WT : W → List Nat → Prop where
  | num (m : Nat) (h : m < 10 ^ 60) : WT ("num", (m : Int)) (TL.numL m)
  | neg (m : Nat) (p : 0 < m) (h : m < 10 ^ 60) : WT ("num", -(m : Int)) (45 :: TL.numL m)
  | at_ (m : Nat) (h : m < 10 ^ 60) : WT ("at", (m : Int)) (64 :: TL.numL m)
  | box (m : Nat) (h : m < 10 ^ 60) : WT ("box", (m : Int)) (98 :: TL.numL m)
  | go (m : Nat) (h : m < 10 ^ 60) : WT ("go", (m : Int)) (103 :: TL.numL m)
theorem WT.text {z : W} {l : List Nat} (h : WT z l) : (wText z).cps.toList = l := by
  cases h with
  | num m h => rw [wText_num]; exact numT_nat m
  | neg m p h => rw [wText_num]; exact numT_neg p
  | at_ m h => exact wText_at
  | box m h => exact wText_box
  | go m h => exact wText_go
theorem WOk.wt {z : W} (h : WOk z) : ∃ l, WT z l := by
  obtain ⟨zw, zi⟩ := z
  obtain ⟨h1, h2, h3⟩ := h
  have nn : zw ≠ "num" → ∃ m : Nat, m < 10 ^ 60 ∧ zi = (m : Int) := fun h => ⟨zi.toNat, by have := h3 h; simp only at this h2; omega, by have := h3 h; simp only at this; omega⟩
  have h1' : isWord zw := h1
  rcases h1' with e | e | e | e <;> subst e
  · by_cases c : 0 ≤ zi
    · have h2' : zi.natAbs < 10 ^ 60 := h2
      obtain ⟨m, rfl⟩ : ∃ m : Nat, zi = (m : Int) := ⟨zi.toNat, by omega⟩
      exact ⟨_, .num m (by simpa using h2')⟩
    · have h2' : zi.natAbs < 10 ^ 60 := h2
      obtain ⟨m, rfl⟩ : ∃ m : Nat, zi = -(m : Int) := ⟨zi.natAbs, by omega⟩
      exact ⟨_, .neg m (by omega) (by simpa using h2')⟩
  · obtain ⟨m, hm, rfl⟩ := nn (by decide)
    exact ⟨_, .at_ m hm⟩
  · obtain ⟨m, hm, rfl⟩ := nn (by decide)
    exact ⟨_, .box m hm⟩
  · obtain ⟨m, hm, rfl⟩ := nn (by decide)
    exact ⟨_, .go m hm⟩
theorem num_cons (m : Nat) : ∃ c r, TL.numL m = c :: r ∧ 48 ≤ c ∧ c ≤ 57 := by
  cases e : TL.numL m with
  | nil => exact absurd e (TL.numL_ne m)
  | cons c r =>
    have := TL.numL_digits m c (by rw [e]; exact List.mem_cons_self)
    exact ⟨c, r, rfl, this.1, this.2⟩
theorem WT.ne {z : W} {l : List Nat} (h : WT z l) : ∃ c r, l = c :: r ∧ (c = 45 ∨ 48 ≤ c ∧ c ≤ 57 ∨ c = 64 ∨ c = 98 ∨ c = 103) := by
  cases h with
  | num m h =>
    obtain ⟨c, r, e, h1, h2⟩ := num_cons m
    exact ⟨c, r, e, .inr (.inl ⟨h1, h2⟩)⟩
  | neg m p h => exact ⟨_, _, rfl, .inl rfl⟩
  | at_ m h => exact ⟨_, _, rfl, .inr (.inr (.inl rfl))⟩
  | box m h => exact ⟨_, _, rfl, .inr (.inr (.inr (.inl rfl)))⟩
  | go m h => exact ⟨_, _, rfl, .inr (.inr (.inr (.inr rfl)))⟩
theorem WT.free {z : W} {l : List Nat} (h : WT z l) : 32 ∉ l := by
  have n : ∀ m, 32 ∉ TL.numL m := fun m => TL.numL_free (.inl (by decide))
  cases h with
  | num m h => exact n m
  | neg m p h => exact fun q => (List.mem_cons.mp q).elim (by decide) (n m)
  | at_ m h => exact fun q => (List.mem_cons.mp q).elim (by decide) (n m)
  | box m h => exact fun q => (List.mem_cons.mp q).elim (by decide) (n m)
  | go m h => exact fun q => (List.mem_cons.mp q).elim (by decide) (n m)
theorem WT.len {z : W} {l : List Nat} (h : WT z l) : l.length ≤ 61 := by
  have n : ∀ m, m < 10 ^ 60 → (TL.numL m).length ≤ 60 := fun m h => TL.numL_len (by decide) h
  cases h with
  | num m h => exact Nat.le_trans (n m h) (by decide)
  | neg m p h => exact Nat.succ_le_succ (n m h)
  | at_ m h => exact Nat.succ_le_succ (n m h)
  | box m h => exact Nat.succ_le_succ (n m h)
  | go m h => exact Nat.succ_le_succ (n m h)
theorem wlen {z : W} (h : WOk z) : (wText z).length ≤ 61 := by
  obtain ⟨l, hl⟩ := h.wt
  show (wText z).cps.size ≤ 61
  rw [← Array.length_toList, hl.text]
  exact hl.len
def wordsL : List (Str × V) := [("@", .str "at"), ("b", .str "box"), ("g", .str "go")]
theorem seek_words (c : Nat) : seek ⟨#[c]⟩ wordsL = if c = 64 then some (.str "at") else if c = 98 then some (.str "box") else if c = 103 then some (.str "go") else none := by
  have e1 : ("@" : Str) = ⟨#[64]⟩ := by decide +kernel
  have e2 : ("b" : Str) = ⟨#[98]⟩ := by decide +kernel
  have e3 : ("g" : Str) = ⟨#[103]⟩ := by decide +kernel
  have f : ∀ {d : Nat} {s : Str}, s = ⟨#[d]⟩ → c ≠ d → ¬ s = ⟨#[c]⟩ := fun e n h => n (sgn_inj (h.symm.trans e))
  unfold wordsL seek seek seek seek
  by_cases c1 : c = 64
  · subst c1
    rw [if_pos e1, if_pos rfl]
  rw [if_neg (f e1 c1), if_neg c1]
  by_cases c2 : c = 98
  · subst c2
    rw [if_pos e2, if_pos rfl]
  rw [if_neg (f e2 c2), if_neg c2]
  by_cases c3 : c = 103
  · subst c3
    rw [if_pos e3, if_pos rfl]
  rw [if_neg (f e3 c3), if_neg c3]
theorem WT.words {z : W} {l : List Nat} {c : Nat} {r : List Nat} {v : V} (h : WT z l) (e : l = c :: r) (s : (if c = 64 then some (V.str "at") else if c = 98 then some (.str "box") else if c = 103 then some (.str "go") else none) = some v) :
    ∃ wd m, v = .str wd ∧ r = TL.numL m ∧ m < 10 ^ 60 ∧ z = (wd, (m : Int)) := by
  cases h with
  | num m h =>
    have hc := TL.numL_digits m c (by rw [e]; exact List.mem_cons_self)
    rw [if_neg (by omega), if_neg (by omega), if_neg (by omega)] at s
    cases s
  | neg m p h =>
    cases e
    rw [if_neg (by omega), if_neg (by omega), if_neg (by omega)] at s
    cases s
  | at_ m h =>
    cases e
    rw [if_pos rfl] at s
    cases s
    exact ⟨_, _, rfl, rfl, h, rfl⟩
  | box m h =>
    cases e
    rw [if_neg (by omega), if_pos rfl] at s
    cases s
    exact ⟨_, _, rfl, rfl, h, rfl⟩
  | go m h =>
    cases e
    rw [if_neg (by omega), if_neg (by omega), if_pos rfl] at s
    cases s
    exact ⟨_, _, rfl, rfl, h, rfl⟩
theorem WT.nums {z : W} {l : List Nat} {c : Nat} {r : List Nat} (h : WT z l) (e : l = c :: r) (s : (if c = 64 then some (V.str "at") else if c = 98 then some (.str "box") else if c = 103 then some (.str "go") else none) = none) :
    (∃ m : Nat, m < 10 ^ 60 ∧ z = (("num" : Str), (m : Int)) ∧ c ≠ 45) ∨ (∃ m : Nat, c = 45 ∧ r = TL.numL m ∧ 0 < m ∧ m < 10 ^ 60 ∧ z = (("num" : Str), -(m : Int))) := by
  cases h with
  | num m h =>
    have hc := TL.numL_digits m c (by rw [e]; exact List.mem_cons_self)
    exact .inl ⟨m, h, rfl, by omega⟩
  | neg m p h =>
    cases e
    exact .inr ⟨m, rfl, rfl, p, h, rfl⟩
  | at_ m h =>
    cases e
    rw [if_pos rfl] at s
    cases s
  | box m h =>
    cases e
    rw [if_neg (by omega), if_pos rfl] at s
    cases s
  | go m h =>
    cases e
    rw [if_neg (by omega), if_neg (by omega), if_pos rfl] at s
    cases s
section
variable {P : Program} {w : World} {K : PySem.W.Frag} {mg : Str → Option Value} {base : Heap}
def spCheckText : Sp := fun vs H Q _ => ∃ (x : Str), vs = [.str x] ∧ Q .non H
theorem ok_check_text (T : Txt P w K mg) : FnOk P w K mg base CX0 1 T.f_check_text T.fd_check_text ["text"] spCheckText := by
  refine T.F_check_text.ok sc_check_text (fun vs H Q E h => ?_) (fun cdv A outer s H vs Q E hr h => ?_)
  · obtain ⟨x, rfl, _⟩ := h
    rfl
  · obtain ⟨x, rfl, k⟩ := h
    refine ⟨_, (pss_one (ps_if (pt_cmpR op_notTyB (pe_callTy call_type1 (by rfl) T.n_type (by decide +kernel) (pa_cons (pv 0) pa_nil)) (pe_bltn (v := .ty "str") (by rfl) T.n_str (by decide +kernel) rfl) (nomark _)) (pss_one ps_never) pss_nil)), ?_⟩
    rw [show L2.start ["text"] [.str x] = [some (.str x)] from rfl]
    try dsimp only [cxOf]
    walk_at "wp"
    refine iteN (fun e => absurd rfl e) (fun _ => ?_)
    walk_at "wp"
    exact k
def spReadSigned : Sp := fun vs H Q _ => ∃ (i : Int), vs = [.str (numT i)] ∧ i.natAbs < 10 ^ 60 ∧ ∀ H', Same H H' → Q (.int i) H'
theorem ok_read_signed (T : Txt P w K mg) : FnOk P w K mg base CX0 2 T.f_read_signed T.fd_read_signed ["text"] spReadSigned := by
  have G_read_number := ok_read_number (base := base) T
  refine T.F_read_signed.ok sc_read_signed (fun vs H Q E h => ?_) (fun cdv A outer s H vs Q E hr h => ?_)
  · obtain ⟨i, rfl, _⟩ := h
    rfl
  · obtain ⟨i, rfl, hi, k⟩ := h
    refine ⟨_, (pss_cons (ps_if (pt_cmpR op_ne (pe_slice sl_str (pv 0) po_none (po_some pe_int)) pe_str (nomark _)) (pss_one (ps_ret (pe_call G_read_number (hr.mono (by decide)) (by rfl) T.g_read_number T.F_read_number.kp T.b_read_number .nil pass0 (pa_cons (pv 0) pa_nil)))) pss_nil)
      (pss_cons (ps_set (i := 1) sc_read_signed.nd rfl (.inl rfl) (pe_call G_read_number (hr.mono (by decide)) (by rfl) T.g_read_number T.F_read_number.kp T.b_read_number .nil pass0 (pa_cons (pe_slice sl_str (pv 0) (po_some pe_int) po_none) pa_nil)))
      (pss_cons (ps_if (pt_cmpR op_eq (pv 1) pe_int (nomark _)) (pss_one ps_never) pss_nil)
      (pss_one (ps_ret (pe_un un_neg (pv 1))))))), ?_⟩
    rw [show L2.start ["text", "number"] [.str (numT i)] = [some (.str (numT i)), none] from rfl]
    try dsimp only [cxOf]
    have lz : (numT i).length ≤ sizeLine := Nat.le_trans (numT_any hi) (by decide)
    have e45 : ("-" : Str) = ⟨#[45]⟩ := by decide +kernel
    by_cases c0 : 0 ≤ i
    · obtain ⟨m, rfl⟩ : ∃ m : Nat, i = (m : Int) := ⟨i.natAbs, by omega⟩
      have hm : m < 10 ^ 60 := by omega
      have ht := numT_nat m
      cases en : TL.numL m with
      | nil => exact absurd en (TL.numL_ne m)
      | cons c r =>
        rw [en] at ht
        have hc := TL.numL_digits m c (by rw [en]; exact List.mem_cons_self)
        have eh := cut_head ht
        walk_at "wp"
        rw [eh]
        refine iteN (fun _ => ?_) (fun e2 => absurd (sgn_inj ((V.str.inj e2).trans e45)) (by omega))
        walk_at "wp"
        refine ⟨m, rfl, hm, fun H' s' => ?_⟩
        walk_at "wp"
        exact k _ s'
    · obtain ⟨m, rfl⟩ : ∃ m : Nat, i = -(m : Int) := ⟨i.natAbs, by omega⟩
      have hm : m < 10 ^ 60 := by omega
      have ht := numT_neg (m := m) (by omega)
      have eh := cut_head ht
      have et : cutS (numT (-(m : Int))) (some 1) none = numT (m : Int) := TL.ext_tl ((cut_tail ht).trans (numT_nat m).symm)
      walk_at "wp"
      rw [eh]
      refine iteN (fun e2 => absurd (congrArg V.str e45.symm) e2) (fun _ => ?_)
      walk_at "wp"
      rw [et]
      refine ⟨m, rfl, hm, fun H' s' => ?_⟩
      walk_at "wp"
      refine ite_ (fun e2 => absurd (V.int.inj e2) (by omega)) (fun _ => ?_)
      walk_at "wp"
      exact k _ s'
def spReadWorth : Sp := fun vs H Q _ => ∃ (z : W), vs = [.str (wText z)] ∧ WOk z ∧ ∀ v H', IsW H' v z → Same H H' → Q v H'
theorem ok_read_worth (T : Txt P w K mg) : FnOk P w K mg base CX0 3 T.f_read_worth T.fd_read_worth ["text"] spReadWorth := by
  have G_read_number := ok_read_number (base := base) T
  have G_read_signed := ok_read_signed (base := base) T
  have G_check_text := ok_check_text (base := base) T
  refine T.F_read_worth.ok sc_read_worth (fun vs H Q E h => ?_) (fun cdv A outer s H vs Q E hr h => ?_)
  · obtain ⟨z, rfl, _⟩ := h
    rfl
  · obtain ⟨z, rfl, hz, k⟩ := h
    refine ⟨_, (pss_cons (ps_expr (pe_call G_check_text (hr.mono (by decide)) (by rfl) T.g_check_text T.F_check_text.kp T.b_check_text .nil pass0 (pa_cons (pv 0) pa_nil)))
      (pss_cons (ps_set (i := 1) sc_read_worth.nd rfl (.inl rfl) (pe_slice sl_str (pv 0) po_none (po_some pe_int)))
      (pss_cons (ps_if (pt_cmpR (op_in_kd T.k_WORDS) (pv 1) (pe_glob (v := .ref T.d_WORDS) (by rfl) T.c_WORDS rfl) (by rfl)) (pss_one (ps_ret (pe_tup (pa_cons (pe_ix ix_kdict (pe_glob (v := .ref T.d_WORDS) (by rfl) T.c_WORDS rfl) (pv 1) (fun _ _ => rfl)) (pa_cons (pe_call G_read_number (hr.mono (by decide)) (by rfl) T.g_read_number T.F_read_number.kp T.b_read_number .nil pass0 (pa_cons (pe_slice sl_str (pv 0) (po_some pe_int) po_none) pa_nil)) pa_nil))))) pss_nil)
      (pss_one (ps_ret (pe_tup (pa_cons pe_str (pa_cons (pe_call G_read_signed (hr.mono (by decide)) (by rfl) T.g_read_signed T.F_read_signed.kp T.b_read_signed .nil pass0 (pa_cons (pv 0) pa_nil)) pa_nil)))))))), ?_⟩
    rw [show L2.start ["text", "sign"] [.str (wText z)] = [some (.str (wText z)), none] from rfl]
    try dsimp only [cxOf]
    have lz : (wText z).length ≤ sizeLine := Nat.le_trans (wlen hz) (by decide)
    obtain ⟨l, hw⟩ := hz.wt
    obtain ⟨c, r, rfl, hc⟩ := hw.ne
    have ht := hw.text
    have eh := cut_head ht
    have et : ∀ {m : Nat}, r = TL.numL m → cutS (wText z) (some 1) none = numT (m : Int) := fun {m} e => TL.ext_tl ((cut_tail ht).trans (e.trans (numT_nat m).symm))
    walk_at "wp"
    refine ⟨_, rfl, ?_⟩
    walk_at "wp"
    rw [eh]
    walk_at "wp"
    have sk := seek_words c
    rcases T.w_WORDS ⟨#[c]⟩ with ⟨v, u, e, h1, h2⟩ | ⟨e, h1⟩
    · have sv : seek ⟨#[c]⟩ wordsL = some v := e
      rw [sk] at sv
      refine ⟨_, _, rfl, rfl, h1, ?_⟩
      walk_at "wp"
      refine iteBt rfl ?_
      walk_at "wp"
      obtain ⟨wd, m, rfl, er, hm, rfl⟩ := hw.words rfl sv
      refine ⟨_, _, _, rfl, rfl, ⟨_, _, u, T.k_WORDS.at_, T.k_WORDS.lit, h1, h2⟩, ?_⟩
      walk_at "wp"
      rw [et er]
      refine ⟨m, rfl, hm, fun H' s' => ?_⟩
      walk_at "wp"
      rename_i p hp
      exact k _ _ ⟨p, rfl, upd_same⟩ (s'.trans (same_new hp))
    · have sv : seek ⟨#[c]⟩ wordsL = none := e
      rw [sk] at sv
      refine ⟨_, _, rfl, rfl, h1, ?_⟩
      walk_at "wp"
      refine iteBf rfl ?_
      walk_at "wp"
      obtain ⟨i, e1, hi⟩ : ∃ i : Int, z = (("num" : Str), i) ∧ i.natAbs < 10 ^ 60 := by
        rcases hw.nums rfl sv with ⟨m, hm, e, nc⟩ | ⟨m, _, er, pm, hm, e⟩
        · exact ⟨_, e, by omega⟩
        · exact ⟨_, e, by omega⟩
      subst e1
      rw [wText_num]
      refine ⟨i, rfl, hi, fun H' s' => ?_⟩
      walk_at "wp"
      rename_i p hp
      exact k _ _ ⟨p, rfl, upd_same⟩ (s'.trans (same_new hp))
end
end K03

namespace K03
open PySem PySem.Spec PyProof.Rows L2 Wp Wq Wt
local macro_rules | `(tactic| walk_at "ne") => `(tactic| first
  | assumption
  | (refine Ne.symm ?_; assumption)
  | exact ne_of_none (by assumption) (by assumption)
  | exact (ne_of_none (by assumption) (by assumption)).symm
  | exact ne_of (by assumption) (by assumption) (by intro q; cases q))
local macro_rules | `(tactic| walk_at "hp") => `(tactic| first
  | assumption
  | exact upd_same
  | (refine (upd_ne ?_).trans ?_; (walk_at "ne"); (walk_at "hp")))
local macro_rules | `(tactic| walk_at "sq") => `(tactic| first
  | assumption
  | exact SqL.of (by walk_at "hp")
  | exact SqT.of (by walk_at "hp"))
local macro_rules | `(tactic| walk_at "kind") => `(tactic| first
  | assumption
  | exact Kind.int _
  | exact Kind.str _
  | exact Kind.bl _
  | exact Kind.non
  | exact Kind.tup (by walk_at "hp")
  | exact Kind.lst (by walk_at "hp")
  | exact Kind.dK (by walk_at "hp"))
local macro_rules | `(tactic| walk_at "w1") => `(tactic| first
  | (with_reducible refine Wp.seq ?_)
  | (with_reducible refine Wp.nx_mk ?_)
  | (with_reducible refine Wp.rt_mk ?_)
  | (with_reducible refine Wp.bk_mk ?_)
  | (with_reducible refine Wp.ct_mk ?_)
  | (with_reducible refine Wp.next ?_)
  | (with_reducible refine Wp.asg ?_)
  | ((with_reducible refine' Wp.gname ?e ?_); (case e => (try dsimp only [List.set, L2.wipe, List.map_cons, List.map_nil]); (try exact rfl)))
  | (with_reducible refine Wp.gsub ?_)
  | (with_reducible refine Wp.ret ?_)
  | (with_reducible refine Wp.retN ?_)
  | (with_reducible refine Wp.drop ?_)
  | (with_reducible refine Wp.dput ?_)
  | (with_reducible refine Wp.ifs ?_)
  | ((with_reducible refine' Wp.var ?h ?_); (case h => exact rfl))
  | (with_reducible refine Wp.con ?_)
  | (with_reducible refine Wp.op ?_)
  | (with_reducible refine Wp.un ?_)
  | (with_reducible refine Wp.cb ?_)
  | (with_reducible refine Wp.anil ?_)
  | (with_reducible refine Wp.acons ?_)
  | (with_reducible refine Wp.call ?_)
  | (with_reducible refine Wp.test ?_)
  | (with_reducible refine Wp.tb_ ?_)
  | (with_reducible refine Wp.and_ ?_)
  | (with_reducible refine Wp.or_ ?_)
  | (with_reducible refine Wp.not_ ?_)
  | (with_reducible refine Wp.andV ?_)
  | (with_reducible refine Wp.orV ?_)
  | (with_reducible refine Wp.notV ?_)
  | (with_reducible refine Wp.rI0_ ?_)
  | (with_reducible refine Wp.rU_ ?_)
  | ((with_reducible refine Wp.rEq_ ?k ?_); (case k => exact rfl))
  | ((with_reducible refine Wp.rNe_ ?k ?_); (case k => exact rfl))
  | (with_reducible refine Wp.gcons ?_)
  | (with_reducible refine Wp.gnil ?_)
  | ((with_reducible refine' Wp.gtup ?h ?e ?_); (case h => walk_at "sq"); (case e => exact rfl))
  | (with_reducible refine Wp.sl ?_)
  | (with_reducible refine Wp.part ?_)
  | (with_reducible refine Wp.nopart ?_)
  | (with_reducible refine Wp.ifE ?_)
  | (with_reducible refine Wp.bm0 ?_)
  | (with_reducible refine Wp.bm ?_)
  | (with_reducible refine Wp.lcR1 ?_)
  | (with_reducible refine Wp.lcR2 ?_)
  | (with_reducible refine Wp.lcL ?_)
  | (with_reducible refine Wp.chain ?_)
  | (with_reducible refine Wp.lc2V ?_)
  | (with_reducible refine Wp.piL ?_)
  | (with_reducible refine Wp.yes ?_)
  | (with_reducible refine Wp.dinI ?_)
  | (with_reducible refine Wp.dninI ?_)
  | (with_reducible refine Wp.dget ?_)
  | ((with_reducible refine' ⟨?k, ?_⟩); (case k => show L2.wipe _ _ = L2.wipe _ _; exact rfl))
  | (with_reducible refine Wp.forR1 ?_)
  | (with_reducible refine Wp.forR2 ?_)
  | (with_reducible refine Wp.forL ?_)
  | (with_reducible refine Wp.forT ?_)
  | ((with_reducible refine' ⟨?k, ?_⟩); (case k => exact Wp.tyvL (by walk_at "hp")))
  | ((with_reducible refine' Wp.rev_ ?k ?_); (case k => walk_at "hp"))
  | ((with_reducible refine' Wp.isi ?k ?h ?_); (case k => walk_at "kind"); (case h => decide))
  | ((with_reducible refine' Wp.typ ?k ?_); (case k => walk_at "kind"))
  | (with_reducible refine Wp.slS ?k ?_; (case k => assumption))
  | (with_reducible refine iteT ?_)
  | (with_reducible refine iteF ?_)
  | (with_reducible refine Wz.par ?_)
  | (with_reducible refine Wz.forN ?_)
  | (with_reducible refine Wz.dcL ?_)
  | (with_reducible refine Wz.forZ ?_)
  | (with_reducible refine Wz.lcR3 ?_)
  | (with_reducible refine Wc.revL ?_)
  | (with_reducible refine Wd.nm ?_)
  | (with_reducible refine Wd.nget ?_)
  | ((with_reducible refine Wd.tnew ?_); intro p hp)
  | (with_reducible refine Wd.pikn ?_)
  | (with_reducible refine Wt.m1 ?_)
  | (with_reducible refine Wt.m0 ?_)
  | ((with_reducible refine' ⟨?k, ?_⟩); (case k => show ∃ a, _ = V.str a; exact ⟨_, rfl⟩))
  | (with_reducible refine Wt.js_cons ?_)
  | (with_reducible refine Wt.fmt_ ?_)
  | (with_reducible refine Wp.pcons ?_)
  | (with_reducible refine Wp.pnil ?_)
  | ((with_reducible refine' Wp.iteBnT ?h ?_); (case h => show isB _ _ = false; decide))
  | ((with_reducible refine' Wp.iteBnF ?h ?_); (case h => show isB _ _ = true; decide))
  | ((with_reducible refine' Wp.iteBt ?h ?_); (case h => show isB _ _ = true; decide))
  | ((with_reducible refine' Wp.iteBf ?h ?_); (case h => show isB _ _ = false; decide))
  | (with_reducible refine Wp.iteT' ?_)
  | (with_reducible refine Wp.iteF' ?_)
  | (with_reducible refine Wp.rNT_ ?_)
  | ((with_reducible refine Wp.lst ?_))
  | ((with_reducible refine Wp.tup ?_))
  | ((with_reducible refine' Wp.ixL ?h ?e ?_); (case h => walk_at "sq"); (case e => exact rfl))
  | ((with_reducible refine' Wp.ixT ?h ?e ?_); (case h => walk_at "sq"); (case e => exact rfl))
  | ((with_reducible refine' Wp.setL ?h ?e ?_); (case h => walk_at "hp"); (case e => exact rfl))
  | ((with_reducible refine Wp.rI_ ?k ?_); (case k => first | (show (0:Int) < _; omega) | (show CPow _ _; refine' ⟨?_, ?_, ?_⟩ <;> omega) | (show CDiv _ _; refine' ⟨?_, ?_⟩ <;> omega) | (show CMul _ _; refine' Or.inl ⟨?_, ?_⟩ <;> omega) | (show CMul _ _; refine' Or.inr ⟨?_, ?_⟩ <;> first | omega | decide) | (show CDivW _ _; refine' wide_div (b := 240) ?_ ?_ ?_ ?_ <;> first | omega | decide)))
  | ((with_reducible refine ⟨?k, ?_⟩); (case k => first | exact Nat.zero_le _ | (exact Nat.le_of_ble_eq_true rfl)); intro p hp)
  | ((with_reducible refine' ⟨_, _, rfl, .inl ?k, ?_⟩); (case k => walk_at "sq"))
  | ((with_reducible refine' ⟨_, _, rfl, .inr ?k, ?_⟩); (case k => walk_at "sq"))
  | (with_reducible refine ⟨_, rfl, ?_⟩)
  | (with_reducible refine ⟨_, _, rfl, rfl, ?_⟩)
  | (with_reducible refine ⟨_, _, rfl, ?_⟩))
local macro_rules | `(tactic| walk_at "wp") => `(tactic| repeat (walk_at "w1"))

def pText (ws : List W) : Str := if ws = [] then "none" else Txt.join " " (ws.map wText)
def POk (ws : List W) : Prop := ∀ z ∈ ws, WOk z
theorem sp_cps : (" " : Str).cps.toList = [32] := by decide +kernel
theorem join_cps (ys : List Str) : (Txt.join " " ys).cps.toList = TL.joinL [32] (ys.map TL.tl) := by
  have e := TL.tl_join (" " : Str) ys
  rw [TL.join_eq]
  show TL.tl (Str.join " " ys) = _
  rw [e]
  show TL.joinL (" " : Str).cps.toList _ = _
  rw [sp_cps]
theorem joinL_len (S : List Nat) : ∀ ls : List (List Nat), (∀ l ∈ ls, l.length ≤ 61) → (TL.joinL S ls).length ≤ ls.length * (61 + S.length)
  | [], _ => Nat.zero_le _
  | [p], h => by
    have := h p List.mem_cons_self
    show p.length ≤ 1 * (61 + S.length)
    omega
  | p :: q :: r, h => by
    have h1 := h p List.mem_cons_self
    have h2 := joinL_len S (q :: r) (fun l hl => h l (List.mem_cons_of_mem _ hl))
    show (p ++ (S ++ TL.joinL S (q :: r))).length ≤ (q :: r).length.succ * (61 + S.length)
    rw [List.length_append, List.length_append, Nat.succ_mul]
    omega
theorem joinL_head (S : List Nat) {p : List Nat} {c : Nat} {r : List Nat} (e : p = c :: r) : ∀ qs : List (List Nat), ∃ s, TL.joinL S (p :: qs) = c :: s
  | [] => ⟨r, e⟩
  | q :: qs => ⟨r ++ (S ++ TL.joinL S (q :: qs)), by subst e; rfl⟩
theorem wtl {z : W} (h : WOk z) : (TL.tl (wText z)).length ≤ 61 := by
  have e := wlen h
  show (wText z).cps.toList.length ≤ 61
  rw [Array.length_toList]
  exact e
theorem pText_len {ws : List W} (h : POk ws) (hl : ws.length ≤ 1000) : (pText ws).length ≤ 62000 := by
  unfold pText
  split
  · decide +kernel
  · show (Txt.join " " (ws.map wText)).cps.size ≤ 62000
    rw [← Array.length_toList, join_cps]
    have h2 := joinL_len [32] ((ws.map wText).map TL.tl) (fun l hl => by
      rw [List.map_map] at hl
      obtain ⟨z, hz, rfl⟩ := List.mem_map.mp hl
      exact wtl (h z hz))
    rw [List.length_map, List.length_map] at h2
    have : ws.length * (61 + [32].length) ≤ 1000 * 62 := Nat.mul_le_mul hl (by decide)
    omega
theorem pText_ne {ws : List W} (h : POk ws) (n : ws ≠ []) : pText ws ≠ "none" := by
  unfold pText
  rw [if_neg n]
  intro e
  cases ws with
  | nil => exact n rfl
  | cons z ws =>
    obtain ⟨l, hl⟩ := (h z List.mem_cons_self).wt
    obtain ⟨c, r, rfl, hc⟩ := hl.ne
    have e2 : (Txt.join " " ((z :: ws).map wText)).cps.toList = ("none" : Str).cps.toList := by rw [e]
    rw [join_cps] at e2
    obtain ⟨s, hs⟩ := joinL_head [32] (show TL.tl (wText z) = c :: r from hl.text) ((ws.map wText).map TL.tl)
    rw [List.map_cons, List.map_cons, hs, show ("none" : Str).cps.toList = [110, 111, 110, 101] by decide +kernel] at e2
    have := (List.cons.inj e2).1
    omega
theorem pText_split {ws : List W} (h : POk ws) (n : ws ≠ []) : Txt.split (pText ws) " " = ws.map wText := by
  unfold pText
  rw [if_neg n]
  refine TL.split_join (s := 32) (S := []) sp_cps (by decide +kernel) (fun e => n (List.map_eq_nil_iff.mp e)) fun p hp => ?_
  obtain ⟨z, hz, rfl⟩ := List.mem_map.mp hp
  obtain ⟨l, hl⟩ := (h z hz).wt
  show 32 ∉ (wText z).cps.toList
  rw [hl.text]
  exact hl.free
section
variable {P : Program} {w : World} {K : PySem.W.Frag} {mg : Str → Option Value} {base : Heap}
def spShowPile : Sp := fun vs H Q _ => ∃ (a : Addr) (xs : List V) (ws : List W), vs = [.ref a] ∧ H a = some (.lst xs) ∧ Pile H xs ws ∧ POk ws ∧ ws.length ≤ 1000 ∧ ∀ H', Same H H' → Q (.str (pText ws)) H'
theorem ok_show_pile (T : Txt P w K mg) : FnOk P w K mg base CX0 2 T.f_show_pile T.fd_show_pile ["worths"] spShowPile := by
  have G_show_worth := ok_show_worth (base := base) T
  refine T.F_show_pile.ok sc_show_pile (fun vs H Q E h => ?_) (fun cdv A outer s H vs Q E hr h => ?_)
  · obtain ⟨a, xs, ws, rfl, _⟩ := h
    rfl
  · obtain ⟨a, xs, ws, rfl, ha, hP, hok, hl, k⟩ := h
    refine ⟨_, (pss_cons (ps_if (pt_cmpR op_eq (pe_callB call_len_seq (by rfl) T.n_len (by decide +kernel) (pa_cons (pv 0) pa_nil)) pe_int (nomark _)) (pss_one (ps_ret pe_str)) pss_nil)
      (pss_one (ps_ret (pe_join pe_str (pe_lc (own := [("worth", 1)]) rfl sc_show_pile.nd (pi_list (pv 0)) (blkOk_by (N := ["worths", "worth"]) (sc := defScope s_show_pile) (by decide +kernel)) (fun _ _ _ _ _ => pg_name (i := 1) sc_show_pile.nd rfl (Or.inl rfl)) (fun _ _ _ _ _ => pts_nil) (fun _ _ _ _ _ => (pe_call G_show_worth (hr.mono (by decide)) (by rfl) T.g_show_worth T.F_show_worth.kp T.b_show_worth .nil pass0 (pa_cons (pv 1) pa_nil)))))))), ?_⟩
    rw [show L2.start ["worths", "worth"] [.ref a] = [some (.ref a), none] from rfl]
    try dsimp only [cxOf]
    walk_at "wp"
    have el := hP.len
    refine ite_ (fun e => ?_) (fun e => ?_)
    · walk_at "wp"
      have e0 : ws = [] := List.length_eq_zero_iff.mp (by have := V.int.inj e; omega)
      subst e0
      exact k _ (fun _ _ h => h)
    · have e0 : ws ≠ [] := fun q => e (by rw [el, q] <;> rfl)
      walk_at "wp"
      refine ⟨⟨xs, SqL.of ha⟩, fun D hD => ?_⟩
      refine loopCL (fun j H' => Same H H' ∧ H' D = some (.lst (((ws.take j).map wText).map V.str))) ⟨same_new hD, upd_same⟩ (fun j H' hj h => SqL.of (h.1 _ _ ha)) ?_ ?_
      · rintro j x H4 hx ⟨s4, hD4⟩
        obtain ⟨z, hz, hw⟩ := hP.get hx
        walk_at "wp"
        refine ⟨_, z, rfl, hw.keep (Same.tk s4), hok z (List.mem_of_getElem? hz), ?_⟩
        refine ⟨_, hD4, ?_, ?_, ?_⟩
        · rw [List.length_map, List.length_map]
          have q1 : (ws.take j).length ≤ 1000 := by rw [List.length_take]; omega
          have q2 : (1000 : Nat) < sizeLine := by decide
          omega
        · intro q o hq
          rw [upd_ne (ne_of_none hq hD)]
          exact s4 _ _ hq
        · rw [upd_same, List.take_add_one, hz, List.map_append, List.map_append] <;> rfl
      · rintro H4 ⟨s4, hD4⟩
        rw [el, List.take_length] at hD4
        refine ⟨_, D, ws.map wText, rfl, rfl, .inl (SqL.of hD4), ?_, ?_⟩
        · have hs : ((ws.map wText).map (·.length)).sum ≤ ws.length * 61 := by
            clear hD4 hP k e e0 el
            induction ws with
            | nil => exact Nat.zero_le _
            | cons z ws ih =>
              have h1 := wlen (hok z List.mem_cons_self)
              have h2 := ih (fun x hx => hok x (List.mem_cons_of_mem _ hx)) (by rw [List.length_cons] at hl; omega)
              rw [List.map_cons, List.map_cons, List.sum_cons, List.length_cons, Nat.succ_mul]
              show (wText z).length + _ ≤ _
              omega
          have h1 : (" " : Str).length = 1 := by decide +kernel
          rw [h1, List.length_map]
          omega
        · have := k H4 s4
          unfold pText at this
          rw [if_neg e0] at this
          exact this
def spReadPile : Sp := fun vs H Q _ => ∃ (ws : List W), vs = [.str (pText ws)] ∧ POk ws ∧ ws.length ≤ 1000 ∧ ∀ a xs H', H a = none → H' a = some (.lst xs) → Pile H' xs ws → Same H H' → Q (.ref a) H'
theorem ok_read_pile (T : Txt P w K mg) : FnOk P w K mg base CX0 4 T.f_read_pile T.fd_read_pile ["text"] spReadPile := by
  have G_read_worth := ok_read_worth (base := base) T
  have G_check_text := ok_check_text (base := base) T
  refine T.F_read_pile.ok sc_read_pile (fun vs H Q E h => ?_) (fun cdv A outer s H vs Q E hr h => ?_)
  · obtain ⟨ws, rfl, _⟩ := h
    rfl
  · obtain ⟨ws, rfl, hok, hl, k⟩ := h
    have lz : (pText ws).length ≤ sizeLine := Nat.le_trans (pText_len hok hl) (by decide)
    refine ⟨_, (pss_cons (ps_expr (pe_call G_check_text (hr.mono (by decide)) (by rfl) T.g_check_text T.F_check_text.kp T.b_check_text .nil pass0 (pa_cons (pv 0) pa_nil)))
      (pss_cons (ps_if (pt_cmpR op_eq (pv 0) pe_str (nomark _)) (pss_one (ps_ret (pe_lst pa_nil))) pss_nil)
      (pss_one (ps_ret (pe_lc (own := [("part", 1)]) rfl sc_read_pile.nd (pi_list (pe_split (pv 0) pe_str)) (blkOk_by (N := ["text", "part"]) (sc := defScope s_read_pile) (by decide +kernel)) (fun _ _ _ _ _ => pg_name (i := 1) sc_read_pile.nd rfl (Or.inl rfl)) (fun _ _ _ _ _ => pts_nil) (fun _ _ _ _ _ => (pe_call G_read_worth (hr.mono (by decide)) (by rfl) T.g_read_worth T.F_read_worth.kp T.b_read_worth .nil pass0 (pa_cons (pv 1) pa_nil)))))))), ?_⟩
    rw [show L2.start ["text", "part"] [.str (pText ws)] = [some (.str (pText ws)), none] from rfl]
    try dsimp only [cxOf]
    walk_at "wp"
    refine ⟨_, rfl, ?_⟩
    walk_at "wp"
    refine ite_ (fun e => ?_) (fun e => ?_)
    · have e0 : ws = [] := Classical.byContradiction fun n => pText_ne hok n (V.str.inj e)
      subst e0
      walk_at "wp"
      rename_i p hp
      exact k p [] _ hp upd_same Pile.nil (same_new hp)
    · have e0 : ws ≠ [] := fun q => e (by rw [q]; rfl)
      walk_at "wp"
      refine ⟨by decide +kernel, ?_, ?_⟩
      · have := pText_len hok hl
        exact Nat.le_trans (Nat.add_le_add this (Nat.le_refl 2)) (by decide)
      rw [pText_split hok e0]
      intro a ha
      refine ⟨a, rfl, ⟨_, SqL.of upd_same⟩, fun D hD => ?_⟩
      have hDa : D ≠ a := (ne_of_none upd_same hD).symm
      have hD0 : H D = none := by rw [upd_ne hDa] at hD; exact hD
      refine loopCL (fun j H' => Same H H' ∧ H' a = some (.lst ((ws.map wText).map V.str)) ∧ ∃ xs, H' D = some (.lst xs) ∧ Pile H' xs (ws.take j)) ⟨(same_new ha).trans (same_new hD), by rw [upd_ne hDa.symm]; exact upd_same, [], upd_same, Pile.nil⟩ (fun j H' hj h => SqL.of h.2.1) ?_ ?_
      · rintro j x H4 hx ⟨s4, ha4, xs, hD4, hP4⟩
        rw [List.getElem?_map, List.getElem?_map] at hx
        cases hz : ws[j]? with
        | none =>
          rw [hz] at hx
          cases hx
        | some z =>
          rw [hz] at hx
          cases hx
          walk_at "wp"
          refine ⟨z, rfl, hok z (List.mem_of_getElem? hz), fun v H5 hv s5 => ?_⟩
          have hP5 := hP4.keep (Same.tk s5)
          refine ⟨xs, s5 _ _ hD4, ?_, ?_, ?_, ?_⟩
          · rw [hP4.len]
            have q1 : (ws.take j).length ≤ 1000 := by rw [List.length_take]; omega
            have q2 : (1000 : Nat) < sizeLine := by decide
            omega
          · intro q o hq
            rw [upd_ne (ne_of_none hq hD0)]
            exact s5 _ _ (s4 _ _ hq)
          · rw [upd_ne hDa.symm]
            exact s5 _ _ ha4
          · refine ⟨_, upd_same, ?_⟩
            rw [List.take_add_one, hz]
            exact Pile.app (hP5.keep (Tk.lst (s5 _ _ hD4))) (Pile.one (hv.keep (Tk.lst (s5 _ _ hD4))))
      · rintro H4 ⟨s4, ha4, xs, hD4, hP4⟩
        rw [List.length_map, List.length_map, List.take_length] at hP4
        exact k D xs H4 hD0 hD4 hP4 s4
end
end K03

namespace K03
open PySem PySem.Spec PyProof.Rows L2 Wp Wq Wt
local macro_rules | `(tactic| walk_at "ne") => `(tactic| first
  | assumption
  | (refine Ne.symm ?_; assumption)
  | exact ne_of_none (by assumption) (by assumption)
  | exact (ne_of_none (by assumption) (by assumption)).symm
  | exact ne_of (by assumption) (by assumption) (by intro q; cases q))
local macro_rules | `(tactic| walk_at "hp") => `(tactic| first
  | assumption
  | exact upd_same
  | (refine (upd_ne ?_).trans ?_; (walk_at "ne"); (walk_at "hp")))
local macro_rules | `(tactic| walk_at "sq") => `(tactic| first
  | assumption
  | exact SqL.of (by walk_at "hp")
  | exact SqT.of (by walk_at "hp"))
local macro_rules | `(tactic| walk_at "kind") => `(tactic| first
  | assumption
  | exact Kind.int _
  | exact Kind.str _
  | exact Kind.bl _
  | exact Kind.non
  | exact Kind.tup (by walk_at "hp")
  | exact Kind.lst (by walk_at "hp")
  | exact Kind.dK (by walk_at "hp"))
local macro_rules | `(tactic| walk_at "w1") => `(tactic| first
  | (with_reducible refine Wp.seq ?_)
  | (with_reducible refine Wp.nx_mk ?_)
  | (with_reducible refine Wp.rt_mk ?_)
  | (with_reducible refine Wp.bk_mk ?_)
  | (with_reducible refine Wp.ct_mk ?_)
  | (with_reducible refine Wp.next ?_)
  | (with_reducible refine Wp.asg ?_)
  | ((with_reducible refine' Wp.gname ?e ?_); (case e => (try dsimp only [List.set, L2.wipe, List.map_cons, List.map_nil]); (try exact rfl)))
  | (with_reducible refine Wp.gsub ?_)
  | (with_reducible refine Wp.ret ?_)
  | (with_reducible refine Wp.retN ?_)
  | (with_reducible refine Wp.drop ?_)
  | (with_reducible refine Wp.dput ?_)
  | (with_reducible refine Wp.ifs ?_)
  | ((with_reducible refine' Wp.var ?h ?_); (case h => exact rfl))
  | (with_reducible refine Wp.con ?_)
  | (with_reducible refine Wp.op ?_)
  | (with_reducible refine Wp.un ?_)
  | (with_reducible refine Wp.cb ?_)
  | (with_reducible refine Wp.anil ?_)
  | (with_reducible refine Wp.acons ?_)
  | (with_reducible refine Wp.call ?_)
  | (with_reducible refine Wp.test ?_)
  | (with_reducible refine Wp.tb_ ?_)
  | (with_reducible refine Wp.and_ ?_)
  | (with_reducible refine Wp.or_ ?_)
  | (with_reducible refine Wp.not_ ?_)
  | (with_reducible refine Wp.andV ?_)
  | (with_reducible refine Wp.orV ?_)
  | (with_reducible refine Wp.notV ?_)
  | (with_reducible refine Wp.rI0_ ?_)
  | (with_reducible refine Wp.rU_ ?_)
  | ((with_reducible refine Wp.rEq_ ?k ?_); (case k => exact rfl))
  | ((with_reducible refine Wp.rNe_ ?k ?_); (case k => exact rfl))
  | (with_reducible refine Wp.gcons ?_)
  | (with_reducible refine Wp.gnil ?_)
  | ((with_reducible refine' Wp.gtup ?h ?e ?_); (case h => walk_at "sq"); (case e => exact rfl))
  | (with_reducible refine Wp.sl ?_)
  | (with_reducible refine Wp.part ?_)
  | (with_reducible refine Wp.nopart ?_)
  | (with_reducible refine Wp.ifE ?_)
  | (with_reducible refine Wp.bm0 ?_)
  | (with_reducible refine Wp.bm ?_)
  | (with_reducible refine Wp.lcR1 ?_)
  | (with_reducible refine Wp.lcR2 ?_)
  | (with_reducible refine Wp.lcL ?_)
  | (with_reducible refine Wp.chain ?_)
  | (with_reducible refine Wp.lc2V ?_)
  | (with_reducible refine Wp.piL ?_)
  | (with_reducible refine Wp.yes ?_)
  | (with_reducible refine Wp.dinI ?_)
  | (with_reducible refine Wp.dninI ?_)
  | (with_reducible refine Wp.dget ?_)
  | ((with_reducible refine' ⟨?k, ?_⟩); (case k => show L2.wipe _ _ = L2.wipe _ _; exact rfl))
  | (with_reducible refine Wp.forR1 ?_)
  | (with_reducible refine Wp.forR2 ?_)
  | (with_reducible refine Wp.forL ?_)
  | (with_reducible refine Wp.forT ?_)
  | ((with_reducible refine' ⟨?k, ?_⟩); (case k => exact Wp.tyvL (by walk_at "hp")))
  | ((with_reducible refine' Wp.rev_ ?k ?_); (case k => walk_at "hp"))
  | ((with_reducible refine' Wp.isi ?k ?h ?_); (case k => walk_at "kind"); (case h => decide))
  | ((with_reducible refine' Wp.typ ?k ?_); (case k => walk_at "kind"))
  | (with_reducible refine Wp.slS ?k ?_; (case k => assumption))
  | (with_reducible refine iteT ?_)
  | (with_reducible refine iteF ?_)
  | (with_reducible refine Wz.par ?_)
  | (with_reducible refine Wz.forN ?_)
  | (with_reducible refine Wz.dcL ?_)
  | (with_reducible refine Wz.forZ ?_)
  | (with_reducible refine Wz.lcR3 ?_)
  | (with_reducible refine Wc.revL ?_)
  | (with_reducible refine Wd.nm ?_)
  | (with_reducible refine Wd.nget ?_)
  | ((with_reducible refine Wd.tnew ?_); intro p hp)
  | (with_reducible refine Wd.pikn ?_)
  | (with_reducible refine Wt.m1 ?_)
  | (with_reducible refine Wt.m0 ?_)
  | ((with_reducible refine' ⟨?k, ?_⟩); (case k => show ∃ a, _ = V.str a; exact ⟨_, rfl⟩))
  | (with_reducible refine Wt.js_cons ?_)
  | (with_reducible refine Wt.fmt_ ?_)
  | (with_reducible refine Wp.pcons ?_)
  | (with_reducible refine Wp.pnil ?_)
  | ((with_reducible refine' Wp.iteBnT ?h ?_); (case h => show isB _ _ = false; decide))
  | ((with_reducible refine' Wp.iteBnF ?h ?_); (case h => show isB _ _ = true; decide))
  | ((with_reducible refine' Wp.iteBt ?h ?_); (case h => show isB _ _ = true; decide))
  | ((with_reducible refine' Wp.iteBf ?h ?_); (case h => show isB _ _ = false; decide))
  | (with_reducible refine Wp.iteT' ?_)
  | (with_reducible refine Wp.iteF' ?_)
  | (with_reducible refine Wp.rNT_ ?_)
  | ((with_reducible refine Wp.lst ?_))
  | ((with_reducible refine Wp.tup ?_))
  | ((with_reducible refine' Wp.ixL ?h ?e ?_); (case h => walk_at "sq"); (case e => exact rfl))
  | ((with_reducible refine' Wp.ixT ?h ?e ?_); (case h => walk_at "sq"); (case e => exact rfl))
  | ((with_reducible refine' Wp.setL ?h ?e ?_); (case h => walk_at "hp"); (case e => exact rfl))
  | ((with_reducible refine Wp.rI_ ?k ?_); (case k => first | (show (0:Int) < _; omega) | (show CPow _ _; refine' ⟨?_, ?_, ?_⟩ <;> omega) | (show CDiv _ _; refine' ⟨?_, ?_⟩ <;> omega) | (show CMul _ _; refine' Or.inl ⟨?_, ?_⟩ <;> omega) | (show CMul _ _; refine' Or.inr ⟨?_, ?_⟩ <;> first | omega | decide) | (show CDivW _ _; refine' wide_div (b := 240) ?_ ?_ ?_ ?_ <;> first | omega | decide)))
  | ((with_reducible refine ⟨?k, ?_⟩); (case k => first | exact Nat.zero_le _ | (exact Nat.le_of_ble_eq_true rfl)); intro p hp)
  | ((with_reducible refine' ⟨_, _, rfl, .inl ?k, ?_⟩); (case k => walk_at "sq"))
  | ((with_reducible refine' ⟨_, _, rfl, .inr ?k, ?_⟩); (case k => walk_at "sq"))
  | (with_reducible refine ⟨_, rfl, ?_⟩)
  | (with_reducible refine ⟨_, _, rfl, rfl, ?_⟩)
  | (with_reducible refine ⟨_, _, rfl, ?_⟩))
local macro_rules | `(tactic| walk_at "wp") => `(tactic| repeat (walk_at "w1"))

theorem WOk.wok {z : W} (h : WOk z) : Wok z := by
  obtain ⟨zw, zi⟩ := z
  have h1 : isWord zw → PyData.strOk zw = true := by
    rintro (rfl | rfl | rfl | rfl) <;> decide +kernel
  exact h1 h.1
section
variable {P : Program} {w : World} {K : PySem.W.Frag} {mg : Str → Option Value} {base : Heap}
def spWorth : Sp := fun vs H Q _ => ∃ (b : Addr) (n : Nat), vs = [.ref b] ∧ Bag H b n ∧ n < 800000 ∧ ∀ v z (H' : Hp), IsW H' v z → WOk z → Bag H' b (n + 9) → Kp b H H' → Q v H'
theorem ok_worth (T : Txt P w K mg) : FnOk P w K mg base CX0 3 T.f_worth T.fd_worth ["bag"] spWorth := by
  have G_draw := ok_draw (base := base) T
  have G_number := ok_number (base := base) T
  refine T.F_worth.ok sc_worth (fun vs H Q E h => ?_) (fun cdv A outer s H vs Q E hr h => ?_)
  · obtain ⟨b, n, rfl, _⟩ := h
    rfl
  · obtain ⟨b, n, rfl, hb, hn, k⟩ := h
    refine ⟨_, (pss_cons (ps_set (i := 1) sc_worth.nd rfl (.inl rfl) (pe_ix ix_list (pe_lst (pa_cons pe_str (pa_cons pe_str (pa_cons pe_str (pa_cons pe_str pa_nil))))) (pe_call G_draw (hr.mono (by decide)) (by rfl) T.g_draw T.F_draw.kp T.b_draw .nil pass0 (pa_cons (pv 0) (pa_cons pe_int pa_nil))) (fun _ _ => rfl)))
      (pss_cons (ps_set (i := 2) sc_worth.nd rfl (.inl rfl) (pe_call G_draw (hr.mono (by decide)) (by rfl) T.g_draw T.F_draw.kp T.b_draw .nil pass0 (pa_cons (pv 0) (pa_cons pe_int pa_nil))))
      (pss_cons (ps_set (i := 3) sc_worth.nd rfl (.inl rfl) (pe_call G_number (hr.mono (by decide)) (by rfl) T.g_number T.F_number.kp T.b_number .nil pass0 (pa_cons (pv 0) pa_nil)))
      (pss_cons (ps_if (PW.pt (pw_and (pt_cmpR op_eq (pv 1) pe_str (nomark _)) (pw_and1 (pt_cmpR op_eq (pv 2) pe_int (nomark _))))) (pss_one (ps_set (i := 3) sc_worth.nd rfl (.inl rfl) (pe_un un_neg (pv 3)))) pss_nil)
      (pss_one (ps_ret (pe_tup (pa_cons (pv 1) (pa_cons (pv 3) pa_nil))))))))), ?_⟩
    rw [show L2.start ["bag", "word", "below", "number"] [.ref b] = [some (.ref b), none, none, none] from rfl]
    try dsimp only [cxOf]
    walk_at "wp"
    rename_i p hp
    refine ⟨b, n, _, rfl, hb.keep (same_new hp), by omega, by decide, by decide, fun i1 H1 w0 w1 hb1 k1 => ?_⟩
    have hpl : H1 p = _ := k1 _ _ (hb.ne_new hp) upd_same
    obtain ⟨wd, hwd, hw⟩ : ∃ wd : Str, atI [V.str "num", V.str "at", V.str "box", V.str "go"] i1 = some (V.str wd) ∧ isWord wd := by
      have cc : i1 = 0 ∨ i1 = 1 ∨ i1 = 2 ∨ i1 = 3 := by omega
      rcases cc with rfl | rfl | rfl | rfl
      · exact ⟨_, rfl, .inl rfl⟩
      · exact ⟨_, rfl, .inr (.inl rfl)⟩
      · exact ⟨_, rfl, .inr (.inr (.inl rfl))⟩
      · exact ⟨_, rfl, .inr (.inr (.inr rfl))⟩
    refine ixL (SqL.of hpl) hwd ?_
    walk_at "wp"
    refine ⟨b, n + 1, _, rfl, hb1, by omega, by decide, by decide, fun i2 H2 v0 v1 hb2 k2 => ?_⟩
    walk_at "wp"
    refine ⟨b, n + 2, rfl, hb2, by omega, fun v H3 vn vm hb3 k3 => ?_⟩
    have kk : Kp b H H3 := Kp.trans (Kp.new hp) (Kp.trans k1 (Kp.trans k2 k3))
    have na : v.natAbs < 10 ^ 60 := by
      have e : ((10 : Int) ^ 60) = ((10 ^ 60 : Nat) : Int) := by decide +kernel
      omega
    walk_at "wp"
    refine ite_ (fun c1 => ?_) (fun c1 => ?_)
    · have e1 : wd = "num" := V.str.inj c1
      walk_at "wp"
      refine ite_ (fun c2 => ?_) (fun c2 => ?_)
      · walk_at "wp"
        rename_i t ht
        exact k _ (wd, -v) _ ⟨t, rfl, upd_same⟩ ⟨hw, by show (-v).natAbs < 10 ^ 60; rw [Int.natAbs_neg]; exact na, fun h => absurd e1 h⟩ (hb3.keep (same_new ht)) (Kp.trans kk (Kp.new ht))
      · walk_at "wp"
        rename_i t ht
        exact k _ (wd, v) _ ⟨t, rfl, upd_same⟩ ⟨hw, na, fun h => absurd e1 h⟩ (hb3.keep (same_new ht)) (Kp.trans kk (Kp.new ht))
    · walk_at "wp"
      rename_i t ht
      exact k _ (wd, v) _ ⟨t, rfl, upd_same⟩ ⟨hw, na, fun _ => vn⟩ (hb3.keep (same_new ht)) (Kp.trans kk (Kp.new ht))
def spWritten : Sp := fun vs H Q _ => ∃ (v : V) (z : W), vs = [v] ∧ IsW H v z ∧ WOk z ∧ Q (.str (wText z)) H
theorem ok_written (T : Txt P w K mg) : FnOk P w K mg base CX0 1 T.f_written T.fd_written ["worth"] spWritten := by
  refine T.F_written.ok sc_written (fun vs H Q E h => ?_) (fun cdv A outer s H vs Q E hr h => ?_)
  · obtain ⟨v, z, rfl, _⟩ := h
    rfl
  · obtain ⟨v, ⟨zw, zi⟩, rfl, ⟨t, rfl, ht⟩, hz, k⟩ := h
    have lt := log_ok hz.2.1
    have ln : (numT zi).length ≤ 61 := numT_any hz.2.1
    have big : (1000 : Nat) ≤ sizeLine := by decide
    have h1 : isWord zw := hz.1
    refine ⟨_, (pss_cons (ps_asg (pv 0) (pg_tup (by rfl) (pgs_cons (pg_name (i := 1) sc_written.nd rfl (.inl rfl)) (pgs_cons (pg_name (i := 2) sc_written.nd rfl (.inl rfl)) pgs_nil))))
      (pss_cons (ps_if (pt_cmpR op_eq (pv 1) pe_str (nomark _)) (pss_one (ps_ret (pe_callTy call_str_int (by rfl) T.n_str (by decide +kernel) (pa_cons (pv 2) pa_nil)))) pss_nil)
      (pss_cons (ps_if (pt_cmpR op_eq (pv 1) pe_str (nomark _)) (pss_one (ps_ret (pe_op op_add_str pe_str (pe_callTy call_str_int (by rfl) T.n_str (by decide +kernel) (pa_cons (pv 2) pa_nil))))) pss_nil)
      (pss_one (ps_ret (pe_op op_add_str (pe_ix ix_str (pv 1) pe_int (fun _ _ => rfl)) (pe_callTy call_str_int (by rfl) T.n_str (by decide +kernel) (pa_cons (pv 2) pa_nil)))))))), ?_⟩
    rw [show L2.start ["worth", "word", "number"] [.ref t] = [some (.ref t), none, none] from rfl]
    try dsimp only [cxOf]
    walk_at "wp"
    refine ite_ (fun e => ?_) (fun e => ?_)
    · have e1 : zw = "num" := V.str.inj e
      subst e1
      walk_at "wp"
      refine ⟨lt, ?_⟩
      rw [wText_num] at k
      exact k
    walk_at "wp"
    refine ite_ (fun e => ?_) (fun e => ?_)
    · have e1 : zw = "at" := V.str.inj e
      subst e1
      walk_at "wp"
      refine ⟨lt, ?_⟩
      refine ⟨_, _, rfl, rfl, ?_, k⟩
      have e : ("@" : Str).length = 1 := by decide +kernel
      show ("@" : Str).length + (numT zi).length ≤ sizeLine
      omega
    walk_at "wp"
    have h2 : zw = "box" ∨ zw = "go" := by
      rcases h1 with h | h | h | h
      · exact absurd (congrArg V.str h) ‹_›
      · exact absurd (congrArg V.str h) ‹_›
      · exact .inl h
      · exact .inr h
    rcases h2 with rfl | rfl
    · refine ⟨_, 0, 98, rfl, rfl, by decide +kernel, by decide +kernel, ?_⟩
      walk_at "wp"
      refine ⟨lt, ?_⟩
      refine ⟨_, _, rfl, rfl, ?_, ?_⟩
      · show (⟨#[98]⟩ : Str).length + (numT zi).length ≤ sizeLine
        rw [str1_len]
        omega
      · rw [show (⟨#[98]⟩ : Str) = "b" by decide +kernel]
        exact k
    · refine ⟨_, 0, 103, rfl, rfl, by decide +kernel, by decide +kernel, ?_⟩
      walk_at "wp"
      refine ⟨lt, ?_⟩
      refine ⟨_, _, rfl, rfl, ?_, ?_⟩
      · show (⟨#[103]⟩ : Str).length + (numT zi).length ≤ sizeLine
        rw [str1_len]
        omega
      · rw [show (⟨#[103]⟩ : Str) = "g" by decide +kernel]
        exact k
end
end K03

namespace K03
open PySem PySem.Spec PyProof.Rows L2 Wp Wq Wt
local macro_rules | `(tactic| walk_at "ne") => `(tactic| first
  | assumption
  | (refine Ne.symm ?_; assumption)
  | exact ne_of_none (by assumption) (by assumption)
  | exact (ne_of_none (by assumption) (by assumption)).symm
  | exact ne_of (by assumption) (by assumption) (by intro q; cases q))
local macro_rules | `(tactic| walk_at "hp") => `(tactic| first
  | assumption
  | exact upd_same
  | (refine (upd_ne ?_).trans ?_; (walk_at "ne"); (walk_at "hp")))
local macro_rules | `(tactic| walk_at "sq") => `(tactic| first
  | assumption
  | exact SqL.of (by walk_at "hp")
  | exact SqT.of (by walk_at "hp"))
local macro_rules | `(tactic| walk_at "kind") => `(tactic| first
  | assumption
  | exact Kind.int _
  | exact Kind.str _
  | exact Kind.bl _
  | exact Kind.non
  | exact Kind.tup (by walk_at "hp")
  | exact Kind.lst (by walk_at "hp")
  | exact Kind.dK (by walk_at "hp"))
local macro_rules | `(tactic| walk_at "w1") => `(tactic| first
  | (with_reducible refine Wp.seq ?_)
  | (with_reducible refine Wp.nx_mk ?_)
  | (with_reducible refine Wp.rt_mk ?_)
  | (with_reducible refine Wp.bk_mk ?_)
  | (with_reducible refine Wp.ct_mk ?_)
  | (with_reducible refine Wp.next ?_)
  | (with_reducible refine Wp.asg ?_)
  | ((with_reducible refine' Wp.gname ?e ?_); (case e => (try dsimp only [List.set, L2.wipe, List.map_cons, List.map_nil]); (try exact rfl)))
  | (with_reducible refine Wp.gsub ?_)
  | (with_reducible refine Wp.ret ?_)
  | (with_reducible refine Wp.retN ?_)
  | (with_reducible refine Wp.drop ?_)
  | (with_reducible refine Wp.dput ?_)
  | (with_reducible refine Wp.ifs ?_)
  | ((with_reducible refine' Wp.var ?h ?_); (case h => exact rfl))
  | (with_reducible refine Wp.con ?_)
  | (with_reducible refine Wp.op ?_)
  | (with_reducible refine Wp.un ?_)
  | (with_reducible refine Wp.cb ?_)
  | (with_reducible refine Wp.anil ?_)
  | (with_reducible refine Wp.acons ?_)
  | (with_reducible refine Wp.call ?_)
  | (with_reducible refine Wp.test ?_)
  | (with_reducible refine Wp.tb_ ?_)
  | (with_reducible refine Wp.and_ ?_)
  | (with_reducible refine Wp.or_ ?_)
  | (with_reducible refine Wp.not_ ?_)
  | (with_reducible refine Wp.andV ?_)
  | (with_reducible refine Wp.orV ?_)
  | (with_reducible refine Wp.notV ?_)
  | (with_reducible refine Wp.rI0_ ?_)
  | (with_reducible refine Wp.rU_ ?_)
  | ((with_reducible refine Wp.rEq_ ?k ?_); (case k => exact rfl))
  | ((with_reducible refine Wp.rNe_ ?k ?_); (case k => exact rfl))
  | (with_reducible refine Wp.gcons ?_)
  | (with_reducible refine Wp.gnil ?_)
  | ((with_reducible refine' Wp.gtup ?h ?e ?_); (case h => walk_at "sq"); (case e => exact rfl))
  | (with_reducible refine Wp.sl ?_)
  | (with_reducible refine Wp.part ?_)
  | (with_reducible refine Wp.nopart ?_)
  | (with_reducible refine Wp.ifE ?_)
  | (with_reducible refine Wp.bm0 ?_)
  | (with_reducible refine Wp.bm ?_)
  | (with_reducible refine Wp.lcR1 ?_)
  | (with_reducible refine Wp.lcR2 ?_)
  | (with_reducible refine Wp.lcL ?_)
  | (with_reducible refine Wp.chain ?_)
  | (with_reducible refine Wp.lc2V ?_)
  | (with_reducible refine Wp.piL ?_)
  | (with_reducible refine Wp.yes ?_)
  | (with_reducible refine Wp.dinI ?_)
  | (with_reducible refine Wp.dninI ?_)
  | (with_reducible refine Wp.dget ?_)
  | ((with_reducible refine' ⟨?k, ?_⟩); (case k => show L2.wipe _ _ = L2.wipe _ _; exact rfl))
  | (with_reducible refine Wp.forR1 ?_)
  | (with_reducible refine Wp.forR2 ?_)
  | (with_reducible refine Wp.forL ?_)
  | (with_reducible refine Wp.forT ?_)
  | ((with_reducible refine' ⟨?k, ?_⟩); (case k => exact Wp.tyvL (by walk_at "hp")))
  | ((with_reducible refine' Wp.rev_ ?k ?_); (case k => walk_at "hp"))
  | ((with_reducible refine' Wp.isi ?k ?h ?_); (case k => walk_at "kind"); (case h => decide))
  | ((with_reducible refine' Wp.typ ?k ?_); (case k => walk_at "kind"))
  | (with_reducible refine Wp.slS ?k ?_; (case k => assumption))
  | (with_reducible refine iteT ?_)
  | (with_reducible refine iteF ?_)
  | (with_reducible refine Wz.par ?_)
  | (with_reducible refine Wz.forN ?_)
  | (with_reducible refine Wz.dcL ?_)
  | (with_reducible refine Wz.forZ ?_)
  | (with_reducible refine Wz.lcR3 ?_)
  | (with_reducible refine Wc.revL ?_)
  | (with_reducible refine Wd.nm ?_)
  | (with_reducible refine Wd.nget ?_)
  | ((with_reducible refine Wd.tnew ?_); intro p hp)
  | (with_reducible refine Wd.pikn ?_)
  | (with_reducible refine Wt.m1 ?_)
  | (with_reducible refine Wt.m0 ?_)
  | ((with_reducible refine' ⟨?k, ?_⟩); (case k => show ∃ a, _ = V.str a; exact ⟨_, rfl⟩))
  | (with_reducible refine Wt.js_cons ?_)
  | (with_reducible refine Wt.fmt_ ?_)
  | (with_reducible refine Wp.pcons ?_)
  | (with_reducible refine Wp.pnil ?_)
  | ((with_reducible refine' Wp.iteBnT ?h ?_); (case h => show isB _ _ = false; decide))
  | ((with_reducible refine' Wp.iteBnF ?h ?_); (case h => show isB _ _ = true; decide))
  | ((with_reducible refine' Wp.iteBt ?h ?_); (case h => show isB _ _ = true; decide))
  | ((with_reducible refine' Wp.iteBf ?h ?_); (case h => show isB _ _ = false; decide))
  | (with_reducible refine Wp.iteT' ?_)
  | (with_reducible refine Wp.iteF' ?_)
  | (with_reducible refine Wp.rNT_ ?_)
  | ((with_reducible refine Wp.lst ?_))
  | ((with_reducible refine Wp.tup ?_))
  | ((with_reducible refine' Wp.ixL ?h ?e ?_); (case h => walk_at "sq"); (case e => exact rfl))
  | ((with_reducible refine' Wp.ixT ?h ?e ?_); (case h => walk_at "sq"); (case e => exact rfl))
  | ((with_reducible refine' Wp.setL ?h ?e ?_); (case h => walk_at "hp"); (case e => exact rfl))
  | ((with_reducible refine Wp.rI_ ?k ?_); (case k => first | (show (0:Int) < _; omega) | (show CPow _ _; refine' ⟨?_, ?_, ?_⟩ <;> omega) | (show CDiv _ _; refine' ⟨?_, ?_⟩ <;> omega) | (show CMul _ _; refine' Or.inl ⟨?_, ?_⟩ <;> omega) | (show CMul _ _; refine' Or.inr ⟨?_, ?_⟩ <;> first | omega | decide) | (show CDivW _ _; refine' wide_div (b := 240) ?_ ?_ ?_ ?_ <;> first | omega | decide)))
  | ((with_reducible refine ⟨?k, ?_⟩); (case k => first | exact Nat.zero_le _ | (exact Nat.le_of_ble_eq_true rfl)); intro p hp)
  | ((with_reducible refine' ⟨_, _, rfl, .inl ?k, ?_⟩); (case k => walk_at "sq"))
  | ((with_reducible refine' ⟨_, _, rfl, .inr ?k, ?_⟩); (case k => walk_at "sq"))
  | (with_reducible refine ⟨_, rfl, ?_⟩)
  | (with_reducible refine ⟨_, _, rfl, rfl, ?_⟩)
  | (with_reducible refine ⟨_, _, rfl, ?_⟩))
local macro_rules | `(tactic| walk_at "wp") => `(tactic| repeat (walk_at "w1"))

/-- the text that the law glues: a blank ahead of each -/
def glue (ws : List W) : List Nat := (ws.map fun z => 32 :: TL.tl (wText z)).flatten
theorem glue_join : ∀ (z : W) (ws : List W), glue (z :: ws) = 32 :: TL.joinL [32] (((z :: ws).map wText).map TL.tl)
  | z, [] => by
    unfold glue
    simp only [List.map_cons, List.map_nil, List.flatten_cons, List.flatten_nil, List.append_nil]
    rfl
  | z, y :: ws => by
    have ih := glue_join y ws
    unfold glue at *
    rw [List.map_cons, List.flatten_cons, ih, List.map_cons, List.map_cons]
    show 32 :: (TL.tl (wText z) ++ _) = 32 :: TL.joinL [32] (TL.tl (wText z) :: TL.tl (wText y) :: (ws.map wText).map TL.tl)
    show _ = 32 :: (TL.tl (wText z) ++ ([32] ++ TL.joinL [32] (TL.tl (wText y) :: (ws.map wText).map TL.tl)))
    rfl
theorem glue_app (ws : List W) (z : W) : glue (ws ++ [z]) = glue ws ++ (32 :: TL.tl (wText z)) := by
  unfold glue
  rw [List.map_append, List.flatten_append, List.map_cons, List.map_nil, List.flatten_cons, List.flatten_nil, List.append_nil]
theorem glue_len {ws : List W} (h : POk ws) : (glue ws).length ≤ ws.length * 62 := by
  induction ws with
  | nil => exact Nat.zero_le _
  | cons z ws ih =>
    have h1 := wtl (h z List.mem_cons_self)
    have h2 := ih (fun x hx => h x (List.mem_cons_of_mem _ hx))
    unfold glue at *
    rw [List.map_cons, List.flatten_cons, List.length_append, List.length_cons, List.length_cons, Nat.succ_mul]
    omega
theorem cut_glue {s : Str} {z : W} {ws : List W} (h : s.cps.toList = glue (z :: ws)) : cutS s (some 1) none = pText (z :: ws) := by
  refine TL.ext_tl ?_
  rw [glue_join] at h
  show (cutS s (some 1) none).cps.toList = (pText (z :: ws)).cps.toList
  rw [cut_tail h]
  unfold pText
  rw [if_neg (by simp), join_cps]
theorem dp_nil {H : Hp} {K : PySem.W.Frag} {a : Addr} (h : H a = some (.lst [])) : Dp K H (.ref a) (.list []) := .lst (SqL.of h) .nil
section
variable {P : Program} {w : World} {K : PySem.W.Frag} {mg : Str → Option Value} {base : Heap}
def spGood : Sp := fun vs H Q _ => ∃ (a : Addr) (xs : List V) (ws : List W), vs = [.ref a] ∧ H a = some (.lst xs) ∧ Pile H xs ws ∧ POk ws ∧ ws.length ≤ 1000 ∧ ∀ H', Same H H' → Q (.bl true) H'
theorem ok_pile_good (T : Txt P w K mg) : FnOk P w K mg base CX0 5 T.f_pile_good T.fd_pile_good ["pile"] spGood := by
  have G_written := ok_written (base := base) T
  have G_show_pile := ok_show_pile (base := base) T
  have G_read_pile := ok_read_pile (base := base) T
  have G_same_pile := ok_same_pile (base := base) T
  refine T.F_pile_good.ok sc_pile_good (fun vs H Q E h => ?_) (fun cdv A outer s H vs Q E hr h => ?_)
  · obtain ⟨a, xs, ws, rfl, _⟩ := h
    rfl
  · obtain ⟨a, xs, ws, rfl, ha, hP, hok, hl, k⟩ := h
    have el := hP.len
    have hw : ∀ z ∈ ws, Wok z := fun z hz => (hok z hz).wok
    refine ⟨_, (pss_cons (ps_set (i := 1) sc_pile_good.nd rfl (.inl rfl) pe_str)
      (pss_cons (ps_for PassesOwn.never rfl (pi_list (pv 0)) (pg_name (i := 2) sc_pile_good.nd rfl (.inl rfl)) (pss_one (ps_set (i := 1) sc_pile_good.nd rfl (.inl rfl) (pe_op op_add_str (pe_op op_add_str (pv 1) pe_str) (pe_call G_written (hr.mono (by decide)) (by rfl) T.g_written T.F_written.kp T.b_written .nil pass0 (pa_cons (pv 2) pa_nil))))))
      (pss_cons (ps_set (i := 1) sc_pile_good.nd rfl (.inl rfl) (pe_slice sl_str (pv 1) (po_some pe_int) po_none))
      (C8.pss_cut (ps_if (pt_cmpR (op_eqD hr.units) (pv 0) (pe_lst pa_nil) (nomark _)) (pss_one (ps_set (i := 1) sc_pile_good.nd rfl (.inl rfl) pe_str)) pss_nil)
      (pss_cons (ps_set (i := 3) sc_pile_good.nd rfl (.inl rfl) (pe_callTy call_list_of (by rfl) T.n_list (by decide +kernel) (pa_cons (pv 0) pa_nil)))
      (pss_cons (ps_set (i := 4) sc_pile_good.nd rfl (.inl rfl) (pe_call G_show_pile (hr.mono (by decide)) (by rfl) T.g_show_pile T.F_show_pile.kp T.b_show_pile .nil pass0 (pa_cons (pv 3) pa_nil)))
      (pss_cons (ps_if (PW.pt (pw_or (pt_not (pt_val (pe_callB call_isi (by rfl) T.n_isinstance (by decide +kernel) (pa_cons (pv 4) (pa_cons (pe_bltn (v := .ty "str") (by rfl) T.n_str (by decide +kernel) rfl) pa_nil))))) (pw_or (pt_cmpR op_ne (pv 4) (pv 1) (nomark _)) (pw_or1 (pt_cmpR (op_neD hr.units) (pv 3) (pv 0) (nomark _)))))) (pss_one (ps_ret pe_bl)) pss_nil)
      (pss_cons (ps_set (i := 5) sc_pile_good.nd rfl (.inl rfl) (pe_call G_read_pile (hr.mono (by decide)) (by rfl) T.g_read_pile T.F_read_pile.kp T.b_read_pile .nil pass0 (pa_cons (pv 1) pa_nil)))
      (pss_cons (ps_if (pt_not (pt_val (pe_call G_same_pile (hr.mono (by decide)) (by rfl) T.g_same_pile T.F_same_pile.kp T.b_same_pile .nil pass0 (pa_cons (pv 5) (pa_cons (pv 0) pa_nil))))) (pss_one (ps_ret pe_bl)) pss_nil)
      (pss_cons (ps_expr (pe_bm PySem.F.plainAttrs_list PySem.F.slot_list_append PySem.F.type_list_append mt_append (pv 5) (pa_cons (pe_tup (pa_cons pe_str (pa_cons pe_int pa_nil))) pa_nil)))
      (pss_one (ps_ret (pe_and (pe_call G_same_pile (hr.mono (by decide)) (by rfl) T.g_same_pile T.F_same_pile.kp T.b_same_pile .nil pass0 (pa_cons (pe_call G_read_pile (hr.mono (by decide)) (by rfl) T.g_read_pile T.F_read_pile.kp T.b_read_pile .nil pass0 (pa_cons (pv 1) pa_nil)) (pa_cons (pv 0) pa_nil))) (pe_one (pe_cmpR op_eq (pe_call G_show_pile (hr.mono (by decide)) (by rfl) T.g_show_pile T.F_show_pile.kp T.b_show_pile .nil pass0 (pa_cons (pv 3) pa_nil)) (pv 1) (nomark _)))))))))))))))), ?_⟩
    rw [show L2.start ["pile", "due", "worth", "handed", "text", "found"] [.ref a] = [some (.ref a), none, none, none, none, none] from rfl]
    try dsimp only [cxOf]
    walk_at "wp"
    refine ⟨⟨xs, SqL.of ha⟩, loopL (xs := xs) (fun i σ H' => H' = H ∧ ∃ (s : Str) (y : Option V), σ = [some (.ref a), some (.str s), y, none, none, none] ∧ s.cps.toList = glue (ws.take i)) ⟨rfl, _, none, rfl, by show ("" : Str).cps.toList = []; decide +kernel⟩ (fun i σ H' hi h => h.1 ▸ SqL.of ha) ?_ ?_⟩
    · rintro i x σ H' hx ⟨rfl, s, y, rfl, hs⟩
      obtain ⟨z, hz, hv⟩ := hP.get hx
      have hzo := hok z (List.mem_of_getElem? hz)
      have hi : i < ws.length := (List.getElem?_eq_some_iff.mp hz).1
      have ls : s.length ≤ 62000 := by
        show s.cps.size ≤ 62000
        rw [← Array.length_toList, hs]
        have h1 := glue_len (ws := ws.take i) (fun z hz => hok z (List.mem_of_mem_take hz))
        have h2 : (ws.take i).length ≤ 1000 := by rw [List.length_take]; omega
        omega
      have big : (1000000 : Nat) ≤ sizeLine := by decide
      have l1 : (" " : Str).length = 1 := by decide +kernel
      have l2 := wlen hzo
      walk_at "wp"
      refine ⟨by rw [l1]; omega, ?_⟩
      walk_at "wp"
      refine ⟨x, z, rfl, hv, hzo, ?_⟩
      walk_at "wp"
      refine ⟨by rw [app_len, l1]; omega, ?_⟩
      walk_at "wp"
      refine ⟨rfl, _, _, rfl, ?_⟩
      rw [List.take_add_one, hz]
      show TL.tl (s ++ " " ++ wText z) = glue (ws.take i ++ [z])
      rw [TL.tl_append, TL.tl_append, glue_app, show TL.tl s = _ from hs, show TL.tl (" " : Str) = [32] from sp_cps, List.append_assoc]
      rfl
    · rintro σ H' ⟨rfl, s, y, rfl, hs⟩
      rw [el, List.take_length] at hs
      have ls : s.length ≤ sizeLine := by
        have h1 := glue_len hok
        have h2 : s.length = (glue ws).length := by
          show s.cps.size = _
          rw [← Array.length_toList, hs]
        have big : (1000000 : Nat) ≤ sizeLine := by decide
        omega
      walk_at "wp"
      refine Wp.cut (fun σ H2 => (∃ y, σ = [some (.ref a), some (.str (pText ws)), y, none, none, none]) ∧ Same H' H2) ?_ ?_
      · walk_at "wp"
        rename_i p hp
        have dz := hP.dp (K := K) (SqL.of ha)
        have dz2 := (hP.keep (Tk.new (o := .lst []) hp)).dp (K := K) (SqL.of ((same_new (o := .lst []) hp) _ _ ha))
        refine ⟨_, _, dz2, dp_nil upd_same, wDs_shaped hw, by decide +kernel, ?_⟩
        cases ws with
        | nil =>
          walk_at "wp"
          refine iteBt (by simp [PyData.eqv, PyData.eqvAll]) ?_
          walk_at "wp"
          exact ⟨⟨_, rfl⟩, same_new hp⟩
        | cons z ws =>
          walk_at "wp"
          refine iteBf (by simp [PyData.eqv, PyData.eqvAll]) ?_
          walk_at "wp"
          rw [cut_glue hs]
          exact ⟨⟨_, rfl⟩, same_new hp⟩
      · rintro σ H2 ⟨⟨y, rfl⟩, s2⟩
        have ha2 := s2 _ _ ha
        have hP2 := hP.keep (Same.tk s2)
        walk_at "wp"
        intro h1 hh1
        walk_at "wp"
        have hP3 := hP2.keep (Tk.new (o := .lst xs) hh1)
        refine ⟨_, xs, ws, rfl, upd_same, hP3, hok, hl, fun H3 s3 => ?_⟩
        walk_at "wp"
        refine iteN (fun e => absurd rfl e) (fun _ => ?_)
        have hP4 := hP3.keep (Same.tk s3)
        have hh3 := s3 _ _ (upd_same (H := H2) (a := h1) (o := .lst xs))
        have ha3 := s3 _ _ ((same_new (o := .lst xs) hh1) _ _ ha2)
        have dh := hP4.dp (K := K) (SqL.of hh3)
        have da := hP4.dp (K := K) (SqL.of ha3)
        have sh := wDs_shaped hw
        walk_at "wp"
        refine neD dh da sh (Wq.eq_self sh) ?_
        walk_at "wp"
        refine ⟨ws, rfl, hok, hl, fun f us H4 hf hf4 hU s4 => ?_⟩
        walk_at "wp"
        have hP5 := hP4.keep (Same.tk s4)
        refine ⟨f, a, us, xs, ws, rfl, hf4, s4 _ _ ha3, hU, hP5, hw, by omega, ?_⟩
        walk_at "wp"
        rename_i t ht
        have big : (1000 : Nat) < sizeLine := by decide
        refine app_ ((same_new ht) _ _ hf4) (by rw [hU.len]; omega) ?_
        have hk5 : Kp f H3 (upd (upd H4 t (.tup [.str "num", .int 0])) f (.lst (us ++ [.ref t]))) := fun b o n e => by
          rw [upd_ne n]
          exact (same_new ht) _ _ (s4 _ _ e)
        have sk := Kp.same hf hk5
        have hh5 := sk _ _ hh3
        have ha5 := sk _ _ ha3
        walk_at "wp"
        refine ⟨ws, rfl, hok, hl, fun g gs H6 hg hg6 hG s6 => ?_⟩
        walk_at "wp"
        have hP6 := hP4.keep ((Same.tk sk).trans (Same.tk s6))
        refine ⟨g, a, gs, xs, ws, rfl, hg6, s6 _ _ ha5, hG, hP6, hw, by omega, ?_⟩
        walk_at "wp"
        refine ⟨h1, xs, ws, rfl, s6 _ _ hh5, hP6, hok, hl, fun H7 s7 => ?_⟩
        walk_at "wp"
        rw [decide_eq_true rfl]
        exact k _ (s2.trans ((same_new hh1).trans (s3.trans (sk.trans (s6.trans s7)))))
end
end K03

namespace K03
open PySem PySem.Spec PyProof.Rows L2 Wp Wq Wt
local macro_rules | `(tactic| walk_at "ne") => `(tactic| first
  | assumption
  | (refine Ne.symm ?_; assumption)
  | exact ne_of_none (by assumption) (by assumption)
  | exact (ne_of_none (by assumption) (by assumption)).symm
  | exact ne_of (by assumption) (by assumption) (by intro q; cases q))
local macro_rules | `(tactic| walk_at "hp") => `(tactic| first
  | assumption
  | exact upd_same
  | (refine (upd_ne ?_).trans ?_; (walk_at "ne"); (walk_at "hp")))
local macro_rules | `(tactic| walk_at "sq") => `(tactic| first
  | assumption
  | exact SqL.of (by walk_at "hp")
  | exact SqT.of (by walk_at "hp"))
local macro_rules | `(tactic| walk_at "kind") => `(tactic| first
  | assumption
  | exact Kind.int _
  | exact Kind.str _
  | exact Kind.bl _
  | exact Kind.non
  | exact Kind.tup (by walk_at "hp")
  | exact Kind.lst (by walk_at "hp")
  | exact Kind.dK (by walk_at "hp"))
local macro_rules | `(tactic| walk_at "w1") => `(tactic| first
  | (with_reducible refine Wp.seq ?_)
  | (with_reducible refine Wp.nx_mk ?_)
  | (with_reducible refine Wp.rt_mk ?_)
  | (with_reducible refine Wp.bk_mk ?_)
  | (with_reducible refine Wp.ct_mk ?_)
  | (with_reducible refine Wp.next ?_)
  | (with_reducible refine Wp.asg ?_)
  | ((with_reducible refine' Wp.gname ?e ?_); (case e => (try dsimp only [List.set, L2.wipe, List.map_cons, List.map_nil]); (try exact rfl)))
  | (with_reducible refine Wp.gsub ?_)
  | (with_reducible refine Wp.ret ?_)
  | (with_reducible refine Wp.retN ?_)
  | (with_reducible refine Wp.drop ?_)
  | (with_reducible refine Wp.dput ?_)
  | (with_reducible refine Wp.ifs ?_)
  | ((with_reducible refine' Wp.var ?h ?_); (case h => exact rfl))
  | (with_reducible refine Wp.con ?_)
  | (with_reducible refine Wp.op ?_)
  | (with_reducible refine Wp.un ?_)
  | (with_reducible refine Wp.cb ?_)
  | (with_reducible refine Wp.anil ?_)
  | (with_reducible refine Wp.acons ?_)
  | (with_reducible refine Wp.call ?_)
  | (with_reducible refine Wp.test ?_)
  | (with_reducible refine Wp.tb_ ?_)
  | (with_reducible refine Wp.and_ ?_)
  | (with_reducible refine Wp.or_ ?_)
  | (with_reducible refine Wp.not_ ?_)
  | (with_reducible refine Wp.andV ?_)
  | (with_reducible refine Wp.orV ?_)
  | (with_reducible refine Wp.notV ?_)
  | (with_reducible refine Wp.rI0_ ?_)
  | (with_reducible refine Wp.rU_ ?_)
  | ((with_reducible refine Wp.rEq_ ?k ?_); (case k => exact rfl))
  | ((with_reducible refine Wp.rNe_ ?k ?_); (case k => exact rfl))
  | (with_reducible refine Wp.gcons ?_)
  | (with_reducible refine Wp.gnil ?_)
  | ((with_reducible refine' Wp.gtup ?h ?e ?_); (case h => walk_at "sq"); (case e => exact rfl))
  | (with_reducible refine Wp.sl ?_)
  | (with_reducible refine Wp.part ?_)
  | (with_reducible refine Wp.nopart ?_)
  | (with_reducible refine Wp.ifE ?_)
  | (with_reducible refine Wp.bm0 ?_)
  | (with_reducible refine Wp.bm ?_)
  | (with_reducible refine Wp.lcR1 ?_)
  | (with_reducible refine Wp.lcR2 ?_)
  | (with_reducible refine Wp.lcL ?_)
  | (with_reducible refine Wp.chain ?_)
  | (with_reducible refine Wp.lc2V ?_)
  | (with_reducible refine Wp.piL ?_)
  | (with_reducible refine Wp.yes ?_)
  | (with_reducible refine Wp.dinI ?_)
  | (with_reducible refine Wp.dninI ?_)
  | (with_reducible refine Wp.dget ?_)
  | ((with_reducible refine' ⟨?k, ?_⟩); (case k => show L2.wipe _ _ = L2.wipe _ _; exact rfl))
  | (with_reducible refine Wp.forR1 ?_)
  | (with_reducible refine Wp.forR2 ?_)
  | (with_reducible refine Wp.forL ?_)
  | (with_reducible refine Wp.forT ?_)
  | ((with_reducible refine' ⟨?k, ?_⟩); (case k => exact Wp.tyvL (by walk_at "hp")))
  | ((with_reducible refine' Wp.rev_ ?k ?_); (case k => walk_at "hp"))
  | ((with_reducible refine' Wp.isi ?k ?h ?_); (case k => walk_at "kind"); (case h => decide))
  | ((with_reducible refine' Wp.typ ?k ?_); (case k => walk_at "kind"))
  | (with_reducible refine Wp.slS ?k ?_; (case k => assumption))
  | (with_reducible refine iteT ?_)
  | (with_reducible refine iteF ?_)
  | (with_reducible refine Wz.par ?_)
  | (with_reducible refine Wz.forN ?_)
  | (with_reducible refine Wz.dcL ?_)
  | (with_reducible refine Wz.forZ ?_)
  | (with_reducible refine Wz.lcR3 ?_)
  | (with_reducible refine Wc.revL ?_)
  | (with_reducible refine Wd.nm ?_)
  | (with_reducible refine Wd.nget ?_)
  | ((with_reducible refine Wd.tnew ?_); intro p hp)
  | (with_reducible refine Wd.pikn ?_)
  | (with_reducible refine Wt.m1 ?_)
  | (with_reducible refine Wt.m0 ?_)
  | ((with_reducible refine' ⟨?k, ?_⟩); (case k => show ∃ a, _ = V.str a; exact ⟨_, rfl⟩))
  | (with_reducible refine Wt.js_cons ?_)
  | (with_reducible refine Wt.fmt_ ?_)
  | (with_reducible refine Wp.pcons ?_)
  | (with_reducible refine Wp.pnil ?_)
  | ((with_reducible refine' Wp.iteBnT ?h ?_); (case h => show isB _ _ = false; decide))
  | ((with_reducible refine' Wp.iteBnF ?h ?_); (case h => show isB _ _ = true; decide))
  | ((with_reducible refine' Wp.iteBt ?h ?_); (case h => show isB _ _ = true; decide))
  | ((with_reducible refine' Wp.iteBf ?h ?_); (case h => show isB _ _ = false; decide))
  | (with_reducible refine Wp.iteT' ?_)
  | (with_reducible refine Wp.iteF' ?_)
  | (with_reducible refine Wp.rNT_ ?_)
  | ((with_reducible refine Wp.lst ?_))
  | ((with_reducible refine Wp.tup ?_))
  | ((with_reducible refine' Wp.ixL ?h ?e ?_); (case h => walk_at "sq"); (case e => exact rfl))
  | ((with_reducible refine' Wp.ixT ?h ?e ?_); (case h => walk_at "sq"); (case e => exact rfl))
  | ((with_reducible refine' Wp.setL ?h ?e ?_); (case h => walk_at "hp"); (case e => exact rfl))
  | ((with_reducible refine Wp.rI_ ?k ?_); (case k => first | (show (0:Int) < _; omega) | (show CPow _ _; refine' ⟨?_, ?_, ?_⟩ <;> omega) | (show CDiv _ _; refine' ⟨?_, ?_⟩ <;> omega) | (show CMul _ _; refine' Or.inl ⟨?_, ?_⟩ <;> omega) | (show CMul _ _; refine' Or.inr ⟨?_, ?_⟩ <;> first | omega | decide) | (show CDivW _ _; refine' wide_div (b := 240) ?_ ?_ ?_ ?_ <;> first | omega | decide)))
  | ((with_reducible refine ⟨?k, ?_⟩); (case k => first | exact Nat.zero_le _ | (exact Nat.le_of_ble_eq_true rfl)); intro p hp)
  | ((with_reducible refine' ⟨_, _, rfl, .inl ?k, ?_⟩); (case k => walk_at "sq"))
  | ((with_reducible refine' ⟨_, _, rfl, .inr ?k, ?_⟩); (case k => walk_at "sq"))
  | (with_reducible refine ⟨_, rfl, ?_⟩)
  | (with_reducible refine ⟨_, _, rfl, rfl, ?_⟩)
  | (with_reducible refine ⟨_, _, rfl, ?_⟩))
local macro_rules | `(tactic| walk_at "wp") => `(tactic| repeat (walk_at "w1"))

theorem cutV_sub {xs : List V} {lo hi : Option Int} : ∃ n m, cutV xs lo hi = (xs.drop n).take m := ⟨_, _, rfl⟩
section
variable {P : Program} {w : World} {K : PySem.W.Frag} {mg : Str → Option Value} {base : Heap}
def spLaw (K : PySem.W.Frag) : Sp := fun vs H Q _ => ∃ (a : Addr) (ns : List Int), vs = [.ref a] ∧ SqL K H a (ns.map V.int) ∧ ns.length ≤ 63 ∧ ∀ H', Q (.bl true) H'
theorem ok_law (T : Txt P w K mg) : FnOk P w K mg base CX0 6 T.f_law T.fd_law ["script"] (spLaw K) := by
  have G_cell_at := ok_cell_at (base := base) T
  have G_bag := ok_bag (base := base) T
  have G_draw := ok_draw (base := base) T
  have G_worth := ok_worth (base := base) T
  have G_show_worth := ok_show_worth (base := base) T
  have G_read_worth := ok_read_worth (base := base) T
  have G_written := ok_written (base := base) T
  have G_same := ok_same (base := base) T
  have G_pile_good := ok_pile_good (base := base) T
  refine T.F_law.ok sc_law (fun vs H Q E h => ?_) (fun cdv A outer s H vs Q E hr h => ?_)
  · obtain ⟨a, ns, rfl, _⟩ := h
    rfl
  · obtain ⟨a, ns, rfl, hS, hl, q⟩ := h
    refine ⟨_, (pss_cons (ps_set (i := 1) sc_law.nd rfl (.inl rfl) (pe_lst pa_nil))
      (pss_cons (ps_set (i := 2) sc_law.nd rfl (.inl rfl) (pe_lst (pa_cons pe_int (pa_cons pe_int (pa_cons pe_int pa_nil)))))
      (pss_cons (ps_for PassesOwn.never rfl (pi_range1 (by rfl) T.n_range (pa_cons (pe_callB (call_max2 rfl) (by rfl) T.n_max (by decide +kernel) (pa_cons pe_int (pa_cons (pe_callB (call_min2 rfl) (by rfl) T.n_min (by decide +kernel) (pa_cons pe_int (pa_cons (pe_callB call_len_seq (by rfl) T.n_len (by decide +kernel) (pa_cons (pv 0) pa_nil)) pa_nil))) pa_nil))) pa_nil)) (pg_name (i := 3) sc_law.nd rfl (.inl rfl)) (pss_cons (ps_set (i := 2) sc_law.nd rfl (.inl rfl) (pe_call G_bag (hr.mono (by decide)) (by rfl) T.g_bag T.F_bag.kp T.b_bag .nil pass0 (pa_cons (pe_call G_cell_at (hr.mono (by decide)) (by rfl) T.g_cell_at T.F_cell_at.kp T.b_cell_at .nil pass0 (pa_cons (pv 0) (pa_cons (pv 3) pa_nil))) (pa_cons (pv 3) pa_nil))))
      (pss_one (ps_for PassesOwn.never rfl (pi_range1 (by rfl) T.n_range (pa_cons (pe_call G_draw (hr.mono (by decide)) (by rfl) T.g_draw T.F_draw.kp T.b_draw .nil pass0 (pa_cons (pv 2) (pa_cons (pe_ix ix_list (pe_lst (pa_cons pe_int (pa_cons pe_int pa_nil))) (pe_op op_fdiv (pe_call G_draw (hr.mono (by decide)) (by rfl) T.g_draw T.F_draw.kp T.b_draw .nil pass0 (pa_cons (pv 2) (pa_cons pe_int pa_nil))) pe_int) (fun _ _ => rfl)) pa_nil))) pa_nil)) (pg_name (i := 4) sc_law.nd rfl (.inl rfl)) (pss_one (ps_expr (pe_bm PySem.F.plainAttrs_list PySem.F.slot_list_append PySem.F.type_list_append mt_append (pv 1) (pa_cons (pe_call G_worth (hr.mono (by decide)) (by rfl) T.g_worth T.F_worth.kp T.b_worth .nil pass0 (pa_cons (pv 2) pa_nil)) pa_nil))))))))
      (pss_cons (ps_for PassesOwn.never rfl (pi_list (pv 1)) (pg_name (i := 5) sc_law.nd rfl (.inl rfl)) (pss_cons (ps_set (i := 6) sc_law.nd rfl (.inl rfl) (pe_call G_show_worth (hr.mono (by decide)) (by rfl) T.g_show_worth T.F_show_worth.kp T.b_show_worth .nil pass0 (pa_cons (pv 5) pa_nil)))
      (pss_cons (ps_if (PW.pt (pw_or (pt_not (pt_val (pe_callB call_isi (by rfl) T.n_isinstance (by decide +kernel) (pa_cons (pv 6) (pa_cons (pe_bltn (v := .ty "str") (by rfl) T.n_str (by decide +kernel) rfl) pa_nil))))) (pw_or1 (pt_cmpR op_ne (pv 6) (pe_call G_written (hr.mono (by decide)) (by rfl) T.g_written T.F_written.kp T.b_written .nil pass0 (pa_cons (pv 5) pa_nil)) (nomark _))))) (pss_one (ps_ret pe_bl)) pss_nil)
      (pss_one (ps_if (pt_not (pt_val (pe_call G_same (hr.mono (by decide)) (by rfl) T.g_same T.F_same.kp T.b_same .nil pass0 (pa_cons (pe_call G_read_worth (hr.mono (by decide)) (by rfl) T.g_read_worth T.F_read_worth.kp T.b_read_worth .nil pass0 (pa_cons (pv 6) pa_nil)) (pa_cons (pv 5) pa_nil))))) (pss_one (ps_ret pe_bl)) pss_nil)))))
      (pss_cons (ps_set (i := 7) sc_law.nd rfl (.inl rfl) (pe_call G_draw (hr.mono (by decide)) (by rfl) T.g_draw T.F_draw.kp T.b_draw .nil pass0 (pa_cons (pv 2) (pa_cons (pe_op op_add (pe_callB call_len_seq (by rfl) T.n_len (by decide +kernel) (pa_cons (pv 1) pa_nil)) pe_int) pa_nil))))
      (pss_cons (ps_set (i := 8) sc_law.nd rfl (.inl rfl) (pe_op op_add (pv 7) (pe_call G_draw (hr.mono (by decide)) (by rfl) T.g_draw T.F_draw.kp T.b_draw .nil pass0 (pa_cons (pv 2) (pa_cons (pe_op op_sub (pe_op op_add (pe_callB call_len_seq (by rfl) T.n_len (by decide +kernel) (pa_cons (pv 1) pa_nil)) pe_int) (pv 7)) pa_nil)))))
      (pss_one (ps_ret (pe_and (pe_call G_pile_good (hr.mono (by decide)) (by rfl) T.g_pile_good T.F_pile_good.kp T.b_pile_good .nil pass0 (pa_cons (pv 1) pa_nil)) (pe_and (pe_call G_pile_good (hr.mono (by decide)) (by rfl) T.g_pile_good T.F_pile_good.kp T.b_pile_good .nil pass0 (pa_cons (pe_slice sl_list (pv 1) (po_some (pv 7)) (po_some (pv 8))) pa_nil)) (pe_one (pe_call G_pile_good (hr.mono (by decide)) (by rfl) T.g_pile_good T.F_pile_good.kp T.b_pile_good .nil pass0 (pa_cons (pe_lst pa_nil) pa_nil))))))))))))), ?_⟩
    rw [show L2.start ["script", "pile", "bag", "k", "j", "worth", "text", "first", "behind"] [.ref a] = [some (.ref a), none, none, none, none, none, none, none, none] from rfl]
    try dsimp only [cxOf]
    walk_at "wp"
    rename_i p hp b0 hb0
    have s0 := (same_new (o := .lst []) hp).trans (same_new (o := .lst [.int 0, .int 0, .int 0]) hb0)
    have hbp : p ≠ b0 := ne_of_none upd_same hb0
    have hb0n : H b0 = none := by rw [upd_ne hbp.symm] at hb0; exact hb0
    have hS0 := s0.seq hS
    walk_at "wp"
    generalize hN : (if (if ((ns.map V.int).length : Int) < 30 then ((ns.map V.int).length : Int) else 30) > 1 then (if ((ns.map V.int).length : Int) < 30 then ((ns.map V.int).length : Int) else 30) else 1) = N
    have hN1 : N ≤ 30 := by
      rw [← hN]
      split <;> (try split) <;> omega
    have hN0 : 0 ≤ N := by
      rw [← hN]
      split <;> (try split) <;> omega
    refine ⟨by omega, by omega, loopR (fun i σ H' => ∃ b n y3 y4 xs ws, σ = [some (.ref a), some (.ref p), some (.ref b), y3, y4, none, none, none, none] ∧ Same H H' ∧ H' p = some (.lst xs) ∧ Pile H' xs ws ∧ POk ws ∧ ws.length ≤ 14 * i ∧ Bag H' b n ∧ n ≤ 500 ∧ H b = none ∧ p ≠ b)
      ⟨b0, 0, _, _, [], [], rfl, s0, by rw [upd_ne hbp]; exact upd_same, Pile.nil, (fun _ h => nomatch h), Nat.zero_le _, ⟨0, 0, 0, upd_same, by decide, by decide, by decide, by decide⟩, by decide, hb0n, hbp⟩ ?_ ?_⟩
    · rintro i σ H1 hi ⟨b1, n1, y3, y4, xs, ws, rfl, s1, h1, p1, ok1, l1, _⟩
      rw [Int.zero_add]
      walk_at "wp"
      refine ⟨a, ns, i, rfl, s1.seq hS, fun c => ?_⟩
      walk_at "wp"
      refine ⟨c, i, rfl, by omega, fun b H2 nb hb2 s2 => ?_⟩
      have hbp : p ≠ b := ne_of_none h1 nb
      have hHb : H b = none := by
        cases e : H b with
        | none => rfl
        | some o => exact absurd ((s1 _ _ e).symm.trans nb) (by intro q; cases q)
      walk_at "wp"
      rename_i l hl0
      refine ⟨b, 0, _, rfl, hb2.keep (same_new hl0), by omega, by decide, by decide, fun v H3 v0 v1 hb3 k3 => ?_⟩
      have hl3 : H3 l = _ := k3 _ _ (hb2.ne_new hl0) upd_same
      walk_at "wp"
      obtain ⟨m, hm, m0, m1⟩ : ∃ m : Int, atI [V.int 5, V.int 14] (v / 7) = some (V.int m) ∧ 0 < m ∧ m ≤ 14 := by
        have cc : v / 7 = 0 ∨ v / 7 = 1 := by omega
        rcases cc with e | e <;> rw [e]
        · exact ⟨5, rfl, by decide, by decide⟩
        · exact ⟨14, rfl, by decide, by decide⟩
      refine ixL (SqL.of hl3) hm ?_
      walk_at "wp"
      refine ⟨b, 1, m, rfl, hb3, by omega, m0, Int.lt_of_le_of_lt m1 (by decide), fun t H4 t0 t1 hb4 k4 => ?_⟩
      have kk : Kp b H2 H4 := Kp.trans (Kp.new hl0) (Kp.trans k3 k4)
      have tk2 : Tk H1 H4 := (Same.tk s2).trans (by obtain ⟨x, y, z, e, _⟩ := hb2; exact Kp.tk kk e)
      have sm4 : Same H H4 := fun c o hc => kk _ _ (ne_of_none hc hHb) (s2 _ _ (s1 _ _ hc))
      walk_at "wp"
      refine ⟨by omega, by omega, loopR (fun j σ H' => ∃ y4 xs ws, σ = [some (.ref a), some (.ref p), some (.ref b), some (.int i), y4, none, none, none, none] ∧ Same H H' ∧ H' p = some (.lst xs) ∧ Pile H' xs ws ∧ POk ws ∧ ws.length ≤ 14 * i + j ∧ Bag H' b (2 + 9 * j))
        ⟨_, _, _, rfl, sm4, kk _ _ hbp (s2 _ _ h1), p1.keep tk2, ok1, l1, hb4⟩ ?_ ?_⟩
      · rintro j σ H5 hj ⟨y4, xs5, ws5, rfl, s5, h5, p5, ok5, l5, hb5⟩
        have hj10 : j < 14 := by omega
        rw [Int.zero_add]
        walk_at "wp"
        refine ⟨b, 2 + 9 * j, rfl, hb5, by omega, fun v z H6 wz oz hb6 k6 => ?_⟩
        have tk6 : Tk H5 H6 := by obtain ⟨x, y, z, e, _⟩ := hb5; exact Kp.tk k6 e
        have hr6 := k6 _ _ hbp h5
        have big : (1000 : Nat) < sizeLine := by decide
        walk_at "wp"
        refine app_ hr6 (by rw [p5.len]; omega) ?_
        walk_at "wp"
        refine ⟨_, _, _, rfl, fun c o hc => ?_, upd_same, (Pile.app (p5.keep tk6) (Pile.one wz)).keep (Tk.lst hr6), ?_, ?_, ?_⟩
        · rw [upd_ne (ne_of_none hc hp)]
          exact k6 _ _ (ne_of_none hc hHb) (s5 _ _ hc)
        · intro x hx
          rcases List.mem_append.mp hx with hx | hx
          · exact ok5 x hx
          · rw [List.mem_singleton.mp hx]; exact oz
        · rw [List.length_append]
          show _ + 1 ≤ _
          omega
        · rw [show 2 + 9 * (j + 1) = 2 + 9 * j + 9 by omega]
          exact hb6.upd hbp
      · rintro σ H5 ⟨y4, xs5, ws5, rfl, s5, h5, p5, ok5, l5, hb5⟩
        walk_at "wp"
        exact ⟨b, _, _, _, _, _, rfl, s5, h5, p5, ok5, by omega, hb5, by omega, hHb, hbp⟩
    · rintro σ H1 ⟨b, n, y3, y4, xs, ws, rfl, s1, h1, p1, ok1, l1, hb1, hn, hHb, hbp⟩
      have hlw : ws.length ≤ 420 := by omega
      have el := p1.len
      walk_at "wp"
      refine ⟨⟨xs, SqL.of h1⟩, loopL (xs := xs) (fun i σ H' => ∃ y5 y6, σ = [some (.ref a), some (.ref p), some (.ref b), y3, y4, y5, y6, none, none] ∧ Same H1 H') ⟨_, _, rfl, fun _ _ h => h⟩ (fun i σ H' hi h => by obtain ⟨_, _, _, s⟩ := h; exact SqL.of (s _ _ h1)) ?_ ?_⟩
      · rintro i x σ H2 hx ⟨y5, y6, rfl, s2⟩
        obtain ⟨z, hz, hv⟩ := p1.get hx
        have oz := ok1 z (List.mem_of_getElem? hz)
        have hv2 := hv.keep (Same.tk s2)
        walk_at "wp"
        refine ⟨x, z, rfl, hv2, oz, ?_⟩
        walk_at "wp"
        refine ⟨x, z, rfl, hv2, oz, ?_⟩
        walk_at "wp"
        refine iteN (fun e => absurd rfl e) (fun _ => ?_)
        walk_at "wp"
        refine ⟨z, rfl, oz, fun u H3 hu s3 => ?_⟩
        walk_at "wp"
        refine ⟨u, x, z, rfl, hu, hv2.keep (Same.tk s3), oz.wok, ?_⟩
        walk_at "wp"
        exact s2.trans s3
      · rintro σ H2 ⟨y5, y6, rfl, s2⟩
        have hb2 := hb1.keep s2
        have h2 := s2 _ _ h1
        have p2 := p1.keep (Same.tk s2)
        walk_at "wp"
        refine ⟨b, n, _, rfl, hb2, by omega, by omega, by omega, fun f H3 f0 f1 hb3 k3 => ?_⟩
        have h3 := k3 _ _ hbp h2
        walk_at "wp"
        refine ⟨b, n + 1, _, rfl, hb3, by omega, by omega, by omega, fun g H4 g0 g1 hb4 k4 => ?_⟩
        have h4 := k4 _ _ hbp h3
        have tk4 : Tk H2 H4 := by obtain ⟨x, y, z, e, _⟩ := hb2; exact Kp.tk (Kp.trans k3 k4) e
        have p4 := p2.keep tk4
        walk_at "wp"
        refine ⟨p, xs, ws, rfl, h4, p4, ok1, by omega, fun H5 s5 => ?_⟩
        walk_at "wp"
        refine slL (SqL.of (s5 _ _ h4)) fun l hl => ?_
        walk_at "wp"
        obtain ⟨n1, m1, ecut⟩ := cutV_sub (xs := xs) (lo := some f) (hi := some (f + g))
        have s6 := same_new (o := .lst (cutV xs (some f) (some (f + g)))) hl
        refine ⟨l, _, (ws.drop n1).take m1, rfl, upd_same, ?_, ?_, ?_, fun H7 s7 => ?_⟩
        · rw [ecut] at s6 ⊢
          exact ((p4.drop n1).take m1).keep ((Same.tk s5).trans (Same.tk s6))
        · exact fun z hz => ok1 z (List.mem_of_mem_drop (List.mem_of_mem_take hz))
        · rw [List.length_take, List.length_drop]
          omega
        walk_at "wp"
        rename_i e he
        refine ⟨e, [], [], rfl, upd_same, Pile.nil, (fun _ h => nomatch h), by decide, fun H8 s8 => ?_⟩
        exact q _
end
end K03

namespace K03
open PySem PySem.Spec PyProof.Rows L2 Wp Wq
/-! ### what the top has written; the law's own head -/
theorem all_mk {l : PySem.W.OpenLaw} {w : World} {K : PySem.W.Frag} {h : Heap} {mg : Str → Option Value} {fa : Addr} (X : K.In h) (G : h.Ns mainGlobals mg) (hfa : mg "law" = some (.ref fa))
    {f0 : Addr} {od0 an0 : Option Addr} {sl0 : Array (Option Value)} {oc0 kV0 dc0 pm0 cd0 ct0 : Value}
    (a0 : PySem.W.nsIn K mainGlobals "show_worth" = some (some (.ref f0))) (l0 : K.lookup f0 = some ⟨oc0, od0, .func (PySem.W.fnOf "show_worth" "show_worth" (defArgs s_show_worth) (defBody s_show_worth) (defScope s_show_worth) .none kV0 dc0 pm0 an0 cd0 ct0), sl0⟩) (c0 : PySem.W.codeIn K cd0 "show_worth" = true) (k0 : PySem.W.keepIn K (.ref f0) = true)
    {f1 : Addr} {od1 an1 : Option Addr} {sl1 : Array (Option Value)} {oc1 kV1 dc1 pm1 cd1 ct1 : Value}
    (a1 : PySem.W.nsIn K mainGlobals "show_pile" = some (some (.ref f1))) (l1 : K.lookup f1 = some ⟨oc1, od1, .func (PySem.W.fnOf "show_pile" "show_pile" (defArgs s_show_pile) (defBody s_show_pile) (defScope s_show_pile) .none kV1 dc1 pm1 an1 cd1 ct1), sl1⟩) (c1 : PySem.W.codeIn K cd1 "show_pile" = true) (k1 : PySem.W.keepIn K (.ref f1) = true)
    {f2 : Addr} {od2 an2 : Option Addr} {sl2 : Array (Option Value)} {oc2 kV2 dc2 pm2 cd2 ct2 : Value}
    (a2 : PySem.W.nsIn K mainGlobals "check_text" = some (some (.ref f2))) (l2 : K.lookup f2 = some ⟨oc2, od2, .func (PySem.W.fnOf "check_text" "check_text" (defArgs s_check_text) (defBody s_check_text) (defScope s_check_text) .none kV2 dc2 pm2 an2 cd2 ct2), sl2⟩) (c2 : PySem.W.codeIn K cd2 "check_text" = true) (k2 : PySem.W.keepIn K (.ref f2) = true)
    {f3 : Addr} {od3 an3 : Option Addr} {sl3 : Array (Option Value)} {oc3 kV3 dc3 pm3 cd3 ct3 : Value}
    (a3 : PySem.W.nsIn K mainGlobals "read_number" = some (some (.ref f3))) (l3 : K.lookup f3 = some ⟨oc3, od3, .func (PySem.W.fnOf "read_number" "read_number" (defArgs s_read_number) (defBody s_read_number) (defScope s_read_number) .none kV3 dc3 pm3 an3 cd3 ct3), sl3⟩) (c3 : PySem.W.codeIn K cd3 "read_number" = true) (k3 : PySem.W.keepIn K (.ref f3) = true)
    {f4 : Addr} {od4 an4 : Option Addr} {sl4 : Array (Option Value)} {oc4 kV4 dc4 pm4 cd4 ct4 : Value}
    (a4 : PySem.W.nsIn K mainGlobals "read_signed" = some (some (.ref f4))) (l4 : K.lookup f4 = some ⟨oc4, od4, .func (PySem.W.fnOf "read_signed" "read_signed" (defArgs s_read_signed) (defBody s_read_signed) (defScope s_read_signed) .none kV4 dc4 pm4 an4 cd4 ct4), sl4⟩) (c4 : PySem.W.codeIn K cd4 "read_signed" = true) (k4 : PySem.W.keepIn K (.ref f4) = true)
    {f5 : Addr} {od5 an5 : Option Addr} {sl5 : Array (Option Value)} {oc5 kV5 dc5 pm5 cd5 ct5 : Value}
    (a5 : PySem.W.nsIn K mainGlobals "read_worth" = some (some (.ref f5))) (l5 : K.lookup f5 = some ⟨oc5, od5, .func (PySem.W.fnOf "read_worth" "read_worth" (defArgs s_read_worth) (defBody s_read_worth) (defScope s_read_worth) .none kV5 dc5 pm5 an5 cd5 ct5), sl5⟩) (c5 : PySem.W.codeIn K cd5 "read_worth" = true) (k5 : PySem.W.keepIn K (.ref f5) = true)
    {f6 : Addr} {od6 an6 : Option Addr} {sl6 : Array (Option Value)} {oc6 kV6 dc6 pm6 cd6 ct6 : Value}
    (a6 : PySem.W.nsIn K mainGlobals "read_pile" = some (some (.ref f6))) (l6 : K.lookup f6 = some ⟨oc6, od6, .func (PySem.W.fnOf "read_pile" "read_pile" (defArgs s_read_pile) (defBody s_read_pile) (defScope s_read_pile) .none kV6 dc6 pm6 an6 cd6 ct6), sl6⟩) (c6 : PySem.W.codeIn K cd6 "read_pile" = true) (k6 : PySem.W.keepIn K (.ref f6) = true)
    {f7 : Addr} {od7 an7 : Option Addr} {sl7 : Array (Option Value)} {oc7 kV7 dc7 pm7 cd7 ct7 : Value}
    (a7 : PySem.W.nsIn K mainGlobals "_law_cell_at" = some (some (.ref f7))) (l7 : K.lookup f7 = some ⟨oc7, od7, .func (PySem.W.fnOf "_law_cell_at" "_law_cell_at" (defArgs s_cell_at) (defBody s_cell_at) (defScope s_cell_at) .none kV7 dc7 pm7 an7 cd7 ct7), sl7⟩) (c7 : PySem.W.codeIn K cd7 "_law_cell_at" = true) (k7 : PySem.W.keepIn K (.ref f7) = true)
    {f8 : Addr} {od8 an8 : Option Addr} {sl8 : Array (Option Value)} {oc8 kV8 dc8 pm8 cd8 ct8 : Value}
    (a8 : PySem.W.nsIn K mainGlobals "_law_bag" = some (some (.ref f8))) (l8 : K.lookup f8 = some ⟨oc8, od8, .func (PySem.W.fnOf "_law_bag" "_law_bag" (defArgs s_bag) (defBody s_bag) (defScope s_bag) .none kV8 dc8 pm8 an8 cd8 ct8), sl8⟩) (c8 : PySem.W.codeIn K cd8 "_law_bag" = true) (k8 : PySem.W.keepIn K (.ref f8) = true)
    {f9 : Addr} {od9 an9 : Option Addr} {sl9 : Array (Option Value)} {oc9 kV9 dc9 pm9 cd9 ct9 : Value}
    (a9 : PySem.W.nsIn K mainGlobals "_law_draw" = some (some (.ref f9))) (l9 : K.lookup f9 = some ⟨oc9, od9, .func (PySem.W.fnOf "_law_draw" "_law_draw" (defArgs s_draw) (defBody s_draw) (defScope s_draw) .none kV9 dc9 pm9 an9 cd9 ct9), sl9⟩) (c9 : PySem.W.codeIn K cd9 "_law_draw" = true) (k9 : PySem.W.keepIn K (.ref f9) = true)
    {f10 : Addr} {od10 an10 : Option Addr} {sl10 : Array (Option Value)} {oc10 kV10 dc10 pm10 cd10 ct10 : Value}
    (a10 : PySem.W.nsIn K mainGlobals "_law_number" = some (some (.ref f10))) (l10 : K.lookup f10 = some ⟨oc10, od10, .func (PySem.W.fnOf "_law_number" "_law_number" (defArgs s_number) (defBody s_number) (defScope s_number) .none kV10 dc10 pm10 an10 cd10 ct10), sl10⟩) (c10 : PySem.W.codeIn K cd10 "_law_number" = true) (k10 : PySem.W.keepIn K (.ref f10) = true)
    {f11 : Addr} {od11 an11 : Option Addr} {sl11 : Array (Option Value)} {oc11 kV11 dc11 pm11 cd11 ct11 : Value}
    (a11 : PySem.W.nsIn K mainGlobals "_law_whole" = some (some (.ref f11))) (l11 : K.lookup f11 = some ⟨oc11, od11, .func (PySem.W.fnOf "_law_whole" "_law_whole" (defArgs s_whole) (defBody s_whole) (defScope s_whole) .none kV11 dc11 pm11 an11 cd11 ct11), sl11⟩) (c11 : PySem.W.codeIn K cd11 "_law_whole" = true) (k11 : PySem.W.keepIn K (.ref f11) = true)
    {f12 : Addr} {od12 an12 : Option Addr} {sl12 : Array (Option Value)} {oc12 kV12 dc12 pm12 cd12 ct12 : Value}
    (a12 : PySem.W.nsIn K mainGlobals "_law_worth" = some (some (.ref f12))) (l12 : K.lookup f12 = some ⟨oc12, od12, .func (PySem.W.fnOf "_law_worth" "_law_worth" (defArgs s_worth) (defBody s_worth) (defScope s_worth) .none kV12 dc12 pm12 an12 cd12 ct12), sl12⟩) (c12 : PySem.W.codeIn K cd12 "_law_worth" = true) (k12 : PySem.W.keepIn K (.ref f12) = true)
    {f13 : Addr} {od13 an13 : Option Addr} {sl13 : Array (Option Value)} {oc13 kV13 dc13 pm13 cd13 ct13 : Value}
    (a13 : PySem.W.nsIn K mainGlobals "_law_same" = some (some (.ref f13))) (l13 : K.lookup f13 = some ⟨oc13, od13, .func (PySem.W.fnOf "_law_same" "_law_same" (defArgs s_same) (defBody s_same) (defScope s_same) .none kV13 dc13 pm13 an13 cd13 ct13), sl13⟩) (c13 : PySem.W.codeIn K cd13 "_law_same" = true) (k13 : PySem.W.keepIn K (.ref f13) = true)
    {f14 : Addr} {od14 an14 : Option Addr} {sl14 : Array (Option Value)} {oc14 kV14 dc14 pm14 cd14 ct14 : Value}
    (a14 : PySem.W.nsIn K mainGlobals "_law_same_pile" = some (some (.ref f14))) (l14 : K.lookup f14 = some ⟨oc14, od14, .func (PySem.W.fnOf "_law_same_pile" "_law_same_pile" (defArgs s_same_pile) (defBody s_same_pile) (defScope s_same_pile) .none kV14 dc14 pm14 an14 cd14 ct14), sl14⟩) (c14 : PySem.W.codeIn K cd14 "_law_same_pile" = true) (k14 : PySem.W.keepIn K (.ref f14) = true)
    {f15 : Addr} {od15 an15 : Option Addr} {sl15 : Array (Option Value)} {oc15 kV15 dc15 pm15 cd15 ct15 : Value}
    (a15 : PySem.W.nsIn K mainGlobals "_law_written" = some (some (.ref f15))) (l15 : K.lookup f15 = some ⟨oc15, od15, .func (PySem.W.fnOf "_law_written" "_law_written" (defArgs s_written) (defBody s_written) (defScope s_written) .none kV15 dc15 pm15 an15 cd15 ct15), sl15⟩) (c15 : PySem.W.codeIn K cd15 "_law_written" = true) (k15 : PySem.W.keepIn K (.ref f15) = true)
    {f16 : Addr} {od16 an16 : Option Addr} {sl16 : Array (Option Value)} {oc16 kV16 dc16 pm16 cd16 ct16 : Value}
    (a16 : PySem.W.nsIn K mainGlobals "_law_pile_good" = some (some (.ref f16))) (l16 : K.lookup f16 = some ⟨oc16, od16, .func (PySem.W.fnOf "_law_pile_good" "_law_pile_good" (defArgs s_pile_good) (defBody s_pile_good) (defScope s_pile_good) .none kV16 dc16 pm16 an16 cd16 ct16), sl16⟩) (c16 : PySem.W.codeIn K cd16 "_law_pile_good" = true) (k16 : PySem.W.keepIn K (.ref f16) = true)
    {f17 : Addr} {od17 an17 : Option Addr} {sl17 : Array (Option Value)} {oc17 kV17 dc17 pm17 cd17 ct17 : Value}
    (a17 : PySem.W.nsIn K mainGlobals "law" = some (some (.ref f17))) (l17 : K.lookup f17 = some ⟨oc17, od17, .func (PySem.W.fnOf "law" "law" (defArgs s_law) (defBody s_law) (defScope s_law) .none kV17 dc17 pm17 an17 cd17 ct17), sl17⟩) (c17 : PySem.W.codeIn K cd17 "law" = true) (k17 : PySem.W.keepIn K (.ref f17) = true)
    (z_all : PySem.W.nsIn K mainGlobals "all" = some none)
    (z_bool : PySem.W.nsIn K mainGlobals "bool" = some none)
    (z_int : PySem.W.nsIn K mainGlobals "int" = some none)
    (z_isinstance : PySem.W.nsIn K mainGlobals "isinstance" = some none)
    (z_len : PySem.W.nsIn K mainGlobals "len" = some none)
    (z_list : PySem.W.nsIn K mainGlobals "list" = some none)
    (z_max : PySem.W.nsIn K mainGlobals "max" = some none)
    (z_min : PySem.W.nsIn K mainGlobals "min" = some none)
    (z_range : PySem.W.nsIn K mainGlobals "range" = some none)
    (z_str : PySem.W.nsIn K mainGlobals "str" = some none)
    (z_tuple : PySem.W.nsIn K mainGlobals "tuple" = some none)
    (z_type : PySem.W.nsIn K mainGlobals "type" = some none)
    {dSIGNS : Addr} {esSIGNS : Array DictEntry} {noSIGNS : Nat} (smSIGNS : PySem.W.nsIn K mainGlobals "SIGNS" = some (some (.ref dSIGNS))) (slSIGNS : K.lookup dSIGNS = some ⟨.type "dict", none, .dict esSIGNS noSIGNS, #[]⟩) (stSIGNS : PySem.W.KeysLit w.params esSIGNS.toList) (sySIGNS : (dSIGNS == sysModules) = false) (skSIGNS : keysAre esSIGNS.toList [("num", .str ""), ("at", .str "@"), ("box", .str "b"), ("go", .str "g")])
    {dWORDS : Addr} {esWORDS : Array DictEntry} {noWORDS : Nat} (smWORDS : PySem.W.nsIn K mainGlobals "WORDS" = some (some (.ref dWORDS))) (slWORDS : K.lookup dWORDS = some ⟨.type "dict", none, .dict esWORDS noWORDS, #[]⟩) (stWORDS : PySem.W.KeysLit w.params esWORDS.toList) (syWORDS : (dWORDS == sysModules) = false) (skWORDS : keysAre esWORDS.toList [("@", .str "at"), ("b", .str "box"), ("g", .str "go")])
    {tFIGURES : Tok} (sFIGURES : PySem.W.nsIn K mainGlobals "FIGURES" = some (some (.str "0123456789" tFIGURES)))
    {tMOST_FIGURES : Tok} (sMOST_FIGURES : PySem.W.nsIn K mainGlobals "MOST_FIGURES" = some (some (.int 60 tMOST_FIGURES)))
    : ∃ fd : FuncData, (∀ (s : Shared) (v : Value), BindsTo s fd ⟨[v], []⟩ [("script", v)]) ∧ ∀ base : Heap, K.In base → base.Ns mainGlobals mg → FnOk l.prog w K mg base CX0 6 fa fd ["script"] (spLaw K) := by
  have e := hfa.symm.trans (PySem.W.mg_of X G a17)
  cases e
  have F0 := fun_mk (st := s_show_worth) l0 c0 k0
  have F1 := fun_mk (st := s_show_pile) l1 c1 k1
  have F2 := fun_mk (st := s_check_text) l2 c2 k2
  have F3 := fun_mk (st := s_read_number) l3 c3 k3
  have F4 := fun_mk (st := s_read_signed) l4 c4 k4
  have F5 := fun_mk (st := s_read_worth) l5 c5 k5
  have F6 := fun_mk (st := s_read_pile) l6 c6 k6
  have F7 := fun_mk (st := s_cell_at) l7 c7 k7
  have F8 := fun_mk (st := s_bag) l8 c8 k8
  have F9 := fun_mk (st := s_draw) l9 c9 k9
  have F10 := fun_mk (st := s_number) l10 c10 k10
  have F11 := fun_mk (st := s_whole) l11 c11 k11
  have F12 := fun_mk (st := s_worth) l12 c12 k12
  have F13 := fun_mk (st := s_same) l13 c13 k13
  have F14 := fun_mk (st := s_same_pile) l14 c14 k14
  have F15 := fun_mk (st := s_written) l15 c15 k15
  have F16 := fun_mk (st := s_pile_good) l16 c16 k16
  have F17 := fun_mk (st := s_law) l17 c17 k17
  let T : Txt l.prog w K mg := {
    f_show_worth := f0,
    fd_show_worth := _,
    F_show_worth := F0,
    b_show_worth := F0.binds (ps := ["worth"]) fun _ _ _ _ _ _ us hl => match us, hl with | [_], _ => rfl,
    g_show_worth := PySem.W.mg_of X G a0,
    f_show_pile := f1,
    fd_show_pile := _,
    F_show_pile := F1,
    b_show_pile := F1.binds (ps := ["worths"]) fun _ _ _ _ _ _ us hl => match us, hl with | [_], _ => rfl,
    g_show_pile := PySem.W.mg_of X G a1,
    f_check_text := f2,
    fd_check_text := _,
    F_check_text := F2,
    b_check_text := F2.binds (ps := ["text"]) fun _ _ _ _ _ _ us hl => match us, hl with | [_], _ => rfl,
    g_check_text := PySem.W.mg_of X G a2,
    f_read_number := f3,
    fd_read_number := _,
    F_read_number := F3,
    b_read_number := F3.binds (ps := ["text"]) fun _ _ _ _ _ _ us hl => match us, hl with | [_], _ => rfl,
    g_read_number := PySem.W.mg_of X G a3,
    f_read_signed := f4,
    fd_read_signed := _,
    F_read_signed := F4,
    b_read_signed := F4.binds (ps := ["text"]) fun _ _ _ _ _ _ us hl => match us, hl with | [_], _ => rfl,
    g_read_signed := PySem.W.mg_of X G a4,
    f_read_worth := f5,
    fd_read_worth := _,
    F_read_worth := F5,
    b_read_worth := F5.binds (ps := ["text"]) fun _ _ _ _ _ _ us hl => match us, hl with | [_], _ => rfl,
    g_read_worth := PySem.W.mg_of X G a5,
    f_read_pile := f6,
    fd_read_pile := _,
    F_read_pile := F6,
    b_read_pile := F6.binds (ps := ["text"]) fun _ _ _ _ _ _ us hl => match us, hl with | [_], _ => rfl,
    g_read_pile := PySem.W.mg_of X G a6,
    f_cell_at := f7,
    fd_cell_at := _,
    F_cell_at := F7,
    b_cell_at := F7.binds (ps := ["script", "k"]) fun _ _ _ _ _ _ us hl => match us, hl with | [_, _], _ => rfl,
    g_cell_at := PySem.W.mg_of X G a7,
    f_bag := f8,
    fd_bag := _,
    F_bag := F8,
    b_bag := F8.binds (ps := ["cell", "place"]) fun _ _ _ _ _ _ us hl => match us, hl with | [_, _], _ => rfl,
    g_bag := PySem.W.mg_of X G a8,
    f_draw := f9,
    fd_draw := _,
    F_draw := F9,
    b_draw := F9.binds (ps := ["bag", "many"]) fun _ _ _ _ _ _ us hl => match us, hl with | [_, _], _ => rfl,
    g_draw := PySem.W.mg_of X G a9,
    f_number := f10,
    fd_number := _,
    F_number := F10,
    b_number := F10.binds (ps := ["bag"]) fun _ _ _ _ _ _ us hl => match us, hl with | [_], _ => rfl,
    g_number := PySem.W.mg_of X G a10,
    f_whole := f11,
    fd_whole := _,
    F_whole := F11,
    b_whole := F11.binds (ps := ["found"]) fun _ _ _ _ _ _ us hl => match us, hl with | [_], _ => rfl,
    g_whole := PySem.W.mg_of X G a11,
    f_worth := f12,
    fd_worth := _,
    F_worth := F12,
    b_worth := F12.binds (ps := ["bag"]) fun _ _ _ _ _ _ us hl => match us, hl with | [_], _ => rfl,
    g_worth := PySem.W.mg_of X G a12,
    f_same := f13,
    fd_same := _,
    F_same := F13,
    b_same := F13.binds (ps := ["found", "due"]) fun _ _ _ _ _ _ us hl => match us, hl with | [_, _], _ => rfl,
    g_same := PySem.W.mg_of X G a13,
    f_same_pile := f14,
    fd_same_pile := _,
    F_same_pile := F14,
    b_same_pile := F14.binds (ps := ["found", "due"]) fun _ _ _ _ _ _ us hl => match us, hl with | [_, _], _ => rfl,
    g_same_pile := PySem.W.mg_of X G a14,
    f_written := f15,
    fd_written := _,
    F_written := F15,
    b_written := F15.binds (ps := ["worth"]) fun _ _ _ _ _ _ us hl => match us, hl with | [_], _ => rfl,
    g_written := PySem.W.mg_of X G a15,
    f_pile_good := f16,
    fd_pile_good := _,
    F_pile_good := F16,
    b_pile_good := F16.binds (ps := ["pile"]) fun _ _ _ _ _ _ us hl => match us, hl with | [_], _ => rfl,
    g_pile_good := PySem.W.mg_of X G a16,
    f_law := fa,
    fd_law := _,
    F_law := F17,
    b_law := F17.binds (ps := ["script"]) fun _ _ _ _ _ _ us hl => match us, hl with | [_], _ => rfl,
    g_law := PySem.W.mg_of X G a17,
    n_all := PySem.W.mg_none_of X G z_all,
    n_bool := PySem.W.mg_none_of X G z_bool,
    n_int := PySem.W.mg_none_of X G z_int,
    n_isinstance := PySem.W.mg_none_of X G z_isinstance,
    n_len := PySem.W.mg_none_of X G z_len,
    n_list := PySem.W.mg_none_of X G z_list,
    n_max := PySem.W.mg_none_of X G z_max,
    n_min := PySem.W.mg_none_of X G z_min,
    n_range := PySem.W.mg_none_of X G z_range,
    n_str := PySem.W.mg_none_of X G z_str,
    n_tuple := PySem.W.mg_none_of X G z_tuple,
    n_type := PySem.W.mg_none_of X G z_type,
    d_SIGNS := dSIGNS,
    es_SIGNS := esSIGNS,
    no_SIGNS := noSIGNS,
    c_SIGNS := PySem.W.mg_of X G smSIGNS,
    k_SIGNS := ⟨slSIGNS, stSIGNS, sySIGNS⟩,
    w_SIGNS := ns_seek slSIGNS skSIGNS,
    d_WORDS := dWORDS,
    es_WORDS := esWORDS,
    no_WORDS := noWORDS,
    c_WORDS := PySem.W.mg_of X G smWORDS,
    k_WORDS := ⟨slWORDS, stWORDS, syWORDS⟩,
    w_WORDS := ns_seek slWORDS skWORDS,
    t_FIGURES := tFIGURES,
    c_FIGURES := PySem.W.mg_of X G sFIGURES,
    t_MOST_FIGURES := tMOST_FIGURES,
    c_MOST_FIGURES := PySem.W.mg_of X G sMOST_FIGURES }
  exact ⟨PySem.W.fnOf "law" "law" (defArgs s_law) (defBody s_law) (defScope s_law) .none kV17 dc17 pm17 an17 cd17 ct17, fun s v => .of_eq rfl, fun base _ _ => ok_law T⟩
end K03
open PySem PySem.W PyProof.Rows
set_option maxHeartbeats 0 in
theorem PySem.Challenge.cw_manygoings_k03_worths_and_piles_written_holds : PySem.Challenge.rw_manygoings_k03_worths_and_piles_written.Holds := by
  w_on; o_law; k_head; (case hw => w_witness2)
  k_fill
  refine L2.walk_of (l := PySem.Challenge.rw_manygoings_k03_worths_and_piles_written) (n := 63) (k := 6) (x := "script") (CX := fun _ => L2.CX0) (sp := fun w => K03.spLaw _) rfl (by decide) rfl ⟨rfl, by decide, by decide⟩ (fun w h Y => PySem.W.kIn_of Y) ?F (fun _ _ a ns hl _ hS => ⟨a, ns, rfl, hS, hl, fun _ => rfl⟩) (fun _ _ _ _ _ h => h)
  case F =>
    intro w mg fa h KX G hmg
    refine' K03.all_mk KX G hmg ?a0 ?l0 ?c0 ?k0 ?a1 ?l1 ?c1 ?k1 ?a2 ?l2 ?c2 ?k2 ?a3 ?l3 ?c3 ?k3 ?a4 ?l4 ?c4 ?k4 ?a5 ?l5 ?c5 ?k5 ?a6 ?l6 ?c6 ?k6 ?a7 ?l7 ?c7 ?k7 ?a8 ?l8 ?c8 ?k8 ?a9 ?l9 ?c9 ?k9 ?a10 ?l10 ?c10 ?k10 ?a11 ?l11 ?c11 ?k11 ?a12 ?l12 ?c12 ?k12 ?a13 ?l13 ?c13 ?k13 ?a14 ?l14 ?c14 ?k14 ?a15 ?l15 ?c15 ?k15 ?a16 ?l16 ?c16 ?k16 ?a17 ?l17 ?c17 ?k17 ?z_all ?z_bool ?z_int ?z_isinstance ?z_len ?z_list ?z_max ?z_min ?z_range ?z_str ?z_tuple ?z_type ?smSIGNS ?slSIGNS ?stSIGNS ?sySIGNS ?skSIGNS ?smWORDS ?slWORDS ?stWORDS ?syWORDS ?skWORDS ?sFIGURES ?sMOST_FIGURES
    (case a0 => k_is); (case l0 => k_is); (case c0 => k_is); (case k0 => k_is); (case a1 => k_is); (case l1 => k_is); (case c1 => k_is); (case k1 => k_is); (case a2 => k_is); (case l2 => k_is); (case c2 => k_is); (case k2 => k_is); (case a3 => k_is); (case l3 => k_is); (case c3 => k_is); (case k3 => k_is); (case a4 => k_is); (case l4 => k_is); (case c4 => k_is); (case k4 => k_is); (case a5 => k_is); (case l5 => k_is); (case c5 => k_is); (case k5 => k_is); (case a6 => k_is); (case l6 => k_is); (case c6 => k_is); (case k6 => k_is); (case a7 => k_is); (case l7 => k_is); (case c7 => k_is); (case k7 => k_is); (case a8 => k_is); (case l8 => k_is); (case c8 => k_is); (case k8 => k_is); (case a9 => k_is); (case l9 => k_is); (case c9 => k_is); (case k9 => k_is); (case a10 => k_is); (case l10 => k_is); (case c10 => k_is); (case k10 => k_is); (case a11 => k_is); (case l11 => k_is); (case c11 => k_is); (case k11 => k_is); (case a12 => k_is); (case l12 => k_is); (case c12 => k_is); (case k12 => k_is); (case a13 => k_is); (case l13 => k_is); (case c13 => k_is); (case k13 => k_is); (case a14 => k_is); (case l14 => k_is); (case c14 => k_is); (case k14 => k_is); (case a15 => k_is); (case l15 => k_is); (case c15 => k_is); (case k15 => k_is); (case a16 => k_is); (case l16 => k_is); (case c16 => k_is); (case k16 => k_is); (case a17 => k_is); (case l17 => k_is); (case c17 => k_is); (case k17 => k_is); (case z_all => k_is); (case z_bool => k_is); (case z_int => k_is); (case z_isinstance => k_is); (case z_len => k_is); (case z_list => k_is); (case z_max => k_is); (case z_min => k_is); (case z_range => k_is); (case z_str => k_is); (case z_tuple => k_is); (case z_type => k_is)
    (case smSIGNS => k_is)
    (case slSIGNS => k_is)
    (case stSIGNS => k_keys)
    (case sySIGNS => rfl)
    (case skSIGNS => exact ⟨⟨_, rfl⟩, ⟨_, rfl⟩, ⟨_, rfl⟩, ⟨_, rfl⟩, ⟨_, rfl⟩, ⟨_, rfl⟩, ⟨_, rfl⟩, ⟨_, rfl⟩, True.intro⟩)
    (case smWORDS => k_is)
    (case slWORDS => k_is)
    (case stWORDS => k_keys)
    (case syWORDS => rfl)
    (case skWORDS => exact ⟨⟨_, rfl⟩, ⟨_, rfl⟩, ⟨_, rfl⟩, ⟨_, rfl⟩, ⟨_, rfl⟩, ⟨_, rfl⟩, True.intro⟩)
    (case sFIGURES => k_is)
    (case sMOST_FIGURES => k_is)

