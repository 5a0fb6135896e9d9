import PyProof.Rows.All
import Wide.All
import OpenK.AllK
import Wide.FinOn
import HandS.ForMost
import HandS.IsInst
import HandS.Wide
import HandS.More
import HandS.Codes
import HandS.Deep
import HandS.Conv
import KE.KDictKeyed
import KE.KeyNested
import HandS.Iter
import KE.SortData
import HandS.Style
import HandS.SortKw
import KE.DatumOrd
import HandS.DictComp
import PySem.Challenge.RW_manygoings_k10_tight_papers_lay_open
set_option Elab.async false
set_option linter.all false
set_option maxRecDepth 100000
set_option maxHeartbeats 4000000
/-! Steps over the readings of the hand layer: one lemma a form, and a walk by them. -/
namespace Wp
open PySem PySem.Spec PyProof.Rows L2
section
variable {σ : L2.St} {H : Hp} {Q : VK} {D : Ends} {te ta tb tc : TE} {t u v : TS} {c c2 : TT} {x y z : V} {i : Nat} {K : PySem.W.Frag}
theorem seq (h : t { D with nx := u D } σ H) : tSeq t u D σ H := h
theorem nx_mk {n : L2.St → Hp → Prop} {r : VK} {b k : L2.St → Hp → Prop} (h : n σ H) : (Ends.mk n r b k).nx σ H := h
theorem rt_mk {n : L2.St → Hp → Prop} {r : VK} {b k : L2.St → Hp → Prop} (h : r x H) : (Ends.mk n r b k).rt x H := h
theorem bk_mk {n : L2.St → Hp → Prop} {r : VK} {b k : L2.St → Hp → Prop} (h : b σ H) : (Ends.mk n r b k).bk σ H := h
theorem ct_mk {n : L2.St → Hp → Prop} {r : VK} {b k : L2.St → Hp → Prop} (h : k σ H) : (Ends.mk n r b k).ct σ H := h
theorem next (h : D.nx σ H) : tNext D σ H := h
theorem asg {g : TG} (h : te σ H fun x H1 => g x σ H1 D.nx) : tAsg te g D σ H := h
theorem gname {R : L2.St → Hp → Prop} {σ' : L2.St} (e : σ.set i (some x) = σ') (h : R σ' H) : gName i x σ H R := by subst e; exact h
theorem gsub {s : TSet} {R : L2.St → Hp → Prop} (h : ta σ H fun o H1 => tb σ H1 fun i H2 => s o i x H2 fun H3 => R σ H3) : gSub ta tb s x σ H R := h
theorem ret (h : te σ H D.rt) : tRet te D σ H := h
theorem retN (h : D.rt .non H) : tRetN D σ H := h
theorem drop (h : te σ H fun _ H1 => D.nx σ H1) : tDrop te D σ H := h
theorem ifs (h : c σ H fun b H1 => if b = true then t D σ H1 else u D σ H1) : tIfS c t u D σ H := h
theorem var (h : σ[i]? = some (some x)) (q : Q x H) : tVar i σ H Q := ⟨x, h, q⟩
theorem con (q : Q x H) : tC x σ H Q := q
theorem op {r : R2} (h : ta σ H fun x H1 => tb σ H1 fun y H2 => r x y H2 Q) : tOp r ta tb σ H Q := h
theorem un {r : V → Hp → VK → Prop} (h : ta σ H fun x H1 => r x H1 Q) : tUn r ta σ H Q := h
theorem cb {r : List V → Hp → VK → Prop} {t : TA} (h : t σ H fun vs H1 => r vs H1 Q) : tCB r t σ H Q := h
theorem anil {R : List V → Hp → Prop} (h : R [] H) : tNil σ H R := h
theorem acons {tr : TA} {R : List V → Hp → Prop} (h : te σ H fun x H1 => tr σ H1 fun xs H2 => R (x :: xs) H2) : tCons te tr σ H R := h
theorem call {sp : Sp} {dvs : List V} {E : XK} {t : TA} (h : t σ H fun vs H1 => sp (vs ++ dvs) H1 Q E) : tCall sp dvs E t σ H Q := h
theorem lst {t : TA} (h : t σ H fun xs H1 => xs.length ≤ sizeLine ∧ ∀ p, H1 p = none → Q (.ref p) (upd H1 p (.lst xs))) : tLst t σ H Q := h
theorem tup {t : TA} (h : t σ H fun xs H1 => xs.length ≤ sizeLine ∧ ∀ p, H1 p = none → Q (.ref p) (upd H1 p (.tup xs))) : tTup t σ H Q := h
theorem test {R : Bool → Hp → Prop} (h : te σ H fun x H1 => ∃ k, x = .bl k ∧ R k H1) : tTest te σ H R := h
theorem tb_ {R : Bool → Hp → Prop} (h : te σ H fun x H1 => ∃ k, x = .bl k ∧ R k H1) : tB te σ H R := h
theorem and_ {R : Bool → Hp → Prop} (h : c σ H fun b H1 => if b = true then c2 σ H1 R else R false H1) : tAnd c c2 σ H R := h
theorem or_ {R : Bool → Hp → Prop} (h : c σ H fun b H1 => if b = true then R true H1 else c2 σ H1 R) : tOr c c2 σ H R := h
theorem not_ {R : Bool → Hp → Prop} (h : c σ H fun b H1 => R (!b) H1) : tNot c σ H R := h
theorem andV (h : ta σ H fun x H1 => ∃ c, x = .bl c ∧ if c = true then tb σ H1 Q else Q (.bl false) H1) : tAndV ta tb σ H Q := h
theorem orV (h : ta σ H fun x H1 => ∃ c, x = .bl c ∧ if c = true then Q (.bl true) H1 else tb σ H1 Q) : tOrV ta tb σ H Q := h
theorem notV (h : ta σ H fun x H1 => ∃ c, x = .bl c ∧ Q (.bl (!c)) H1) : tNotV ta σ H Q := h
theorem rI0_ {g : Int → Int → V} {a b : Int} (q : Q (g a b) H) : rI0 g (.int a) (.int b) H Q := ⟨a, b, rfl, rfl, q⟩
theorem rI_ {C : Int → Int → Prop} {g : Int → Int → V} {a b : Int} (k : C a b) (q : Q (g a b) H) : rI C g (.int a) (.int b) H Q := ⟨a, b, rfl, rfl, k, q⟩
theorem rU_ {g : Int → V} {a : Int} (q : Q (g a) H) : rU g (.int a) H Q := ⟨a, rfl, q⟩
theorem rEq_ {x y : V} (k : scal x y = true) (q : Q (.bl (decide (x = y))) H) : rEq x y H Q := ⟨k, q⟩
theorem rNe_ {x y : V} (k : scal x y = true) (q : Q (.bl (!decide (x = y))) H) : rNe x y H Q := ⟨k, q⟩
theorem ixL {p : Addr} {xs : List V} {j : Int} (h : SqL K H p xs) (e : atI xs j = some x) (q : Q x H) : rIxL K (.ref p) (.int j) H Q := ⟨p, xs, j, x, rfl, rfl, h, e, q⟩
theorem ixT {p : Addr} {xs : List V} {j : Int} (h : SqT K H p xs) (e : atI xs j = some x) (q : Q x H) : rIxT K (.ref p) (.int j) H Q := ⟨p, xs, j, x, rfl, rfl, h, e, q⟩
theorem setL {p : Addr} {xs : List V} {j : Int} {n : Nat} {R : Hp → Prop} (h : H p = some (.lst xs)) (e : ixN xs.length j = some n) (q : R (upd H p (.lst (xs.set n x)))) : rSetL (.ref p) (.int j) x H R := ⟨p, xs, j, n, rfl, rfl, h, e, q⟩
/-- a test's two ways -/
theorem ite_ {p A B : Prop} [Decidable p] (h1 : p → A) (h2 : ¬ p → B) : if decide p = true then A else B := by
  by_cases h : p
  · rw [if_pos (decide_eq_true h)]; exact h1 h
  · rw [if_neg (by rw [decide_eq_false h]; exact Bool.false_ne_true)]; exact h2 h
theorem iteN {p A B : Prop} [Decidable p] (h1 : ¬ p → A) (h2 : p → B) : if (!decide p) = true then A else B := by
  by_cases h : p
  · rw [decide_eq_true h]; exact iteF (h2 h)
  · rw [decide_eq_false h]; exact iteT (h1 h)
theorem iteB {b : Bool} {A B : Prop} (h1 : b = true → A) (h2 : b = false → B) : if b = true then A else B := by
  cases b with
  | true => exact iteT (h1 rfl)
  | false => exact iteF (h2 rfl)
end
/-! ### the walk -/
/-- all but the object at b is kept -/
def Kp (b : Addr) (H H' : Hp) : Prop := ∀ a o, a ≠ b → H a = some o → H' a = some o
theorem Kp.refl (b : Addr) (H : Hp) : Kp b H H := fun _ _ _ h => h
theorem Kp.trans {b : Addr} {H H1 H2 : Hp} (x : Kp b H H1) (y : Kp b H1 H2) : Kp b H H2 := fun a o n h => y a o n (x a o n h)
theorem Kp.new {b p : Addr} {H : Hp} {o : HO} (h : H p = none) : Kp b H (upd H p o) := fun a u _ e => by rw [upd_ne (ne_of_none e h)]; exact e
theorem Kp.at {b : Addr} {H : Hp} {o : HO} : Kp b H (upd H b o) := fun a u n e => by rw [upd_ne n]; exact e
section
variable {σ : L2.St} {H H1 H2 : Hp} {Q : VK} {D : Ends} {te ta tb tc : TE} {t u v : TS} {c c2 : TT} {x y z : V} {i : Nat} {K : PySem.W.Frag} {a b p : Addr} {xs ys : List V}
theorem gtup {tt : TGs} {R : L2.St → Hp → Prop} {n : Nat} (h : SqT K H a xs) (e : xs.length = n) (q : tt xs σ H R) : gTup K n tt (.ref a) σ H R := ⟨a, xs, rfl, h, e, q⟩
theorem gcons {g : TG} {tt : TGs} {R : L2.St → Hp → Prop} {r : List V} (q : g x σ H fun σ' H' => tt r σ' H' R) : gCons g tt (x :: r) σ H R := ⟨x, r, rfl, q⟩
theorem gnil {R : L2.St → Hp → Prop} (q : R σ H) : gNil [] σ H R := ⟨rfl, q⟩
theorem sl {r : V → Option Int → Option Int → Hp → VK → Prop} {tl th : TO} (h : te σ H fun x H1 => tl σ H1 fun l H2 => th σ H2 fun u H3 => r x l u H3 Q) : tSl r te tl th σ H Q := h
theorem part {R : Option Int → Hp → Prop} (h : te σ H fun x H1 => ∃ i, x = .int i ∧ R (some i) H1) : tPart te σ H R := h
theorem nopart {R : Option Int → Hp → Prop} (h : R none H) : tNoPart σ H R := h
theorem slS {zs : Str} {lo hi : Option Int} (h : zs.length ≤ sizeLine) (q : Q (.str (cutS zs lo hi)) H) : rSlS (.str zs) lo hi H Q := ⟨zs, rfl, h, q⟩
theorem ifE (h : c σ H fun b H1 => if b = true then ta σ H1 Q else tb σ H1 Q) : tIf c ta tb σ H Q := h
theorem bm0 {T : String} {r : V → List V → Hp → VK → Prop} (h : te σ H fun x H1 => tyV K T x H1 ∧ r x [] H1 Q) : tBM0 K T r te σ H Q := h
theorem bm {T : String} {r : V → List V → Hp → VK → Prop} {tt : TA} (h : te σ H fun x H1 => tyV K T x H1 ∧ tt σ H1 fun xs H2 => r x xs H2 Q) : tBM K T r te tt σ H Q := h
theorem lcat {t u : List V} {R : Addr → Hp → Prop} (h : ∀ p, H p = none → R p (upd H p (.lst (t ++ u)))) : ∀ p, H p = none → R p (upd H p (.lst (t ++ u))) := h
theorem iteT' {A B : Prop} (h : A) : if (!false) = true then A else B := iteT h
theorem iteF' {A B : Prop} (h : B) : if (!true) = true then A else B := iteF h
theorem iteBt {b : Bool} {A B : Prop} (h : b = true) (q : A) : if b = true then A else B := by rw [h]; exact iteT q
theorem iteBf {b : Bool} {A B : Prop} (h : b = false) (q : B) : if b = true then A else B := by rw [h]; exact iteF q
theorem cutS_len (z : Str) (lo hi : Option Int) : (cutS z lo hi).length ≤ z.length := by
  show ((z.cps.toList.drop (HT.sIx z.length 0 lo)).take (HT.sIx z.length z.length hi - HT.sIx z.length 0 lo)).toArray.size ≤ z.cps.size
  rw [List.size_toArray, List.length_take, List.length_drop, Array.length_toList]
  omega
theorem app_len (x y : Str) : (x ++ y).length = x.length + y.length := by
  show (x.cps ++ y.cps).size = x.cps.size + y.cps.size
  exact Array.size_append
theorem str1_len (c : Nat) : (⟨#[c]⟩ : Str).length = 1 := rfl
theorem iteBnT {b : Bool} {A B : Prop} (h : b = false) (q : A) : if (!b) = true then A else B := by rw [h]; exact iteT q
theorem iteBnF {b : Bool} {A B : Prop} (h : b = true) (q : B) : if (!b) = true then A else B := by rw [h]; exact iteF q
theorem pcons {tk tv : TE} {r : List (TE × TE)} {R : List (V × V) → Hp → Prop} (h : tk σ H fun x H1 => tv σ H1 fun y H2 => tPairs r σ H2 fun ps H3 => R ((x, y) :: ps) H3) : tPairs ((tk, tv) :: r) σ H R := h
theorem pnil {R : List (V × V) → Hp → Prop} (h : R [] H) : tPairs [] σ H R := h
/-! ### a written dict with text keys -/
def keysAre : List DictEntry → List (Str × V) → Prop
  | [], [] => True
  | e :: r, (k, v) :: s => (∃ t, e.key = .str k t) ∧ RelV v e.val ∧ keysAre r s
  | _, _ => False
def seek (z : Str) : List (Str × V) → Option V
  | [] => none
  | (k, v) :: s => if k = z then some v else seek z s
theorem keys_find {z : Str} : ∀ {l : List DictEntry} {ks : List (Str × V)}, keysAre l ks →
    (l.any (·.refKey) = false) ∧ ((∃ v e, seek z ks = some v ∧ l.find? (·.key.isStr z) = some e ∧ RelV v e.val) ∨ (seek z ks = none ∧ l.find? (·.key.isStr z) = none))
  | [], [], _ => ⟨rfl, .inr ⟨rfl, rfl⟩⟩
  | [], _ :: _, h => h.elim
  | _ :: _, [], h => h.elim
  | e :: r, (k, v) :: s, ⟨⟨t, hk⟩, hv, h⟩ => by
    obtain ⟨h1, h2⟩ := keys_find (z := z) h
    refine ⟨?_, ?_⟩
    · rw [List.any_cons, h1, Bool.or_false]
      show DictEntry.refKey e = false
      unfold DictEntry.refKey
      rw [hk] <;> rfl
    · rw [List.find?_cons]
      have e1 : (e.key.isStr z) = decide (k = z) := by
        rw [hk, PySem.W.isStr_of]
        show (k == z) = decide (k = z)
        exact Bool.beq_eq_decide_eq k z
      show (∃ v' e', (if k = z then some v else seek z s) = some v' ∧ _) ∨ ((if k = z then some v else seek z s) = none ∧ _)
      by_cases c : k = z
      · rw [if_pos c, e1, decide_eq_true c]
        exact .inl ⟨v, e, rfl, rfl, hv⟩
      · rw [if_neg c, e1, decide_eq_false c]
        exact h2
theorem ns_seek {d : Addr} {es : Array DictEntry} {n : Nat} {ks : List (Str × V)} (hl : K.lookup d = some ⟨.type "dict", none, .dict es n, #[]⟩) (hk : keysAre es.toList ks) (z : Str) :
    (∃ v u, seek z ks = some v ∧ PySem.W.nsIn K d z = some (some u) ∧ RelV v u) ∨ (seek z ks = none ∧ PySem.W.nsIn K d z = some none) := by
  obtain ⟨h1, h2⟩ := keys_find (z := z) hk
  unfold PySem.W.nsIn
  rw [hl]
  dsimp only
  rcases h2 with ⟨v, e, e1, e2, r⟩ | ⟨e1, e2⟩
  · rw [e2]
    exact .inl ⟨v, e.val, e1, rfl, r⟩
  · rw [e2]
    dsimp only
    rw [h1]
    exact .inr ⟨e1, rfl⟩
theorem ixS_any {zs : Str} {j : Int} (hz : zs.length ≤ sizeLine) (h0 : 0 ≤ j) (h1 : j < zs.length) (q : ∀ c, Q (.str ⟨#[c]⟩) H) : rIxS (.str zs) (.int j) H Q := by
  have h2 : j.toNat < zs.cps.toList.length := by
    rw [Array.length_toList]
    show j.toNat < zs.length
    omega
  obtain ⟨c, hc⟩ : ∃ c, zs.cps.toList[j.toNat]? = some c := ⟨_, List.getElem?_eq_getElem h2⟩
  have e : ((j.toNat : Nat) : Int) = j := by omega
  have hc2 := atI_nat hc
  rw [e] at hc2
  exact ⟨zs, j, c, rfl, rfl, hz, hc2, q c⟩
theorem tyvL {p : Addr} {xs : List V} (h : H p = some (.lst xs)) : tyV K "list" (.ref p) H := .inl ⟨rfl, _, SqL.of h⟩
theorem app_ {p : Addr} {xs : List V} {y : V} (h : H p = some (.lst xs)) (hl : xs.length < sizeLine) (q : Q .non (upd H p (.lst (xs ++ [y])))) : rAppend (.ref p) [y] H Q := ⟨p, xs, y, rfl, rfl, h, hl, q⟩
theorem rev_ {p : Addr} {xs : List V} (h : H p = some (.lst xs)) (q : Q .non (upd H p (.lst xs.reverse))) : rReverse (.ref p) [] H Q := ⟨p, xs, rfl, rfl, h, q⟩
theorem slL {p : Addr} {xs : List V} {lo hi : Option Int} (h : SqL K H p xs) (q : ∀ p, H p = none → Q (.ref p) (upd H p (.lst (cutV xs lo hi)))) : rSlL K (.ref p) lo hi H Q := ⟨p, xs, rfl, h, q⟩
theorem cat_ {l b : Addr} {xs zs : List V} (h : H l = some (.lst xs)) (h2 : H b = some (.lst zs)) (hl : xs.length + zs.length ≤ sizeLine) (q : ∀ p, H p = none → Q (.ref p) (upd H p (.lst (xs ++ zs)))) : rCat (.ref l) (.ref b) H Q :=
  ⟨l, b, xs, zs, rfl, rfl, h, h2, hl, q⟩
theorem un65 {k : Nat} {A : Around} (r : Room k A) : A.units + 65 < cLine := by have := r.un; omega
theorem eqD {x y : V} {d : PyData} (h1 : Dp K H x d) (h2 : Dp K H y d) (s : SeqAt.shaped d = true) (e : PyData.eqv d d = true) (q : Q (.bl true) H) : rEqD K x y H Q := ⟨d, d, h1, h2, s, s, by rw [e]; exact q⟩
theorem neD {x y : V} {d : PyData} (h1 : Dp K H x d) (h2 : Dp K H y d) (s : SeqAt.shaped d = true) (e : PyData.eqv d d = true) (q : Q (.bl false) H) : rNeD K x y H Q := ⟨d, d, h1, h2, s, s, by rw [e]; exact q⟩
theorem cut_take {xs : List V} {n : Nat} : cutV xs none (some (n : Int)) = xs.take n := by
  unfold cutV
  rw [show HT.sIx xs.length 0 none = 0 from HT.sIx_none .., show HT.sIx xs.length xs.length (some (n : Int)) = min n xs.length from HT.sIx_nat ..]
  show (xs.drop 0).take (min n xs.length - 0) = xs.take n
  rw [List.drop_zero, Nat.sub_zero]
  by_cases h : n ≤ xs.length
  · rw [Nat.min_eq_left h]
  · rw [Nat.min_eq_right (by omega), List.take_of_length_le (Nat.le_refl _), List.take_of_length_le (by omega)]
theorem dput {td tk tv : TE} (h : tv σ H fun v H1 => td σ H1 fun x H2 => tk σ H2 fun y H3 => ∃ a H', x = .ref a ∧ DPut H3 a y v H' ∧ D.nx σ H') : sDPut td tk tv D σ H := h
theorem cut (Mid : L2.St → Hp → Prop) (h1 : t { D with nx := Mid } σ H) (h2 : ∀ σ' H', Mid σ' H' → u D σ' H') : C8.tCut t u D σ H := ⟨Mid, h1, h2⟩
theorem len_take {xs : List V} {n m : Nat} (h : n ≤ m) : (xs.take n).length ≤ m := Nat.le_trans (List.length_take_le _ _) h
/-! ### loops -/
/-- the loop over J -/
def Loop (J : It) (g : TG) (tb : TS) (D : Ends) (σ : L2.St) (H : Hp) : Prop := ∃ W : Nat → Nat → L2.St → Hp → Prop, (∃ m, W 0 m σ H) ∧ ∀ i m σ H, W i m σ H →
  (J.stop i H ∧ D.nx σ H) ∨ (J.go i H ∧ ∃ N : L2.St → Hp → Prop, (∀ σ' H', N σ' H' → ∃ m', m' < m ∧ W (i + 1) m' σ' H') ∧ ∀ x H', J.yld i H x H' → g x σ H' fun σ2 H2 => tb { D with nx := N, ct := N, bk := D.nx } σ2 H2)
theorem forR1 {ta : TA} {g : TG} {tb : TS} (h : ta σ H fun vs H1 => ∃ j : Int, vs = [.int j] ∧ -(2 ^ 62) ≤ j ∧ j < 2 ^ 62 ∧ Loop (Itr 0 j.toNat) g tb D σ H1) : tFor (iRng1 ta) g tb D σ H := h
theorem forR2 {ta : TA} {g : TG} {tb : TS} (h : ta σ H fun vs H1 => ∃ i j : Int, vs = [.int i, .int j] ∧ (-(2 ^ 62) ≤ i ∧ i < 2 ^ 62 ∧ -(2 ^ 62) ≤ j ∧ j < 2 ^ 62) ∧ Loop (Itr i (j - i).toNat) g tb D σ H1) : tFor (iRng2 ta) g tb D σ H := h
theorem forL {g : TG} {tb : TS} (h : te σ H fun x H1 => ∃ a, x = .ref a ∧ (∃ xs, SqL K H1 a xs) ∧ Loop (Itl K a) g tb D σ H1) : tFor (iList K te) g tb D σ H := h
theorem forT {g : TG} {tb : TS} (h : te σ H fun x H1 => ∃ a, x = .ref a ∧ (∃ xs, SqT K H1 a xs) ∧ Loop (Itt K a) g tb D σ H1) : tFor (iTup K te) g tb D σ H := h
theorem loopR {lo : Int} {n : Nat} {g : TG} {tb : TS} (Pv : Nat → L2.St → Hp → Prop) (h0 : Pv 0 σ H)
    (hs : ∀ i σ H, i < n → Pv i σ H → g (.int (lo + i)) σ H fun σ2 H2 => tb { D with nx := Pv (i + 1), ct := Pv (i + 1), bk := D.nx } σ2 H2) (hd : ∀ σ H, Pv n σ H → D.nx σ H) : Loop (Itr lo n) g tb D σ H := for_range Pv h0 hs hd
theorem loopL {g : TG} {tb : TS} {xs : List V} (Pv : Nat → L2.St → Hp → Prop) (h0 : Pv 0 σ H) (hl : ∀ i σ H, i ≤ xs.length → Pv i σ H → SqL K H a xs)
    (hs : ∀ i x σ H, xs[i]? = some x → Pv i σ H → g x σ H fun σ2 H2 => tb { D with nx := Pv (i + 1), ct := Pv (i + 1), bk := D.nx } σ2 H2) (hd : ∀ σ H, Pv xs.length σ H → D.nx σ H) : Loop (Itl K a) g tb D σ H := for_list Pv h0 hl hs hd
/-! ### comprehensions, whiles -/
def LoopC (J : It) (g : TG) (tt : TT) (te : TE) (vs : List Nat) (σ : L2.St) (D : Addr) (Qd : Hp → Prop) (H0 : Hp) : Prop := ∃ W : Nat → Nat → Hp → Prop, (∃ m, W 0 m H0) ∧ ∀ i m H, W i m H →
  (J.stop i H ∧ Qd H) ∨ (J.go i H ∧ ∃ Nx : Hp → Prop, (∀ H', Nx H' → ∃ m', m' < m ∧ W (i + 1) m' H') ∧ ∀ x H', J.yld i H x H' → g x (wipe σ vs) H' fun σ2 H2 => wipe σ2 vs = wipe σ vs ∧ tt σ2 H2 fun b H3 =>
    if b = true then te σ2 H3 fun y H4 => ∃ acc, H4 D = some (.lst acc) ∧ acc.length < sizeLine ∧ Nx (upd H4 D (.lst (acc ++ [y]))) else Nx H3)
theorem lcR1 {ta : TA} {g : TG} {tt : TT} {vs : List Nat} (h : ta σ H fun us H1 => ∃ j : Int, us = [.int j] ∧ -(2 ^ 62) ≤ j ∧ j < 2 ^ 62 ∧ ∀ D, H1 D = none → LoopC (Itr 0 j.toNat) g tt te vs σ D (fun H => Q (.ref D) H) (upd H1 D (.lst []))) : tLc (iRng1 ta) g tt te vs σ H Q := h
theorem lcR2 {ta : TA} {g : TG} {tt : TT} {vs : List Nat} (h : ta σ H fun us H1 => ∃ i j : Int, us = [.int i, .int j] ∧ (-(2 ^ 62) ≤ i ∧ i < 2 ^ 62 ∧ -(2 ^ 62) ≤ j ∧ j < 2 ^ 62) ∧ ∀ D, H1 D = none → LoopC (Itr i (j - i).toNat) g tt te vs σ D (fun H => Q (.ref D) H) (upd H1 D (.lst []))) : tLc (iRng2 ta) g tt te vs σ H Q := h
theorem lcL {g : TG} {tt : TT} {vs : List Nat} (h : ta σ H fun x H1 => ∃ a, x = .ref a ∧ (∃ xs, SqL K H1 a xs) ∧ ∀ D, H1 D = none → LoopC (Itl K a) g tt te vs σ D (fun H => Q (.ref D) H) (upd H1 D (.lst []))) : tLc (iList K ta) g tt te vs σ H Q := h
theorem loopCR {lo : Int} {n : Nat} {g : TG} {tt : TT} {vs : List Nat} {D : Addr} {Qd : Hp → Prop} (Pv : Nat → Hp → Prop) (h0 : Pv 0 H)
    (hs : ∀ i H, i < n → Pv i H → g (.int (lo + i)) (wipe σ vs) H fun σ2 H2 => wipe σ2 vs = wipe σ vs ∧ tt σ2 H2 fun b H3 =>
      if b = true then te σ2 H3 fun y H4 => ∃ acc, H4 D = some (.lst acc) ∧ acc.length < sizeLine ∧ Pv (i + 1) (upd H4 D (.lst (acc ++ [y]))) else Pv (i + 1) H3) (hd : ∀ H, Pv n H → Qd H) : LoopC (Itr lo n) g tt te vs σ D Qd H := by
  refine ⟨fun i m H => m = n - i ∧ i ≤ n ∧ Pv i H, ⟨n, by simp, Nat.zero_le _, h0⟩, ?_⟩
  rintro i m H ⟨rfl, hi, p⟩
  by_cases hlt : i < n
  · refine .inr ⟨hlt, Pv (i + 1), fun H' p' => ⟨n - (i + 1), by omega, rfl, hlt, p'⟩, fun x H' y => ?_⟩
    obtain ⟨e, y⟩ := y
    subst e y
    exact hs i _ hlt p
  · have e : i = n := by omega
    subst e
    exact .inl ⟨Nat.le_refl _, hd H p⟩
theorem loopCL {a : Addr} {xs : List V} {g : TG} {tt : TT} {vs : List Nat} {D : Addr} {Qd : Hp → Prop} (Pv : Nat → Hp → Prop) (h0 : Pv 0 H) (hl : ∀ i H, i ≤ xs.length → Pv i H → SqL K H a xs)
    (hs : ∀ i x H, xs[i]? = some x → Pv i H → g x (wipe σ vs) H fun σ2 H2 => wipe σ2 vs = wipe σ vs ∧ tt σ2 H2 fun b H3 =>
      if b = true then te σ2 H3 fun y H4 => ∃ acc, H4 D = some (.lst acc) ∧ acc.length < sizeLine ∧ Pv (i + 1) (upd H4 D (.lst (acc ++ [y]))) else Pv (i + 1) H3) (hd : ∀ H, Pv xs.length H → Qd H) : LoopC (Itl K a) g tt te vs σ D Qd H := by
  refine ⟨fun i m H => m = xs.length - i ∧ i ≤ xs.length ∧ Pv i H, ⟨xs.length, by simp, Nat.zero_le _, h0⟩, ?_⟩
  rintro i m H ⟨rfl, hi, p⟩
  have q := hl i H hi p
  by_cases hlt : i < xs.length
  · refine .inr ⟨⟨xs, xs[i], q, by simp [hlt]⟩, Pv (i + 1), fun H' p' => ⟨xs.length - (i + 1), by omega, rfl, hlt, p'⟩, fun x H' y => ?_⟩
    obtain ⟨e, y⟩ := y
    subst e
    exact hs i x _ (y xs q) p
  · have e : i = xs.length := by omega
    subst e
    exact .inl ⟨⟨xs, q, Nat.le_refl _⟩, hd H p⟩
theorem yes {R : Bool → Hp → Prop} (h : R true H) : tYes σ H R := h
theorem whileW (M : Nat → L2.St → Hp → Prop) (m0 : Nat) (h0 : M m0 σ H)
    (hs : ∀ m σ H, M m σ H → c σ H fun b H1 => if b = true then (∃ N : L2.St → Hp → Prop, (∀ σ' H', N σ' H' → ∃ m', m' < m ∧ M m' σ' H') ∧ t { D with nx := N, ct := N, bk := D.nx } σ H1) else D.nx σ H1) : tWhile c t D σ H := by
  refine ⟨M, ⟨m0, h0⟩, fun m σ H h => ?_⟩
  have h2 := hs m σ H h
  exact h2
theorem dinI {ty td : TE} (h : ty σ H fun y H1 => td σ H1 fun x H2 => ∃ a o, x = .ref a ∧ DGet H2 a y o ∧ Q (.bl o.isSome) H2) : tDIn ty td σ H Q := h
theorem dninI {ty td : TE} (h : ty σ H fun y H1 => td σ H1 fun x H2 => ∃ a o, x = .ref a ∧ DGet H2 a y o ∧ Q (.bl (!o.isSome)) H2) : tDNotIn ty td σ H Q := h
theorem dget {ty td : TE} (h : td σ H fun x H1 => ty σ H1 fun y H2 => ∃ a v, x = .ref a ∧ DGet H2 a y (some v) ∧ Q v H2) : tDGet td ty σ H Q := h
/-- len and list of a sequence, by names -/
def rLenS (K : PySem.W.Frag) : List V → Hp → VK → Prop := fun xs H Q => ∃ p ys, xs = [.ref p] ∧ (SqL K H p ys ∨ SqT K H p ys) ∧ Q (.int ys.length) H
theorem call_lenS {X : Cx} : CallR X (.builtin "len") (rLenS X.K) := call_len_seq
def rListS (K : PySem.W.Frag) : List V → Hp → VK → Prop := fun xs H Q => ∃ p ys, xs = [.ref p] ∧ (SqL K H p ys ∨ SqT K H p ys) ∧ ∀ l, H l = none → Q (.ref l) (upd H l (.lst ys))
theorem call_listS {X : Cx} : CallR X (.type "list") (rListS X.K) := call_list_of
theorem lenS_ {p : Addr} {ys : List V} (h : SqL K H p ys) (q : Q (.int ys.length) H) : rLenS K [.ref p] H Q := ⟨p, ys, rfl, .inl h, q⟩
theorem listS_ {p : Addr} {ys : List V} (h : SqL K H p ys) (q : ∀ l, H l = none → Q (.ref l) (upd H l (.lst ys))) : rListS K [.ref p] H Q := ⟨p, ys, rfl, .inl h, q⟩
theorem chain {r r' : R2} (h : ta σ H fun x H1 => tb σ H1 fun y H2 => r x y H2 fun z H3 => ∃ k, z = .bl k ∧ (if k = true then tc σ H3 fun w' H4 => r' y w' H4 Q else Q (.bl false) H3)) : tChain r r' ta tb tc σ H Q := h
/-- a comprehension of two clauses, the first one's loop -/
def LoopC2 (J : It) (g : TG) (tt : TT) (wi1 : TI) (g1 : TG) (tt1 : TT) (te : TE) (vs vs1 : List Nat) (σ : L2.St) (D : Addr) (Qd : Hp → Prop) (H0 : Hp) : Prop := ∃ W : Nat → Nat → Hp → Prop, (∃ m, W 0 m H0) ∧ ∀ i m H, W i m H →
  (J.stop i H ∧ Qd H) ∨ (J.go i H ∧ ∃ Nx : Hp → Prop, (∀ H', Nx H' → ∃ m', m' < m ∧ W (i + 1) m' H') ∧ ∀ x H', J.yld i H x H' → g x (wipe σ vs) H' fun σ2 H2 => wipe σ2 vs = wipe σ vs ∧ tt σ2 H2 fun b H3 =>
    if b = true then wi1 σ2 H3 (fun J1 H4 => LoopC J1 g1 tt1 te vs1 σ2 D Nx H4) else Nx H3)
theorem lc2V {K : PySem.W.Frag} {ts : TA} {wi1 : TI} {g g1 : TG} {tt tt1 : TT} {vs vs1 : List Nat} (h : ts σ H fun us H1 => ∃ (a : Addr) (xs : List V), us = [.ref a] ∧ SqL K H1 a xs ∧ ∀ D, H1 D = none → LoopC2 (Itv K a xs.length) g tt wi1 g1 tt1 te vs vs1 σ D (fun H => Q (.ref D) H) (upd H1 D (.lst []))) :
    tLc2 (iRev K ts) g tt wi1 g1 tt1 te vs vs1 σ H Q := h
theorem loopC2V {a : Addr} {xs : List V} {wi1 : TI} {g g1 : TG} {tt tt1 : TT} {vs vs1 : List Nat} {D : Addr} {Qd : Hp → Prop} (Pv : Nat → Hp → Prop) (h0 : Pv 0 H) (hl : ∀ i H, Pv i H → SqL K H a xs)
    (hs : ∀ i x H, i < xs.length → xs[xs.length - 1 - i]? = some x → Pv i H → g x (wipe σ vs) H fun σ2 H2 => wipe σ2 vs = wipe σ vs ∧ tt σ2 H2 fun b H3 =>
      if b = true then wi1 σ2 H3 (fun J1 H4 => LoopC J1 g1 tt1 te vs1 σ2 D (Pv (i + 1)) H4) else Pv (i + 1) H3) (hd : ∀ H, Pv xs.length H → Qd H) : LoopC2 (Itv K a xs.length) g tt wi1 g1 tt1 te vs vs1 σ D Qd H := by
  refine ⟨fun i m H => m = xs.length - i ∧ i ≤ xs.length ∧ Pv i H, ⟨xs.length, by simp, Nat.zero_le _, h0⟩, ?_⟩
  rintro i m H ⟨rfl, hi, p⟩
  by_cases hlt : i < xs.length
  · have hx : xs.length - 1 - i < xs.length := by omega
    refine .inr ⟨⟨hlt, xs, xs[xs.length - 1 - i], hl i H p, List.getElem?_eq_getElem hx⟩, Pv (i + 1), fun H' p' => ⟨xs.length - (i + 1), by omega, rfl, hlt, p'⟩, fun x H' y => ?_⟩
    obtain ⟨e, y⟩ := y
    subst e
    exact hs i x _ hlt (y xs (hl i _ p)) p
  · have e : i = xs.length := by omega
    subst e
    exact .inl ⟨Nat.le_refl _, hd H p⟩
theorem piL {R : It → Hp → Prop} (h : ta σ H fun x H1 => ∃ a, x = .ref a ∧ (∃ xs, SqL K H1 a xs) ∧ R (Itl K a) H1) : iList K ta σ H R := h
/-! ### kinds -/
/-- a value's built-in type, of what is known of it -/
inductive Kind (H : Hp) : V → String → Prop where
  | non : Kind H .non "NoneType"
  | bl (b : Bool) : Kind H (.bl b) "bool"
  | int (i : Int) : Kind H (.int i) "int"
  | str (x : Str) : Kind H (.str x) "str"
  | lst {a : Addr} {xs : List V} (h : H a = some (.lst xs)) : Kind H (.ref a) "list"
  | tup {a : Addr} {xs : List V} (h : H a = some (.tup xs)) : Kind H (.ref a) "tuple"
  | dK {a : Addr} {kvs : List (Key × V)} (h : H a = some (.dK kvs)) : Kind H (.ref a) "dict"
theorem Kind.tyB {T : String} (k : Kind H x T) : TyB K H x T := by
  cases k with
  | non => exact .non
  | bl b => exact .bl b
  | int i => exact .int i
  | str s => exact .str s
  | lst h => exact .lst (SqL.of h)
  | tup h => exact .tup (SqT.of h)
  | dK h => exact .dK h
theorem Kind.tyX {T : String} (k : Kind H x T) : TyX K H x (.type T) := by
  cases k with
  | non => exact .base .non
  | bl b => exact .base (.bl b)
  | int i => exact .base (.int i)
  | str s => exact .base (.str s)
  | lst h => exact .base (.lst h)
  | tup h => exact .base (.tup h)
  | dK h => exact .base (.dK h)
def isB (T C : String) : Bool := decide (T = C) || (decide (T = "bool") && decide (C = "int"))
theorem isB_eq {T C : String} (h : C ≠ "int") : isB T C = decide (T = C) := by
  unfold isB
  rw [decide_eq_false h, Bool.and_false, Bool.or_false]
theorem Kind.kit {T : String} (k : Kind H x T) {C : String} (hC : C = "int" ∨ C = "bool" ∨ C = "str" ∨ C = "tuple" ∨ C = "list") : PySem.W.kitOne K (.type T) (.type C) = some (isB T C) := by
  rcases hC with rfl | rfl | rfl | rfl | rfl <;> cases k <;> exact kit_ty (by decide +kernel)
theorem isi {T C : String} (k : Kind H x T) (hC : C = "int" ∨ C = "bool" ∨ C = "str" ∨ C = "tuple" ∨ C = "list") (q : Q (.bl (isB T C)) H) : rIsi K [x, .ty C] H Q :=
  ⟨x, .ty C, _, _, _, rfl, .ty C, k.tyX, k.kit hC, q⟩
theorem typ {T : String} (k : Kind H x T) (q : Q (.ty T) H) : rTyp K [x] H Q := ⟨x, T, rfl, k.tyB, q⟩
theorem rNT_ {s1 s2 : String} (q : Q (.bl (!decide (s1 = s2))) H) : rNT (.ty s1) (.ty s2) H Q := ⟨s1, s2, rfl, rfl, q⟩
/-! ### heaps -/
theorem Kp.same (h : H b = none) (k : Kp b H H1) : Same H H1 := fun a o e => k a o (ne_of_none e h) e
theorem Kp.updNew {o : HO} (k : Kp b H H1) (h : H p = none) : Kp b H (upd H1 p o) := fun a u n e => by rw [upd_ne (ne_of_none e h)]; exact k a u n e
theorem Same.kp (k : Same H H1) : Kp b H H1 := fun a o _ e => k a o e
theorem same_new {o : HO} (h : H p = none) : Same H (upd H p o) := fun a u e => by rw [upd_ne (ne_of_none e h)]; exact e
theorem Kp.kind {T : String} {bs : List V} (k : Kp b H H1) (hb : H b = some (.lst bs)) (q : Kind H x T) (n : x ≠ .ref b) : Kind H1 x T := by
  cases q with
  | non => exact .non
  | bl b => exact .bl b
  | int i => exact .int i
  | str s => exact .str s
  | lst h => exact .lst (k _ _ (fun e => n (by rw [e])) h)
  | tup h => exact .tup (k _ _ (fun e => n (by rw [e])) h)
  | dK h => exact .dK (k _ _ (fun e => n (by rw [e])) h)
theorem Same.kind {T : String} (k : Same H H1) (q : Kind H x T) : Kind H1 x T := by
  cases q with
  | non => exact .non
  | bl b => exact .bl b
  | int i => exact .int i
  | str s => exact .str s
  | lst h => exact .lst (k _ _ h)
  | tup h => exact .tup (k _ _ h)
  | dK h => exact .dK (k _ _ h)
theorem atI_of {α : Type} {xs : List α} {x : α} {j : Int} {n : Nat} (e : j = n) (h : xs[n]? = some x) : atI xs j = some x := by rw [e]; exact atI_nat h
end
end Wp

/-! Worths and piles as data: (text, int), lists of such; what is kept of them. -/
namespace Wq
open PySem PySem.Spec PyProof.Rows L2 Wp
abbrev W := Str × Int
def wD (w : W) : PyData := .tuple [.str w.1, .int w.2]
def IsW (H : Hp) (v : V) (w : W) : Prop := ∃ t, v = .ref t ∧ H t = some (.tup [.str w.1, .int w.2])
def Pile (H : Hp) (vs : List V) (ws : List W) : Prop := Paired (IsW H) vs ws
/-- the tuples stay -/
def Tk (H H' : Hp) : Prop := ∀ t xs, H t = some (.tup xs) → H' t = some (.tup xs)
section
variable {H H1 H2 : Hp} {a b p : Addr} {v x y : V} {w : W} {vs us : List V} {ws zs : List W} {K : PySem.W.Frag}
theorem Tk.refl : Tk H H := fun _ _ h => h
theorem Tk.trans (h : Tk H H1) (k : Tk H1 H2) : Tk H H2 := fun t xs e => k t xs (h t xs e)
theorem Same.tk (s : Same H H1) : Tk H H1 := fun t xs e => s t _ e
theorem Kp.tk {bs : List V} (k : Kp b H H1) (h : H b = some (.lst bs)) : Tk H H1 := fun t xs e => k t _ (ne_of e h (by intro q; cases q)) e
theorem Tk.lst {o : HO} {bs : List V} (h : H b = some (.lst bs)) : Tk H (upd H b o) := fun t xs e => by rw [upd_ne (ne_of e h (by intro q; cases q))]; exact e
theorem Tk.dT {o : HO} {bs : List (List Key × V)} (h : H b = some (.dT bs)) : Tk H (upd H b o) := fun t xs e => by rw [upd_ne (ne_of e h (by intro q; cases q))]; exact e
theorem Tk.dK {o : HO} {bs : List (Key × V)} (h : H b = some (.dK bs)) : Tk H (upd H b o) := fun t xs e => by rw [upd_ne (ne_of e h (by intro q; cases q))]; exact e
theorem Tk.new {o : HO} (h : H p = none) : Tk H (upd H p o) := fun t xs e => by rw [upd_ne (ne_of_none e h)]; exact e
theorem IsW.keep (h : IsW H v w) (k : Tk H H1) : IsW H1 v w := by
  obtain ⟨t, e, h⟩ := h
  exact ⟨t, e, k _ _ h⟩
theorem Pile.keep (h : Pile H vs ws) (k : Tk H H1) : Pile H1 vs ws := Paired.mapP h fun _ _ q => q.keep k
theorem Pile.len (h : Pile H vs ws) : vs.length = ws.length := Paired.length h
theorem Pile.nil : Pile H [] [] := Paired.nil
theorem Pile.app (h : Pile H vs ws) (k : Pile H us zs) : Pile H (vs ++ us) (ws ++ zs) := by
  unfold Pile at *
  induction h with
  | nil => exact k
  | cons r t ih => exact .cons r ih
theorem Pile.one (h : IsW H v w) : Pile H [v] [w] := Paired.cons h Paired.nil
theorem Pile.take (h : Pile H vs ws) : ∀ n, Pile H (vs.take n) (ws.take n) := by
  unfold Pile at *
  induction h with
  | nil => intro n; cases n <;> exact .nil
  | cons r t ih => intro n; cases n with
    | zero => exact .nil
    | succ n => exact .cons r (ih n)
theorem Pile.drop (h : Pile H vs ws) : ∀ n, Pile H (vs.drop n) (ws.drop n) := by
  unfold Pile at *
  induction h with
  | nil => intro n; cases n <;> exact .nil
  | cons r t ih => intro n; cases n with
    | zero => exact .cons r t
    | succ n => exact ih n
theorem Pile.rev (h : Pile H vs ws) : Pile H vs.reverse ws.reverse := by
  unfold Pile at *
  induction h with
  | nil => exact .nil
  | cons r t ih =>
    rw [List.reverse_cons, List.reverse_cons]
    exact Pile.app ih (Pile.one r)
theorem Pile.get (h : Pile H vs ws) : ∀ {i : Nat}, vs[i]? = some v → ∃ w, ws[i]? = some w ∧ IsW H v w := by
  unfold Pile at h
  induction h with
  | nil => intro i e; cases i <;> cases e
  | cons r t ih => intro i e; cases i with
    | zero => cases e; exact ⟨_, rfl, r⟩
    | succ n => exact ih e
theorem Pile.at (h : Pile H vs ws) {i : Nat} (hi : i < ws.length) : ∃ v w, vs[i]? = some v ∧ ws[i]? = some w ∧ IsW H v w := by
  have h2 : i < vs.length := by rw [h.len]; exact hi
  obtain ⟨w, hw, q⟩ := h.get (List.getElem?_eq_getElem h2)
  exact ⟨_, w, List.getElem?_eq_getElem h2, hw, q⟩
/-! ### as data -/
theorem IsW.dp (h : IsW H v w) : Dp K H v (wD w) := by
  obtain ⟨t, rfl, h⟩ := h
  exact .tup (SqT.of h) (.cons (.str _) (.cons (.int _) .nil))
theorem Pile.dpAll (h : Pile H vs ws) : DpAll K H vs (ws.map wD) := by
  unfold Pile at h
  induction h with
  | nil => exact .nil
  | cons r t ih => exact .cons r.dp ih
theorem Pile.dp (h : Pile H vs ws) (e : SqL K H a vs) : Dp K H (.ref a) (.list (ws.map wD)) := .lst e h.dpAll
/-- texts as worths have them -/
def Wok (w : W) : Prop := PyData.strOk w.1 = true
theorem wD_lay (h : Wok w) : (wD w).canLay0 = true := by
  unfold wD
  simp only [PyData.canLay0, PyData.canLayAll0]
  rw [show PyData.strOk w.1 = true from h]
  rfl
theorem wD_depth : (wD w).depth = 1 := by simp [wD, PyData.depth, PyData.depthAll]
theorem wDs_lay : ∀ ws : List W, (∀ w ∈ ws, Wok w) → PyData.canLayAll0 (ws.map wD) = true
  | [], _ => by simp [PyData.canLayAll0]
  | w :: ws, h => by
    rw [List.map_cons]
    simp only [PyData.canLayAll0]
    rw [wD_lay (h w List.mem_cons_self), wDs_lay ws (fun x hx => h x (List.mem_cons_of_mem _ hx))] <;> rfl
theorem wDs_depth : ∀ ws : List W, PyData.depthAll (ws.map wD) ≤ 1
  | [] => by simp [PyData.depthAll]
  | w :: ws => by
    have h := wDs_depth ws
    rw [List.map_cons]
    simp only [PyData.depthAll]
    rw [wD_depth]
    omega
theorem wD_shaped (h : Wok w) : SeqAt.shaped (wD w) = true := by
  unfold SeqAt.shaped
  rw [wD_lay h, wD_depth] <;> rfl
theorem wDs_shaped (h : ∀ w ∈ ws, Wok w) : SeqAt.shaped (.list (ws.map wD)) = true := by
  have h2 := wDs_depth ws
  have h3 : (PyData.list (ws.map wD)).depth ≤ 64 := by
    simp only [PyData.depth]
    omega
  show (PyData.canLay0 (.list (ws.map wD)) && decide ((PyData.list (ws.map wD)).depth ≤ 64)) = true
  rw [decide_eq_true h3, Bool.and_true]
  simp only [PyData.canLay0]
  exact wDs_lay ws h
theorem wD_eqv (w z : W) : PyData.eqv (wD w) (wD z) = decide (w = z) := by
  unfold wD
  simp only [PyData.eqv, PyData.eqvAll, Bool.and_true]
  obtain ⟨s, n⟩ := w
  obtain ⟨t, m⟩ := z
  rw [Bool.beq_eq_decide_eq, Bool.beq_eq_decide_eq]
  by_cases e1 : s = t
  · by_cases e2 : n = m
    · subst e1 e2; simp
    · simp [e1, e2]
  · simp [e1]
theorem any_wD (w : W) : ∀ ws : List W, ((ws.map wD).any fun z => PyData.eqv z (wD w)) = decide (w ∈ ws)
  | [] => rfl
  | z :: ws => by
    rw [List.map_cons, List.any_cons, any_wD w ws, wD_eqv]
    by_cases e : z = w
    · subst e; simp
    · rw [decide_eq_false e, Bool.false_or]
      exact decide_eq_decide.mpr ⟨fun h => List.mem_cons_of_mem _ h, fun h => (List.mem_cons.mp h).elim (fun q => absurd q.symm e) id⟩
theorem eq_self {d : PyData} (h : SeqAt.shaped d = true) : PyData.eqv d d = true := by
  refine PySem.SeqAt.eqv_refl d ?_
  have h2 : (d.canLay0 && decide (d.depth ≤ 64)) = true := h
  rw [Bool.and_eq_true] at h2
  exact h2.1
end
end Wq

/-! Papers as data; what is kept of lists; xs[i] op= e. -/
namespace Wr
open PySem PySem.Spec PyProof.Rows L2 Wp Wq
section
variable {X : Cx}
/-- xs[i], read by values, 0 ≤ i -/
def gIx (K : PySem.W.Frag) : V → V → Hp → VK → Prop := fun x y H Q => ∃ p xs, ∃ i : Nat, ∃ v, x = .ref p ∧ y = .int i ∧ SqL K H p xs ∧ xs[i]? = some v ∧ Q v H
theorem get_list : PGet X (gIx X.K) := by
  intro pins s σ H x y v u Q I rx ry h
  obtain ⟨p, xs, i, z, rfl, rfl, hq, he, q⟩ := h
  cases rx
  obtain ⟨t, rfl⟩ := ry
  obtain ⟨its, r, pl, hz⟩ := I.list hq
  obtain ⟨w, ew, rw'⟩ := r.get he
  have hl := r.length
  have hn := line63
  have hi : i < xs.length := (List.getElem?_eq_some_iff.mp he).1
  exact wpAny_getItem_list pl.isList (by omega) (by omega) (by simpa using ew) ⟨z, H, I, rw', q⟩
end
section
variable {σ : L2.St} {H : Hp} {D : Ends} {to ti te : TE} {K : PySem.W.Frag}
theorem augS {tget : V → V → Hp → VK → Prop} {tip : TIp} {tset : TSet} (h : to σ H fun o H1 => ti σ H1 fun i H2 => tget o i H2 fun x H3 => te σ H3 fun y H4 => tip x y H4 fun z H5 => tset o i z H5 fun H6 => D.nx σ H6) : tAugS to ti te tget tip tset D σ H := h
theorem gix {p : Addr} {xs : List V} {i : Nat} {v : V} {Q : VK} (h : SqL K H p xs) (e : xs[i]? = some v) (q : Q v H) : gIx K (.ref p) (.int i) H Q := ⟨p, xs, i, v, rfl, rfl, h, e, q⟩
theorem ipi {f : Int → Int → Int} {a b : Int} {Q : VK} (q : Q (.int (f a b)) H) : ipI f (.int a) (.int b) H Q := ⟨a, b, rfl, rfl, q⟩
end
/-! ### what is kept -/
/-- all but the objects of S is kept, the tuples too -/
structure Ks (S : List Addr) (H H' : Hp) : Prop where
  keep : ∀ a o, a ∉ S → H a = some o → H' a = some o
  tk : Tk H H'
section
variable {S S' : List Addr} {H H1 H2 : Hp} {a b p : Addr} {v : V} {vs : List V} {ws : List W} {K : PySem.W.Frag}
theorem Ks.refl : Ks S H H := ⟨fun _ _ _ h => h, fun _ _ h => h⟩
theorem Ks.trans (x : Ks S H H1) (y : Ks S H1 H2) : Ks S H H2 := ⟨fun a o n h => y.keep a o n (x.keep a o n h), x.tk.trans y.tk⟩
theorem Ks.same (x : Same H H1) : Ks S H H1 := ⟨fun a o _ h => x a o h, Same.tk x⟩
theorem Ks.mono (x : Ks S H H1) (h : ∀ a ∈ S, a ∈ S') : Ks S' H H1 := ⟨fun a o n e => x.keep a o (fun q => n (h a q)) e, x.tk⟩
theorem Ks.kp {bs : List V} (k : Kp b H H1) (h : H b = some (.lst bs)) (m : b ∈ S) : Ks S H H1 := ⟨fun a o n e => k a o (fun q => n (q ▸ m)) e, Kp.tk k h⟩
theorem Ks.upd {bs : List V} {o : HO} (h : H b = some (.lst bs)) (m : b ∈ S) : Ks S H (upd H b o) := ⟨fun a u n e => by rw [upd_ne (fun q : a = b => n (by rw [q]; exact m))]; exact e, Tk.lst h⟩
theorem Ks.new {o : HO} (h : H p = none) : Ks S H (L2.upd H p o) := Ks.same (same_new h)
/-- what is new to H is not looked at -/
theorem Ks.toSame (x : Ks S H1 H2) (s : Same H H1) (n : ∀ a ∈ S, H a = none) : Same H H2 := fun a o e => x.keep a o (fun q => by rw [n a q] at e; cases e) (s a o e)
/-! ### a list of pieces -/
abbrev Pc := Int × List W
def IsPc (S : List Addr) (H : Hp) (v : V) (p : Pc) : Prop := ∃ t l vs, v = .ref t ∧ H t = some (.tup [.int p.1, .ref l]) ∧ H l = some (.lst vs) ∧ Pile H vs p.2 ∧ l ∉ S
def Pieces (S : List Addr) (H : Hp) (xs : List V) (R : List Pc) : Prop := Paired (IsPc S H) xs R
theorem IsPc.keep {p : Pc} (h : IsPc S H v p) (k : Ks S H H1) : IsPc S H1 v p := by
  obtain ⟨t, l, vs, e, h1, h2, h3, h4⟩ := h
  exact ⟨t, l, vs, e, k.tk _ _ h1, k.keep _ _ h4 h2, h3.keep k.tk, h4⟩
theorem IsPc.less {p : Pc} (h : IsPc S H v p) (k : ∀ a ∈ S', a ∈ S) : IsPc S' H v p := by
  obtain ⟨t, l, vs, e, h1, h2, h3, h4⟩ := h
  exact ⟨t, l, vs, e, h1, h2, h3, fun q => h4 (k _ q)⟩
theorem Pieces.keep {xs : List V} {R : List Pc} (h : Pieces S H xs R) (k : Ks S H H1) : Pieces S H1 xs R := Paired.mapP h fun _ _ q => q.keep k
theorem Pieces.less {xs : List V} {R : List Pc} (h : Pieces S H xs R) (k : ∀ a ∈ S', a ∈ S) : Pieces S' H xs R := Paired.mapP h fun _ _ q => q.less k
theorem Pieces.len {xs : List V} {R : List Pc} (h : Pieces S H xs R) : xs.length = R.length := Paired.length h
theorem Pieces.nil : Pieces S H [] [] := Paired.nil
theorem pair_app {α β : Type} {F : α → β → Prop} : ∀ {l₁ m₁ : List α} {l₂ m₂ : List β}, Paired F l₁ l₂ → Paired F m₁ m₂ → Paired F (l₁ ++ m₁) (l₂ ++ m₂)
  | _, _, _, _, .nil, k => k
  | _, _, _, _, .cons r t, k => .cons r (pair_app t k)
theorem pair_at {α β : Type} {F : α → β → Prop} : ∀ {l₁ : List α} {l₂ : List β}, Paired F l₁ l₂ → ∀ {i : Nat} {y : β}, l₂[i]? = some y → ∃ x, l₁[i]? = some x ∧ F x y
  | _, _, .nil, i, y, e => by cases i <;> cases e
  | _, _, .cons r t, 0, y, e => by cases e; exact ⟨_, rfl, r⟩
  | _, _, .cons r t, i + 1, y, e => pair_at t (i := i) e
theorem pair_at1 {α β : Type} {F : α → β → Prop} : ∀ {l₁ : List α} {l₂ : List β}, Paired F l₁ l₂ → ∀ {i : Nat} {x : α}, l₁[i]? = some x → ∃ y, l₂[i]? = some y ∧ F x y
  | _, _, .nil, i, y, e => by cases i <;> cases e
  | _, _, .cons r t, 0, y, e => by cases e; exact ⟨_, rfl, r⟩
  | _, _, .cons r t, i + 1, y, e => pair_at1 t (i := i) e
/-! ### lists of piles -/
def IsLs (S : List Addr) (H : Hp) (v : V) (ws : List W) : Prop := ∃ l vs, v = .ref l ∧ H l = some (.lst vs) ∧ Pile H vs ws ∧ l ∉ S
def Lists (S : List Addr) (H : Hp) (ys : List V) (Ps : List (List W)) : Prop := Paired (IsLs S H) ys Ps
theorem IsLs.keep {ws : List W} (h : IsLs S H v ws) (k : Ks S H H1) : IsLs S H1 v ws := by
  obtain ⟨l, vs, e, h2, h3, h4⟩ := h
  exact ⟨l, vs, e, k.keep _ _ h4 h2, h3.keep k.tk, h4⟩
theorem IsLs.less {ws : List W} (h : IsLs S H v ws) (k : ∀ a ∈ S', a ∈ S) : IsLs S' H v ws := by
  obtain ⟨l, vs, e, h2, h3, h4⟩ := h
  exact ⟨l, vs, e, h2, h3, fun q => h4 (k _ q)⟩
theorem Lists.keep {ys : List V} {Ps : List (List W)} (h : Lists S H ys Ps) (k : Ks S H H1) : Lists S H1 ys Ps := Paired.mapP h fun _ _ q => q.keep k
theorem Lists.less {ys : List V} {Ps : List (List W)} (h : Lists S H ys Ps) (k : ∀ a ∈ S', a ∈ S) : Lists S' H ys Ps := Paired.mapP h fun _ _ q => q.less k
theorem Lists.len {ys : List V} {Ps : List (List W)} (h : Lists S H ys Ps) : ys.length = Ps.length := Paired.length h
/-! ### what a raw paper is, and its piles -/
def RawOk (size : Int) (R : List Pc) : Prop := ∀ (k : Nat) (p : Pc), R[k]? = some p → -1 ≤ p.1 ∧ p.1 < k ∧ 1 ≤ p.2.length ∧ (p.2.length : Int) ≤ size ∧ ∀ z ∈ p.2, Wok z
def belowM (Ps : List (List W)) (u : Int) : List W := if 0 ≤ u then Ps.getD u.toNat [] else []
def PilesOk (R : List Pc) (Ps : List (List W)) : Prop := Ps.length = R.length ∧ ∀ (k : Nat) (p : Pc), R[k]? = some p → Ps[k]? = some (belowM Ps p.1 ++ p.2)
theorem RawOk.nil {size : Int} : RawOk size [] := fun k p e => by cases k <;> cases e
theorem PilesOk.nil : PilesOk [] [] := ⟨rfl, fun k p e => by cases k <;> cases e⟩
theorem get_app1 {α : Type} {l : List α} {x y : α} {k : Nat} (h : (l ++ [x])[k]? = some y) : l[k]? = some y ∨ (k = l.length ∧ y = x) := by
  by_cases c : k < l.length
  · rw [List.getElem?_append_left c] at h; exact .inl h
  · rw [List.getElem?_append_right (by omega)] at h
    have e : k - l.length = 0 := by
      by_cases q : k - l.length = 0
      · exact q
      · obtain ⟨m, hm⟩ : ∃ m, k - l.length = m + 1 := ⟨k - l.length - 1, by omega⟩
        rw [hm] at h; simp at h
    rw [e] at h
    exact .inr ⟨by omega, (Option.some.inj h).symm⟩
theorem RawOk.app {size : Int} {R : List Pc} {p : Pc} (h : RawOk size R) (h1 : -1 ≤ p.1) (h2 : p.1 < R.length) (h3 : 1 ≤ p.2.length) (h4 : (p.2.length : Int) ≤ size) (h5 : ∀ z ∈ p.2, Wok z) : RawOk size (R ++ [p]) := fun k q e => by
  rcases get_app1 e with e | ⟨rfl, rfl⟩
  · exact h k q e
  · exact ⟨h1, h2, h3, h4, h5⟩
theorem below_app {Ps : List (List W)} {x : List W} {u : Int} (h : u < Ps.length) : belowM (Ps ++ [x]) u = belowM Ps u := by
  unfold belowM
  split
  · rw [List.getD_eq_getElem?_getD, List.getD_eq_getElem?_getD, List.getElem?_append_left (by omega)]
  · rfl
theorem PilesOk.app {size : Int} {R : List Pc} {Ps : List (List W)} {p : Pc} (h : PilesOk R Ps) (ok : RawOk size R) (h2 : p.1 < R.length) : PilesOk (R ++ [p]) (Ps ++ [belowM Ps p.1 ++ p.2]) := by
  refine ⟨by rw [List.length_append, List.length_append, h.1] <;> rfl, fun k q e => ?_⟩
  have hl := h.1
  rcases get_app1 e with e | ⟨rfl, rfl⟩
  · have hk : k < R.length := (List.getElem?_eq_some_iff.mp e).1
    have := (ok k q e).2.1
    rw [below_app (by omega), List.getElem?_append_left (by omega)]
    exact h.2 k q e
  · rw [below_app (by omega), ← hl, List.getElem?_append_right (Nat.le_refl _), Nat.sub_self] <;> rfl
/-! ### a paper -/
abbrev Pap := List Pc × List Int
def IsPap (S : List Addr) (H : Hp) (v : V) (P : Pap) : Prop := ∃ t p q xs, v = .ref t ∧ H t = some (.tup [.ref p, .ref q]) ∧ H p = some (.lst xs) ∧ Pieces S H xs P.1 ∧ H q = some (.lst (P.2.map V.int)) ∧ p ∉ S ∧ q ∉ S
theorem IsPap.keep {P : Pap} (h : IsPap S H v P) (k : Ks S H H1) : IsPap S H1 v P := by
  obtain ⟨t, p, q, xs, e, h1, h2, h3, h4, h5, h6⟩ := h
  exact ⟨t, p, q, xs, e, k.tk _ _ h1, k.keep _ _ h5 h2, h3.keep k, k.keep _ _ h6 h4, h5, h6⟩
def pD (p : Pc) : PyData := .tuple [.int p.1, .list (p.2.map wD)]
def papD (P : Pap) : PyData := .tuple [.list (P.1.map pD), .list (P.2.map PyData.int)]
theorem IsPc.dp {p : Pc} (h : IsPc S H v p) : Dp K H v (pD p) := by
  obtain ⟨t, l, vs, rfl, h1, h2, h3, h4⟩ := h
  exact .tup (SqT.of h1) (.cons (.int _) (.cons (h3.dp (SqL.of h2)) .nil))
theorem Pieces.dpAll {xs : List V} {R : List Pc} (h : Pieces S H xs R) : DpAll K H xs (R.map pD) := by
  unfold Pieces at h
  induction h with
  | nil => exact .nil
  | cons r t ih => exact .cons r.dp ih
theorem ints_dp : ∀ ns : List Int, DpAll K H (ns.map V.int) (ns.map PyData.int)
  | [] => .nil
  | _ :: ns => .cons (.int _) (ints_dp ns)
theorem IsPap.dp {P : Pap} (h : IsPap S H v P) : Dp K H v (papD P) := by
  obtain ⟨t, p, q, xs, rfl, h1, h2, h3, h4, h5, h6⟩ := h
  exact .tup (SqT.of h1) (.cons (.lst (SqL.of h2) h3.dpAll) (.cons (.lst (SqL.of h4) (ints_dp _)) .nil))
theorem pD_lay {p : Pc} (h : ∀ w ∈ p.2, Wok w) : (pD p).canLay0 = true := by
  unfold pD
  simp only [PyData.canLay0, PyData.canLayAll0]
  rw [wDs_lay p.2 h] <;> rfl
theorem pDs_lay : ∀ R : List Pc, (∀ p ∈ R, ∀ w ∈ p.2, Wok w) → PyData.canLayAll0 (R.map pD) = true
  | [], _ => by simp [PyData.canLayAll0]
  | p :: R, h => by
    rw [List.map_cons]
    simp only [PyData.canLayAll0]
    rw [pD_lay (h p List.mem_cons_self), pDs_lay R (fun x hx => h x (List.mem_cons_of_mem _ hx))] <;> rfl
theorem ints_lay : ∀ ns : List Int, PyData.canLayAll0 (ns.map PyData.int) = true
  | [] => by simp [PyData.canLayAll0]
  | n :: ns => by
    rw [List.map_cons]
    simp only [PyData.canLayAll0, PyData.canLay0]
    rw [ints_lay ns] <;> rfl
theorem ints_depth : ∀ ns : List Int, PyData.depthAll (ns.map PyData.int) = 0
  | [] => by simp [PyData.depthAll]
  | n :: ns => by
    rw [List.map_cons]
    simp only [PyData.depthAll, PyData.depth]
    rw [ints_depth ns] <;> rfl
theorem pDs_depth : ∀ R : List Pc, PyData.depthAll (R.map pD) ≤ 3
  | [] => by simp [PyData.depthAll]
  | p :: R => by
    have h := pDs_depth R
    have h2 := wDs_depth p.2
    rw [List.map_cons]
    unfold pD at h ⊢
    simp only [PyData.depthAll, PyData.depth]
    omega
theorem papD_shaped {P : Pap} (h : ∀ p ∈ P.1, ∀ w ∈ p.2, Wok w) : SeqAt.shaped (papD P) = true := by
  have h1 := pDs_depth P.1
  have h2 := ints_depth P.2
  have h3 : (papD P).depth ≤ 64 := by
    unfold papD
    simp only [PyData.depth, PyData.depthAll]
    omega
  show (PyData.canLay0 (papD P) && decide ((papD P).depth ≤ 64)) = true
  rw [decide_eq_true h3, Bool.and_true]
  unfold papD
  simp only [PyData.canLay0, PyData.canLayAll0]
  rw [pDs_lay P.1 h, ints_lay] <;> rfl
theorem ints_shaped (ns : List Int) : SeqAt.shaped (.list (ns.map PyData.int)) = true := by
  have h2 := ints_depth ns
  have h3 : (PyData.list (ns.map PyData.int)).depth ≤ 64 := by
    simp only [PyData.depth]
    omega
  show (PyData.canLay0 (.list (ns.map PyData.int)) && decide ((PyData.list (ns.map PyData.int)).depth ≤ 64)) = true
  rw [decide_eq_true h3, Bool.and_true]
  simp only [PyData.canLay0]
  exact ints_lay ns
end
end Wr

/-! Dicts whose keys are pairs of a whole number and a worth. -/
namespace Wd
open PySem PySem.Spec PyProof.Rows L2 Wp Wq
abbrev KW := Int × W
abbrev NE := KW × Addr × V
def kN (k : KW) : NestedKey := .tup [.num k.1, .tup [.text k.2.1, .num k.2.2]]
theorem kN_inj {a b : KW} (h : kN a = kN b) : a = b := by
  obtain ⟨i, s, n⟩ := a
  obtain ⟨j, t, m⟩ := b
  unfold kN at h
  simp at h
  obtain ⟨h1, h2, h3⟩ := h
  rw [h1, h2, h3]
abbrev NX := NestedKey × Addr × Value
def NR (es : List NE) (xs : List NX) : Prop := Paired (fun (p : NE) (q : NX) => kN p.1 = q.1 ∧ p.2.1 = q.2.1 ∧ RelV p.2.2 q.2.2) es xs
def NRaw (P : Program) (w : World) (a : Addr) (xs : List NX) (h : Heap) : Prop :=
  ∃ o ess ep, h.get? a = some o ∧ o.ExactDict ∧ o.data = .dict ess ep ∧ ess.toList = xs.map (entryOfKey (nestedKind P w)) ∧ (xs.map (·.1)).Nodup
def NO (P : Program) (w : World) (a : Addr) (es : List NE) : HO :=
  .ext fun h => es.length ≤ sizeLine ∧ (a == sysModules) = false ∧ ∃ xs, NR es xs ∧ NRaw P w a xs h
/-- the pair at b is the key k -/
def IsKN (H : Hp) (b : Addr) (k : KW) : Prop := ∃ t, H b = some (.tup [.int k.1, .ref t]) ∧ H t = some (.tup [.str k.2.1, .int k.2.2])
theorem IsKN.keep {H H' : Hp} {b : Addr} {k : KW} (h : IsKN H b k) (s : Tk H H') : IsKN H' b k := by
  obtain ⟨t, h1, h2⟩ := h
  exact ⟨t, s _ _ h1, s _ _ h2⟩
/-- at d stands a dict of these keys and values, in their order -/
def NDict (P : Program) (w : World) (H : Hp) (d : Addr) (kvs : List (KW × V)) : Prop :=
  ∃ es : List NE, H d = some (NO P w d es) ∧ (∀ e ∈ es, IsKN H e.2.1 e.1) ∧ es.map (fun e => (e.1, e.2.2)) = kvs
theorem NDict.keep {P : Program} {w : World} {H H' : Hp} {d : Addr} {kvs : List (KW × V)} (h : NDict P w H d kvs) (k : H' d = H d) (s : Tk H H') : NDict P w H' d kvs := by
  obtain ⟨es, h1, h2, h3⟩ := h
  exact ⟨es, k.trans h1, fun e he => (h2 e he).keep s, h3⟩
theorem NDict.same {P : Program} {w : World} {H H' : Hp} {d : Addr} {kvs : List (KW × V)} (h : NDict P w H d kvs) (s : Same H H') : NDict P w H' d kvs := by
  have ⟨es, h1, h2, h3⟩ := h
  exact h.keep ((s _ _ h1).trans h1.symm) (Same.tk s)
theorem NDict.kp {P : Program} {w : World} {H H' : Hp} {d b : Addr} {bs : List V} {kvs : List (KW × V)} (h : NDict P w H d kvs) (hb : H b = some (.lst bs)) (s : Kp b H H') : NDict P w H' d kvs := by
  have ⟨es, h1, h2, h3⟩ := h
  exact h.keep ((s _ _ (ne_of h1 hb (by intro q; cases q)) h1).trans h1.symm) (Kp.tk s hb)
theorem NDict.isSome {P : Program} {w : World} {H : Hp} {d : Addr} {kvs : List (KW × V)} (h : NDict P w H d kvs) : ∃ o, H d = some o := by
  obtain ⟨es, h1, _⟩ := h
  exact ⟨_, h1⟩
theorem NDict.ne_lst {P : Program} {w : World} {H : Hp} {d a : Addr} {bs : List V} {kvs : List (KW × V)} (h : NDict P w H d kvs) (ha : H a = some (.lst bs)) : d ≠ a := by
  obtain ⟨es, h1, _⟩ := h
  exact ne_of h1 ha (by intro q; cases q)
section
variable {X : Cx} {pins : List (Addr × Obj)} {σ : L2.St} {H : Hp} {s : Shared} {d b : Addr} {k : KW} {es : List NE} {xs : List NX}
theorem key_is (I : Inv X pins σ H s) (h : IsKN H b k) : (nestedKind X.prog X.w).is s.heap (kN k) b := by
  obtain ⟨t, hb, ht⟩ := h
  obtain ⟨_, its, rv, o1, g1, c1, n1, d1⟩ := (show ObjOk X.prog X.w H s.heap b (.tup [.int k.1, .ref t]) from I.hok b _ hb)
  obtain ⟨_, jts, rw', o2, g2, c2, n2, d2⟩ := (show ObjOk X.prog X.w H s.heap t (.tup [.str k.2.1, .int k.2.2]) from I.hok t _ ht)
  cases rv with
  | cons r1 r2 =>
    cases r2 with
    | cons r3 r4 =>
      cases r4
      cases rw' with
      | cons q1 q2 =>
        cases q2 with
        | cons q3 q4 =>
          cases q4
          obtain ⟨t1, rfl⟩ := r1
          cases r3
          obtain ⟨t2, rfl⟩ := q1
          obtain ⟨t3, rfl⟩ := q3
          exact ⟨.tup g1 c1 d1 (.cons (.int _ _) (.cons (.tup g2 c2 d2 (.cons (.text _ _) (.cons (.int _ _) .nil))) .nil)), by simp [kN, NestedKey.depth, NestedKey.depthAll]⟩
theorem no_get (I : Inv X pins σ H s) (h : H d = some (NO X.prog X.w d es)) : es.length ≤ sizeLine ∧ (d == sysModules) = false ∧ ∃ xs, NR es xs ∧ NRaw X.prog X.w d xs s.heap := (I.hok d _ h).1
theorem no_new {P : Program} {w : World} {h : Heap} (z : es.length ≤ sizeLine) (hd : (d == sysModules) = false) (r : NR es xs) (q : NRaw P w d xs h) : ObjOk P w H h d (NO P w d es) := by
  have ⟨o, ess, ep, ho, rest⟩ := q
  refine ⟨⟨z, hd, xs, r, q⟩, ⟨o, ho⟩, fun h1 h2 p k => ?_⟩
  obtain ⟨z, hd, xs, r, o, ess, ep, ho, rest⟩ := p
  exact ⟨z, hd, xs, r, o, ess, ep, k o ho, rest⟩
theorem pgetR {α β : Type} {R : α → β → Prop} : ∀ {l1 : List α} {l2 : List β}, Paired R l1 l2 → ∀ {i : Nat} {y : β}, l2[i]? = some y → ∃ x, l1[i]? = some x ∧ R x y
  | _, _, .nil, i, y, h => by cases i <;> cases h
  | _, _, .cons r t, 0, y, h => by cases h; exact ⟨_, rfl, r⟩
  | _, _, .cons r t, i + 1, y, h => pgetR t h
theorem pgetL {α β : Type} {R : α → β → Prop} : ∀ {l1 : List α} {l2 : List β}, Paired R l1 l2 → ∀ {i : Nat} {x : α}, l1[i]? = some x → ∃ y, l2[i]? = some y ∧ R x y
  | _, _, .nil, i, y, h => by cases i <;> cases h
  | _, _, .cons r t, 0, y, h => by cases h; exact ⟨_, rfl, r⟩
  | _, _, .cons r t, i + 1, y, h => pgetL t h
theorem papp {α β : Type} {R : α → β → Prop} : ∀ {l1 m1 : List α} {l2 m2 : List β}, Paired R l1 l2 → Paired R m1 m2 → Paired R (l1 ++ m1) (l2 ++ m2)
  | _, _, _, _, .nil, k => k
  | _, _, _, _, .cons r t, k => .cons r (papp t k)
theorem no_dict (I : Inv X pins σ H s) (h : H d = some (NO X.prog X.w d es)) (hk : ∀ e ∈ es, IsKN H e.2.1 e.1) : ∃ xs, NR es xs ∧ s.heap.DictOfH (nestedKind X.prog X.w) d xs := by
  obtain ⟨z, hd, xs, r, o, ess, ep, ho, hx, hdat, he, hn⟩ := no_get I h
  refine ⟨xs, r, o, ess, ep, ho, hx, hdat, he, fun x hx => ?_, hn⟩
  obtain ⟨i, hi⟩ := List.mem_iff_getElem?.mp hx
  obtain ⟨e, he, r1, r2, r3⟩ := pgetR r hi
  rw [← r1, ← r2]
  exact key_is I (hk e (List.mem_of_getElem? he))
theorem NR.val (r : NR es xs) (k : KW) : RelO (valV (es.map fun e => (e.1, e.2.2)) k) ((atKey xs (kN k)).map (·.2)) := by
  unfold NR at r
  induction r with
  | nil => trivial
  | @cons p q l1 l2 h t ih =>
    obtain ⟨h1, h2, h3⟩ := h
    rw [List.map_cons]
    by_cases e : p.1 = k
    · have e2 : q.1 = kN k := by rw [← h1, e]
      rw [valV_pos e]
      unfold atKey
      rw [List.find?_cons, decide_eq_true e2]
      exact h3
    · have e2 : ¬ q.1 = kN k := fun c => e (kN_inj (h1.trans c))
      rw [valV_neg e]
      unfold atKey at ih ⊢
      rw [List.find?_cons, decide_eq_false e2]
      exact ih
theorem NR.len (r : NR es xs) : es.length = xs.length := Paired.length r
end
/-! ### a new one -/
section
variable {X : Cx} {P : Program} {w : World} {σ : L2.St} {H : Hp} {Q : VK} {te ta tb to : TE}
theorem no_empty {H : Hp} (h : Heap) (hb : sysModules < h.objs.size) : ObjOk P w H (h.push { cls := .type "dict", data := .dict #[] }) h.objs.size (NO P w h.objs.size []) := by
  obtain ⟨o, es, ep, ho, hx, hdat, he, _, hn⟩ := Heap.DictOfH.new (knd := nestedKind P w) h
  exact no_new (xs := []) (Nat.zero_le _) (by rw [beq_eq_false_iff_ne]; exact Nat.ne_of_gt hb) .nil ⟨o, es, ep, ho, hx, hdat, he, hn⟩
def tNew (P : Program) (w : World) : TE := fun _ H Q => ∀ p, H p = none → Q (.ref p) (upd H p (NO P w p []))
theorem pe_new {pos : Pos} : PE X (.Dict [] [] pos) (tNew X.prog X.w) := ⟨fun pins s σ H Q I h =>
  wpAny_Dict_empty ⟨.ref s.heap.objs.size, _, I.laid (a := s.heap.objs.size) (o := NO X.prog X.w s.heap.objs.size []) (t' := s.toks) (fun _ _ q => Heap.get?_push_of_some _ q) (Nat.le_refl _) (no_empty s.heap I.big), rfl, h _ (I.hok.fresh (Nat.le_refl _))⟩⟩
theorem ndict_new {H : Hp} {p : Addr} : NDict P w (upd H p (NO P w p [])) p [] := ⟨[], upd_same, (fun _ h => nomatch h), rfl⟩
/-! ### d.setdefault((i, worth), v) -/
def rSetD (P : Program) (w : World) : V → List V → Hp → VK → Prop := fun x xs H Q => ∃ (d b : Addr) (k : KW) (v : V) (kvs : List (KW × V)), x = .ref d ∧ xs = [.ref b, v] ∧ NDict P w H d kvs ∧ IsKN H b k ∧ kvs.length < sizeLine ∧
  (∀ u, valV kvs k = some u → Q u H) ∧ (valV kvs k = none → ∀ H', NDict P w H' d (kvs ++ [(k, v)]) → Kp d H H' → Q v H')
theorem mt_setD (hu : X.A.units + 64 < cLine) : MtR X "dict.setdefault" (rSetD X.prog X.w) := by
  intro pins s σ H x xs v us Q I rx rxs h
  obtain ⟨d, b, k, v0, kvs, rfl, rfl, ⟨es, hd, hk, rfl⟩, hb, room, q1, q2⟩ := h
  cases rx
  cases rxs with
  | cons r1 r2 =>
    cases r2 with
    | cons r3 r4 =>
      cases r4
      cases r1
      rename_i v1
      obtain ⟨z, hsys, _⟩ := no_get I hd
      obtain ⟨xs, r, hm⟩ := no_dict I hd hk
      have hv := NR.val r k
      refine call_setdefault_heap (knd := nestedKind X.prog X.w) (k := kN k) (hu := by show X.A.units + 1 + 8 < cLine; omega) (hkey := key_is I hb) (hd := hsys) (hm := hm) (hsz := by rw [← NR.len r]; exact z) (fun p hp => ?_) (fun hn h' hm' hs => ?_)
      · rw [hp] at hv
        cases e : valV (es.map fun e => (e.1, e.2.2)) k with
        | none => rw [e] at hv; exact hv.elim
        | some u =>
          rw [e] at hv
          exact ⟨u, H, I.tok _, hv, q1 u e⟩
      · rw [hn] at hv
        cases e : valV (es.map fun e => (e.1, e.2.2)) k with
        | some u => rw [e] at hv; exact hv.elim
        | none =>
          rw [storedH_new hn] at hm'
          obtain ⟨o, ess, ep, ho, hx, hdat, he, _, hnd⟩ := hm'
          rw [List.length_map] at room
          have rn : NR (es ++ [(k, b, v0)]) (xs ++ [(kN k, b, v1)]) := papp r (.cons ⟨rfl, rfl, r3⟩ .nil)
          have new : ∀ HH, ObjOk X.prog X.w HH h' d (NO X.prog X.w d (es ++ [(k, b, v0)])) := fun HH => no_new (by rw [List.length_append]; exact room) hsys rn ⟨o, ess, ep, ho, hx, hdat, he, hnd⟩
          refine ⟨v0, upd H d (NO X.prog X.w d (es ++ [(k, b, v0)])), d_write I (by rw [hd]; trivial) hs ⟨o, ho⟩ (new _), r3, q2 e _ ⟨_, upd_same, ?_, ?_⟩ Kp.at⟩
          · intro e he
            have tk : Tk H (upd H d (NO X.prog X.w d (es ++ [(k, b, v0)]))) := fun t xs e => by rw [upd_ne (ne_of e hd (by intro q; cases q))]; exact e
            rcases List.mem_append.mp he with he | he
            · exact (hk e he).keep tk
            · rw [List.mem_singleton.mp he]; exact hb.keep tk
          · rw [List.map_append] <;> rfl
def tNM (P : Program) (w : World) (r : V → List V → Hp → VK → Prop) (to : TE) (t : TA) : TE := fun σ H Q => to σ H fun x H1 => (∃ a kvs, x = V.ref a ∧ NDict P w H1 a kvs) ∧ t σ H1 fun xs H2 => r x xs H2 Q
variable {o e : Expr} {es : List Expr} {t : TA} {apos cpos : Pos}
theorem nd_typeIs {pins : List (Addr × Obj)} {H : Hp} {s : Shared} {d : Addr} {kvs : List (KW × V)} (I : Inv X pins σ H s) (g : NDict X.prog X.w H d kvs) : s.TypeIs (.ref d) "dict" := by
  obtain ⟨es, hd, hk, _⟩ := g
  obtain ⟨xs, r, hm⟩ := no_dict I hd hk
  exact hm.typeIs
theorem nd_noDict {pins : List (Addr × Obj)} {H : Hp} {s : Shared} {d : Addr} {kvs : List (KW × V)} (I : Inv X pins σ H s) (g : NDict X.prog X.w H d kvs) :
    ∀ b, Value.ref d = .ref b → ∃ ob, s.heap.get? b = some ob ∧ ob.dict = none := fun b q => by
  cases q
  obtain ⟨es, hd, hk, _⟩ := g
  obtain ⟨xs, r, ob, _, _, h1, h2, _⟩ := no_dict I hd hk
  exact ⟨ob, h1, h2.2.1⟩
theorem pe_setD (hu : X.A.units + 64 < cLine) (ho : PE X o to) (ha : PA X (e :: es) t)
    (hbase : attributeBase o "setdefault" X.env (eval o X.env) = eval o X.env := by rfl)
    (hfew : ((backTo cpos (starEach (e :: es) X.env)).all (fun x => !x.1) && (backToKw cpos (keywordEach [] X.env)).all (fun x => x.1.isSome)
      && decide ((e :: es).length + ([] : List Keyword).length + (if ([] : List Keyword).isEmpty then 0 else 1) < 30)) = true := by rfl)
    (hline : (apos.endLine == cpos.line) = true := by rfl) (hs : starEach (e :: es) X.env = (false, eval e X.env) :: starEach es X.env := by rfl) (hplain : (backTo cpos (starEach es X.env)).any (·.1) = false := by rfl) :
    PE X (.Call (.Attribute o "setdefault" apos) (e :: es) [] cpos) (tNM X.prog X.w (rSetD X.prog X.w) to t) := by
  refine ⟨fun pins s σ H Q I h => ?_⟩
  refine wpAny_Call_method_late hbase hfew hline rfl (thn (ho.run pins s σ H _ I h) fun v s1 ⟨x, H1, I1, r1, ty, q1⟩ => ?_)
  obtain ⟨a, kvs, rfl, hka⟩ := ty
  cases r1
  refine ⟨"dict", "dict.setdefault", F.plainAttrs_dict, F.slot_dict_setdefault, F.type_dict_setdefault, nd_typeIs I1 hka, nd_noDict I1 hka, ?_⟩
  have hA := ha.run cpos pins s1 σ H1 _ I1 q1
  rw [hs] at hA ⊢
  refine Calls.callWith_builtin (by show (false || (backTo cpos (starEach es X.env)).any (·.1)) = false; rw [hplain] <;> rfl) (Calls.evalArgs_plain ?_)
  exact thn hA fun us s2 ⟨vs, H2, I2, r2, q2⟩ => mt_setD hu pins s2 σ H2 (.ref a) vs (.ref a) us Q I2 rfl r2 q2
/-! ### d[(i, worth)], len(d), k in d -/
def rIxN (P : Program) (w : World) : R2 := fun x y H Q => ∃ (d b : Addr) (k : KW) (kvs : List (KW × V)) (u : V), x = .ref d ∧ y = .ref b ∧ NDict P w H d kvs ∧ IsKN H b k ∧ valV kvs k = some u ∧ Q u H
def tNGet (P : Program) (w : World) (td ty : TE) : TE := fun σ H Q => td σ H fun x H1 => ty σ H1 fun y H2 => rIxN P w x y H2 Q
theorem call_lenN : CallR X (.builtin "len") (fun xs H Q => ∃ a kvs, xs = [V.ref a] ∧ NDict X.prog X.w H a kvs ∧ Q (.int kvs.length) H) := by
  intro pins s σ H xs us Q I r h
  obtain ⟨a, kvs, rfl, ha, q⟩ := h
  obtain ⟨u, rfl, ru⟩ := vals1 r
  cases ru
  have hT := nd_typeIs I ha
  obtain ⟨es, hd, hk, rfl⟩ := ha
  obtain ⟨z, hsys, _⟩ := no_get I hd
  obtain ⟨xs, r, hm⟩ := no_dict I hd hk
  have el := NR.len r
  refine call_len_slot (n := xs.length) hT F.slot_dict_len (fun Q' hq => len_keyed (kvs := pairsH xs) hsys ⟨xs, hm, rfl⟩ (by rw [pairsH_length]; exact hq)) (by omega) (by rw [sizeLine_eq] at z; omega) ?_
  rw [← el, List.length_map] at *
  exact ⟨.int es.length, H, (I.tok _).tok _, ⟨_, rfl⟩, q⟩
variable {i : Expr} {td ty : TE} {pos : Pos}
theorem pe_nget (hu : X.A.units + 64 < cLine) (ho : PE X o td) (hi : PE X i ty) (hs : NoSl i) : PE X (.Subscript o i pos) (tNGet X.prog X.w td ty) := by
  refine ⟨fun pins s σ H Q I h => ?_⟩
  refine subD_of PySem.F.slot_dict_getitem.lookup hs (thn (ho.run pins s σ H _ I h) fun u s1 ⟨x, H1, I1, rx, q1⟩ => thn (hi.run pins s1 σ H1 _ I1 q1) fun iv s2 ⟨y, H2, I2, ry, d, b, k, kvs, v, ex, ey, g, hb, hv, q2⟩ => ?_)
  subst ex ey
  obtain rfl : u = Value.ref d := rx
  obtain rfl : iv = Value.ref b := ry
  refine ⟨nd_typeIs I2 g, ?_⟩
  obtain ⟨es, hd, hk, rfl⟩ := g
  obtain ⟨xs, r, hm⟩ := no_dict I2 hd hk
  have hr := NR.val r k
  rw [hv] at hr
  cases e : atKey xs (kN k) with
  | none => rw [e] at hr; exact hr.elim
  | some p =>
    rw [e] at hr
    refine wpAny_getItem_heap (knd := nestedKind X.prog X.w) (hu := by show X.A.units + 1 + 8 < cLine; omega) (hkey := key_is I2 hb) (hm := hm) (hp := e) ?_
    exact ⟨v, H2, I2.tok _, hr, q2⟩
/-! ### for pair in d: the dict is locked -/
def NDictF (P : Program) (w : World) (H : Hp) (d : Addr) (o : Obj) (es : List NE) : Prop := H d = some (.frz o (NO P w d es))
def Itn (P : Program) (w : World) (d : Addr) (o : Obj) (es : List NE) : It :=
  ⟨fun i H => NDictF P w H d o es ∧ i < es.length, fun i H x H' => H' = H ∧ ∃ e, es[i]? = some e ∧ x = .ref e.2.1, fun i H => NDictF P w H d o es ∧ es.length ≤ i⟩
theorem frzN {pins : List (Addr × Obj)} {H : Hp} {s : Shared} {d : Addr} {o : Obj} {es : List NE} (I : Inv X pins σ H s) (h : NDictF X.prog X.w H d o es) :
    (d == sysModules) = false ∧ s.heap.get? d = some o ∧ o.ExactDict ∧ ∃ (ess : Array DictEntry) (ep : Nat), o.data = .dict ess ep ∧ ess.size = es.length ∧
      ∀ (i : Nat) (e : NE), es[i]? = some e → ∃ (en : DictEntry), ess[i]? = some en ∧ en.key = .ref e.2.1 := by
  obtain ⟨hg, z⟩ := I.hok d _ h
  obtain ⟨z, hsys, xs, r, o', ess, ep, ho, hx, hdt, he, hn⟩ := (show ObjOk X.prog X.w H s.heap d (NO X.prog X.w d es) from z).1
  rw [hg] at ho
  cases ho
  refine ⟨hsys, hg, hx, ess, ep, hdt, ?_, fun i e hi => ?_⟩
  · have l1 : ess.size = xs.length := size_of_entries he
    have l2 := NR.len r
    omega
  · obtain ⟨x, hx, r1, r2, r3⟩ := pgetL r hi
    have q := entry_at he i
    rw [hx] at q
    exact ⟨_, q, by rw [r2] <;> rfl⟩
theorem turn_keysN {P : Program} {w : World} {K : PySem.W.Frag} {tg : Expr} {d : Addr} {o : Obj} {ess : Array DictEntry} {ep : Nat} {es : List NE} (it : Addr) (hod : o.data = .dict ess ep) : Turn P w K tg (Itn P w d o es) [it] it (fun i h => h.IsKeyIter it d i es.length ep) where
  mem := by simp
  obj := fun i h st b hb => by
    have e : b = it := by simpa using hb
    subst e
    obtain ⟨oi, e, c, dd⟩ := st
    exact ⟨oi, e, fun v z => by rw [dd] at z; cases z⟩
  keep := fun i h h' st k => st.at fun oi e => k it (by simp) oi e
  item := by
    intro X hP hw hK hc i pins s σ H E I hf st hg
    subst hP hw hK
    obtain ⟨hd, hi⟩ := hg
    obtain ⟨f0, f1, f2, f3, f4, f5⟩ := hf it (by simp)
    obtain ⟨hs, hgd, hx, es', ep', hdt, hsz, ent⟩ := frzN I hd
    obtain ⟨rfl, rfl⟩ := dict_ep hod hdt
    obtain ⟨e0, he0⟩ : ∃ p, es[i]? = some p := ⟨es[i], List.getElem?_eq_getElem hi⟩
    obtain ⟨en, hen, hkey⟩ := ent i e0 he0
    refine next_key_item st hgd hdt hsz hen fun h' st' sb => ?_
    have I1 : Inv X pins σ H { s with heap := h' } := I.turned (t' := s.toks) (fun b ob hb e => (sb.2 b hb).trans e) f0 f1 f3 f4 f5
    obtain ⟨oi, e, c, dd⟩ := id st'
    exact ⟨en.key, rfl, go_of (s := { s with heap := h' }) e c dd (by decide) ⟨.ref e0.2.1, H, I1, hkey, ⟨rfl, e0, he0, rfl⟩, st', fun b hb => (hf b hb).1⟩⟩
  done := by
    intro X hP hw hK hc i pins s σ H E I hf st hg
    subst hP hw hK
    obtain ⟨hd, hi⟩ := hg
    obtain ⟨f0, f1, f2, f3, f4, f5⟩ := hf it (by simp)
    obtain ⟨hs, hgd, hx, es', ep', hdt, hsz, ent⟩ := frzN I hd
    obtain ⟨rfl, rfl⟩ := dict_ep hod hdt
    exact next_key_end (I.ok.hd hc) st hgd hdt hsz hi fun h' eb => ⟨rfl, I.turned (t' := s.toks) (fun b ob hb e => eb b ob hb e) f0 f1 f3 f4 f5⟩
  self := fun A i s Q E st h => by
    refine wpAny_pyIter_slot st.typeIs F.slot_dict_keyiterator_iter (wpAny_call_entry F.slot_dict_keyiterator_iter st.typeIs F.entry_dict_keyiterator_iter ?_ (F.args_dict_keyiterator_iter_1 _))
    show wpAny _ _ (ret (.ref it)) _ _ s
    exact wpAny_pure ⟨_, rfl, "dict_keyiterator", _, st.typeIs, F.slot_dict_keyiterator_next.lookup, h⟩
def iKeysN (P : Program) (w : World) (td : TE) : TI := fun σ H R => td σ H fun x H1 => ∃ d o es, x = .ref d ∧ NDictF P w H1 d o es ∧ R (Itn P w d o es) H1
theorem pi_keysN {tg e : Expr} {td : TE} (he : PE X e td) : PI X tg e (iKeysN X.prog X.w td) := by
  refine ⟨fun pins s σ H R I h => ?_⟩
  refine thn (he.run pins s σ H _ I h) fun u s1 ⟨x, H1, I1, rx, d, o, es, ex, hd, q⟩ => ?_
  subst ex
  obtain rfl : u = Value.ref d := rx
  obtain ⟨hs, hgd, hx, ess, ep, hdt, hsz, ent⟩ := frzN I1 hd
  refine iter_keys hs hgd hx hdt (pi_one (tk := s1.toks) I1 _ (turn_keysN _ hdt) ⟨_, Heap.get?_push_size _ rfl, rfl, ?_⟩ q)
  rw [hsz] <;> rfl
end
section
variable {P : Program} {w : World} {r : V → List V → Hp → VK → Prop} {to td ty : TE} {t : TA} {σ : L2.St} {H : Hp} {Q : VK} {R : It → Hp → Prop}
theorem nm (h : to σ H fun x H1 => (∃ a kvs, x = V.ref a ∧ NDict P w H1 a kvs) ∧ t σ H1 fun xs H2 => r x xs H2 Q) : tNM P w r to t σ H Q := h
theorem nget (h : td σ H fun x H1 => ty σ H1 fun y H2 => rIxN P w x y H2 Q) : tNGet P w td ty σ H Q := h
theorem tnew (h : ∀ p, H p = none → Q (.ref p) (upd H p (NO P w p []))) : tNew P w σ H Q := h
theorem pikn (h : td σ H fun x H1 => ∃ d o es, x = .ref d ∧ NDictF P w H1 d o es ∧ R (Itn P w d o es) H1) : iKeysN P w td σ H R := h
end
end Wd

/-! sorted of anything that reads as data. -/
namespace Ws
open PySem PySem.Spec PyProof.Rows L2 Wp Wq
abbrev VD := V × PyData
def leD (a b : VD) : Bool := PySem.W.dataLe false (fun x : VD => x.2) a b
def rSortD (K : PySem.W.Frag) : List V → Hp → VK → Prop := fun vs H Q => ∃ (a : Addr) (bs : List VD), vs = [.ref a] ∧ SqL K H a (bs.map (·.1)) ∧ (∀ b ∈ bs, Dp K H b.1 b.2) ∧ PySem.W.AllAlike (bs.map (·.2)) ∧ PySem.W.Sortable (bs.map (·.2)) ∧ (∀ b ∈ bs, b.2.depth ≤ 60) ∧
  ∀ p, H p = none → Q (.ref p) (upd H p (.lst ((bs.mergeSort leD).map (·.1))))
section
variable {X : Cx}
theorem each_rel : ∀ {bs : List VD} {its : List Value}, Vals (bs.map (·.1)) its → PySem.W.EachIs (fun (v : Value) (b : VD) => RelV b.1 v) its bs
  | [], _, h => by cases h; exact .nil
  | b :: bs, _, h => by
    cases h with
    | cons r t => exact .cons r (each_rel t)
theorem rel_each : ∀ {bs : List VD} {its : List Value}, PySem.W.EachIs (fun (v : Value) (b : VD) => RelV b.1 v) its bs → Vals (bs.map (·.1)) its
  | [], _, h => by cases h; exact .nil
  | b :: bs, _, h => by
    cases h with
    | cons r t => exact .cons r (rel_each t)
theorem each_reads {pins : List (Addr × Obj)} {σ : L2.St} {H : Hp} {s : Shared} (I : Inv X pins σ H s) : ∀ {bs : List VD} {its : List Value}, Vals (bs.map (·.1)) its → (∀ b ∈ bs, Dp X.K H b.1 b.2) → PySem.W.EachIs (fun (v : Value) (b : VD) => ∃ as, Reads s.heap v b.2 as) its bs
  | [], _, h, _ => by cases h; exact .nil
  | b :: bs, _, h, d => by
    cases h with
    | cons r t => exact .cons (Dp.reads I _ _ _ (d b List.mem_cons_self) r) (each_reads I t fun x hx => d x (List.mem_cons_of_mem _ hx))
theorem cr_sortD (hu : X.A.units + 64 < cLine) : CallR X (.builtin "sorted") (rSortD X.K) := by
  intro pins s σ H vs us Q I r h
  obtain ⟨a, bs, rfl, hs, hd, hal, hk, hdep, q⟩ := h
  obtain ⟨its, rv, hl, hz⟩ := I.list hs
  rw [Vals.ref1 r]
  rw [List.length_map] at hz
  refine PySem.W.sorted_data (enc := fun x : VD => x.2) (vs := its) hl.isList (each_rel rv) (each_reads I rv hd) hal hk hz (fun b hb => by have := hdep b hb; show X.A.units + 2 + b.2.depth < cLine; omega) fun out h1 h2 => ?_
  obtain ⟨ep, he'⟩ := PyProof.Rows.sortedAll_at s.heap its out.toArray
  have hlen : ((bs.mergeSort leD).map (·.1)).length ≤ sizeLine := by
    rw [List.length_map, List.length_mergeSort]
    exact hz
  exact ⟨.ref _, upd H (s.heap.objs.size + 1) (.lst ((bs.mergeSort leD).map (·.1))), I.laid (t' := s.toks) (fun _ _ => PyProof.Rows.sortedAll_old) (Nat.le_succ _) ⟨hlen, out, ep, rel_each h2, he'⟩, rfl, q _ (I.hok.fresh (Nat.le_succ _))⟩
end
end Ws

/-! Beginnings of piles: the dict's mirror, and how sorted piles count them. -/
namespace Wk
open PySem PySem.Spec PyProof.Rows L2 Wp Wq Wr Wd
def ins (T : List (List W)) (q : List W) : List (List W) := if q ∈ T then T else T ++ [q]
def begs (p : List W) (j : Nat) : List (List W) := (List.range j).map fun n => p.take (n + 1)
def insPile (T : List (List W)) (p : List W) : List (List W) := (begs p p.length).foldl ins T
def trie (ps : List (List W)) : List (List W) := ps.foldl insPile []
theorem begs_succ (p : List W) (j : Nat) : begs p (j + 1) = begs p j ++ [p.take (j + 1)] := by
  unfold begs
  rw [List.range_succ, List.map_append] <;> rfl
theorem mem_ins {T : List (List W)} {q x : List W} : x ∈ ins T q ↔ x ∈ T ∨ x = q := by
  unfold ins
  split
  · rename_i h
    exact ⟨.inl, fun k => k.elim id fun e => e ▸ h⟩
  · rw [List.mem_append, List.mem_singleton]
theorem mem_foldl {x : List W} : ∀ {qs T : List (List W)}, x ∈ qs.foldl ins T ↔ x ∈ T ∨ x ∈ qs
  | [], T => by simp
  | q :: qs, T => by
    rw [List.foldl_cons, mem_foldl (qs := qs), mem_ins, List.mem_cons]
    exact ⟨fun h => by rcases h with (h | h) | h <;> simp [h], fun h => by rcases h with h | h | h <;> simp [h]⟩
theorem mem_begs {p x : List W} {j : Nat} : x ∈ begs p j ↔ ∃ n, n < j ∧ x = p.take (n + 1) := by
  unfold begs
  rw [List.mem_map]
  exact ⟨fun ⟨n, h, e⟩ => ⟨n, List.mem_range.mp h, e.symm⟩, fun ⟨n, h, e⟩ => ⟨n, List.mem_range.mpr h, e.symm⟩⟩
theorem mem_insPile {T : List (List W)} {p x : List W} : x ∈ insPile T p ↔ x ∈ T ∨ ∃ n, n < p.length ∧ x = p.take (n + 1) := by
  unfold insPile
  rw [mem_foldl, mem_begs]
theorem mem_trie' {x : List W} : ∀ {ps T : List (List W)}, x ∈ ps.foldl insPile T ↔ x ∈ T ∨ ∃ p ∈ ps, ∃ n, n < p.length ∧ x = p.take (n + 1)
  | [], T => by simp
  | p :: ps, T => by
    rw [List.foldl_cons, mem_trie' (ps := ps), mem_insPile]
    constructor
    · rintro ((h | ⟨n, h1, h2⟩) | ⟨p', hp, n, h1, h2⟩)
      · exact .inl h
      · exact .inr ⟨p, List.mem_cons_self, n, h1, h2⟩
      · exact .inr ⟨p', List.mem_cons_of_mem _ hp, n, h1, h2⟩
    · rintro (h | ⟨p', hp, n, h1, h2⟩)
      · exact .inl (.inl h)
      · rcases List.mem_cons.mp hp with rfl | hp
        · exact .inl (.inr ⟨n, h1, h2⟩)
        · exact .inr ⟨p', hp, n, h1, h2⟩
theorem mem_trie {x : List W} {ps : List (List W)} : x ∈ trie ps ↔ ∃ p ∈ ps, ∃ n, n < p.length ∧ x = p.take (n + 1) := by
  unfold trie
  rw [mem_trie']
  simp
theorem ins_old {T : List (List W)} {q : List W} (h : q ∈ T) : ins T q = T := if_pos h
theorem ins_new {T : List (List W)} {q : List W} (h : q ∉ T) : ins T q = T ++ [q] := if_neg h
theorem ins_nodup {T : List (List W)} {q : List W} (h : T.Nodup) : (ins T q).Nodup := by
  unfold ins
  split
  · exact h
  · rename_i c
    rw [List.nodup_append]
    refine ⟨h, List.nodup_cons.mpr ⟨List.not_mem_nil, List.nodup_nil⟩, fun a ha b hb e => c ?_⟩
    rw [List.mem_singleton] at hb
    rw [← hb, ← e]
    exact ha
theorem foldl_nodup : ∀ {qs T : List (List W)}, T.Nodup → (qs.foldl ins T).Nodup
  | [], _, h => h
  | q :: qs, _, h => foldl_nodup (qs := qs) (ins_nodup h)
theorem trie_nodup' : ∀ {ps T : List (List W)}, T.Nodup → (ps.foldl insPile T).Nodup
  | [], _, h => h
  | p :: ps, _, h => trie_nodup' (ps := ps) (foldl_nodup h)
theorem trie_nodup (ps : List (List W)) : (trie ps).Nodup := trie_nodup' List.nodup_nil
/-- only which piles there are counts -/
theorem trie_len_perm {ps qs : List (List W)} (h : ∀ p, p ∈ ps ↔ p ∈ qs) : (trie ps).length = (trie qs).length := by
  refine ((List.perm_ext_iff_of_nodup (trie_nodup ps) (trie_nodup qs)).mpr fun x => ?_).length_eq
  rw [mem_trie, mem_trie]
  exact ⟨fun ⟨p, hp, r⟩ => ⟨p, (h p).mp hp, r⟩, fun ⟨p, hp, r⟩ => ⟨p, (h p).mpr hp, r⟩⟩
/-! ### sorted piles -/
def lcp : List W → List W → Nat
  | x :: xs, y :: ys => if x = y then lcp xs ys + 1 else 0
  | _, _ => 0
theorem lcp_cons (x y : W) (xs ys : List W) : lcp (x :: xs) (y :: ys) = if x = y then lcp xs ys + 1 else 0 := rfl
theorem lcp_le : ∀ (a b : List W), lcp a b ≤ b.length ∧ lcp a b ≤ a.length
  | [], b => by unfold lcp; exact ⟨Nat.zero_le _, Nat.zero_le _⟩
  | x :: xs, [] => by unfold lcp; exact ⟨Nat.zero_le _, Nat.zero_le _⟩
  | x :: xs, y :: ys => by
    have h := lcp_le xs ys
    rw [lcp_cons]
    split
    · rw [List.length_cons, List.length_cons]; omega
    · exact ⟨Nat.zero_le _, Nat.zero_le _⟩
theorem take_pre : ∀ (a b : List W) (n : Nat), n ≤ b.length → (b.take n <+: a ↔ n ≤ lcp a b)
  | a, b, 0, _ => by simp
  | [], y :: ys, n + 1, h => by
    rw [List.take_succ_cons]
    unfold lcp
    simp
  | x :: xs, y :: ys, n + 1, h => by
    rw [List.take_succ_cons, List.cons_prefix_cons, take_pre xs ys n (by rw [List.length_cons] at h; omega), lcp_cons]
    by_cases e : x = y
    · subst e
      rw [if_pos rfl]
      simp
    · rw [if_neg e]
      constructor
      · rintro ⟨e2, _⟩
        exact absurd e2.symm e
      · intro q
        omega
  | a, [], n + 1, h => by simp at h
theorem lcp_nil (b : List W) : lcp [] b = 0 := by unfold lcp; rfl
/-- how many are new -/
theorem insPile_len {T : List (List W)} {p : List W} {m : Nat} (hm : m ≤ p.length) (h : ∀ n, n < p.length → (p.take (n + 1) ∈ T ↔ n + 1 ≤ m)) : (insPile T p).length = T.length + (p.length - m) := by
  unfold insPile
  have go : ∀ j, j ≤ p.length → ((begs p j).foldl ins T).length = T.length + (j - m) := by
    intro j
    induction j with
    | zero => intro _; unfold begs; simp
    | succ j ih =>
      intro hj
      have ih := ih (by omega)
      rw [begs_succ, List.foldl_append]
      show (ins ((begs p j).foldl ins T) (p.take (j + 1))).length = _
      have mem : p.take (j + 1) ∈ (begs p j).foldl ins T ↔ j + 1 ≤ m := by
        rw [mem_foldl, mem_begs, h j (by omega)]
        constructor
        · rintro (q | ⟨n, hn, e⟩)
          · exact q
          · have := congrArg List.length e
            rw [List.length_take, List.length_take] at this
            omega
        · exact .inl
      by_cases c : p.take (j + 1) ∈ (begs p j).foldl ins T
      · have := mem.mp c
        rw [ins_old c]
        omega
      · have : ¬ j + 1 ≤ m := fun q => c (mem.mpr q)
        rw [ins_new c, List.length_append]
        show _ + 1 = _
        omega
  exact go _ (Nat.le_refl _)
def ltW (x y : W) : Bool := PySem.W.dataLt (wD x) (wD y)
def ltR (x y : List W) : Bool := PySem.W.rowLt (x.map wD) (y.map wD)
theorem alikeW (x y : W) : PySem.W.alike (wD x) (wD y) = true := by
  unfold wD
  simp [PySem.W.alike, PySem.W.alikeAll]
theorem ltR_nil (y : W) (ys : List W) : ltR [] (y :: ys) = true := by
  unfold ltR PySem.W.rowLt
  rw [List.map_nil, List.map_cons, PySem.W.toks_all_cons]
  simp only [PySem.W.keyToksAll]
  rw [lex_diff (O := itemOrd) (by simp)]
  rfl
theorem ltR_cons (x y : W) (xs ys : List W) : ltR (x :: xs) (y :: ys) = if x = y then ltR xs ys else ltW x y := by
  unfold ltR PySem.W.rowLt
  rw [List.map_cons, List.map_cons, PySem.W.dataLt_cons (alikeW x y), wD_eqv]
  by_cases e : x = y
  · rw [if_pos (decide_eq_true e), if_pos e]
  · rw [if_neg (by rw [decide_eq_false e]; exact Bool.false_ne_true), if_neg e]
    rfl
theorem ltW_tri {x y : W} (h : x ≠ y) (h1 : ltW x y = false) : ltW y x = true := by
  obtain ⟨s, n⟩ := x
  obtain ⟨t, m⟩ := y
  unfold ltW wD at *
  rw [PySem.W.dataLt_pair (by simp [PySem.W.alike]) (by simp [PySem.W.alike])] at *
  simp only [PyData.eqv, PySem.W.dataLt_str, PySem.W.dataLt_int, beq_iff_eq] at *
  by_cases e : s = t
  · subst e
    rw [if_pos rfl] at *
    by_cases e2 : n = m
    · subst e2
      exact absurd rfl h
    · rw [if_neg e2] at h1
      rw [if_neg (fun q => e2 q.symm)]
      rw [decide_eq_false_iff_not] at h1
      rw [decide_eq_true_eq]
      omega
  · rw [if_neg e] at h1
    rw [if_neg (fun q => e q.symm)]
    rw [decide_eq_false_iff_not] at h1
    rw [decide_eq_true_eq]
    by_cases q : t.cps.toList < s.cps.toList
    · exact q
    · exact absurd (Str.ext' (Array.toList_inj.mp (List.le_antisymm (List.not_lt.mp q) (List.not_lt.mp h1)))) e
/-- a beginning of the one ahead and of the one behind is one of those between -/
theorem mid_pre : ∀ {q a b c : List W}, ltR b a = false → ltR c b = false → q <+: a → q <+: c → q <+: b
  | [], _, _, _, _, _, _, _ => List.nil_prefix
  | z :: q, a, b, c, h1, h2, pa, pc => by
    cases a with
    | nil => simp at pa
    | cons x xs =>
      cases c with
      | nil => simp at pc
      | cons y ys =>
        rw [List.cons_prefix_cons] at pa pc
        obtain ⟨rfl, pa⟩ := pa
        obtain ⟨rfl, pc⟩ := pc
        cases b with
        | nil => rw [ltR_nil] at h1; cases h1
        | cons w ws =>
          rw [ltR_cons] at h1 h2
          by_cases e : w = z
          · subst e
            rw [if_pos rfl] at h1 h2
            rw [List.cons_prefix_cons]
            exact ⟨rfl, mid_pre h1 h2 pa pc⟩
          · rw [if_neg e] at h1
            rw [if_neg (fun q => e q.symm)] at h2
            rw [ltW_tri e h1] at h2
            cases h2
theorem ltR_irrefl (a : List W) : ltR a a = false := lex_irrefl _
/-- as the law counts -/
def sumL : List W → List (List W) → Nat
  | _, [] => 0
  | prev, p :: ps => (p.length - lcp prev p) + sumL p ps
theorem trie_snoc (l : List (List W)) (p : List W) : trie (l ++ [p]) = insPile (trie l) p := by
  unfold trie
  rw [List.foldl_append] <;> rfl
theorem trie_step {l : List (List W)} {prev p : List W} (hl : (l = [] ∧ prev = []) ∨ (prev ∈ l ∧ ∀ a ∈ l, ltR prev a = false)) (hp : ltR p prev = false) :
    (trie (l ++ [p])).length = (trie l).length + (p.length - lcp prev p) := by
  rw [trie_snoc]
  refine insPile_len (lcp_le prev p).1 fun n hn => ?_
  rw [mem_trie, ← take_pre prev p (n + 1) hn]
  constructor
  · rintro ⟨a, ha, k, hk, e⟩
    have e2 : p.take (n + 1) <+: a := by rw [e]; exact List.take_prefix _ _
    rcases hl with ⟨rfl, _⟩ | ⟨_, hl⟩
    · cases ha
    · exact mid_pre (hl a ha) hp e2 (List.take_prefix _ _)
  · intro h
    rcases hl with ⟨_, rfl⟩ | ⟨hm, _⟩
    · have := List.prefix_nil.mp h
      have := congrArg List.length this
      rw [List.length_take, List.length_nil] at this
      omega
    · refine ⟨prev, hm, n, ?_, ?_⟩
      · have := h.length_le
        rw [List.length_take] at this
        omega
      · have e := List.prefix_iff_eq_take.mp h
        rw [List.length_take, Nat.min_eq_left (by omega)] at e
        exact e
theorem sum_trie : ∀ {r l : List (List W)} {prev : List W}, ((l = [] ∧ prev = []) ∨ (prev ∈ l ∧ ∀ a ∈ l, ltR prev a = false)) → (l ++ r).Pairwise (fun a b => ltR b a = false) → (∀ p ∈ r, ltR p prev = false) →
    (trie (l ++ r)).length = (trie l).length + sumL prev r
  | [], l, prev, _, _, _ => by rw [List.append_nil]; rfl
  | p :: r, l, prev, hl, hs, hr => by
    have hp := hr p List.mem_cons_self
    have h1 := trie_step hl hp
    have es : l ++ p :: r = (l ++ [p]) ++ r := by rw [List.append_assoc] <;> rfl
    rw [es] at hs ⊢
    have hs' := List.pairwise_append.mp hs
    have hs2 := List.pairwise_append.mp hs'.1
    rw [sum_trie (l := l ++ [p]) (prev := p) (.inr ⟨List.mem_append_right _ List.mem_cons_self, fun a ha => ?_⟩) hs fun q hq => hs'.2.2 p (List.mem_append_right _ List.mem_cons_self) q hq, h1]
    · show _ + _ + _ = _ + ((p.length - lcp prev p) + sumL p r)
      omega
    · rcases List.mem_append.mp ha with ha | ha
      · exact hs2.2.2 a ha p List.mem_cons_self
      · rw [List.mem_singleton.mp ha]
        exact ltR_irrefl p
theorem ltR_nil_r (p : List W) : ltR p [] = false := by
  cases p with
  | nil => exact ltR_irrefl _
  | cons x xs =>
    unfold ltR PySem.W.rowLt
    rw [List.map_nil, List.map_cons, PySem.W.toks_all_cons]
    simp only [PySem.W.keyToksAll]
    rw [lex_diff (O := itemOrd) (by simp)]
    rfl
theorem sorted_sum {ps qs : List (List W)} (hp : qs.Perm ps) (hs : qs.Pairwise (fun a b => ltR b a = false)) : sumL [] qs = (trie ps).length := by
  have h := sum_trie (r := qs) (l := []) (prev := []) (.inl ⟨rfl, rfl⟩) hs (fun p _ => ltR_nil_r p)
  rw [trie_len_perm (ps := ps) (qs := qs) (fun p => hp.symm.mem_iff)]
  rw [List.nil_append] at h
  rw [h]
  show _ = 0 + _
  omega
end Wk

/-! The program's dict of beginnings, as a mirror of the trie. -/
namespace Wk
open PySem PySem.Spec PyProof.Rows L2 Wp Wq Wr Wd
def numOf (T : List (List W)) (q : List W) : Nat := if q = [] then 0 else T.idxOf q + 1
def lastW (q : List W) : W := q.getLast?.getD (Str.empty, 0)
def entT (T : List (List W)) (q : List W) : KW × V := ((((numOf T q.dropLast : Nat) : Int), lastW q), V.int ((numOf T q : Nat) : Int))
def kvsT (T : List (List W)) : List (KW × V) := T.map (entT T)
structure TOk (T : List (List W)) : Prop where
  nd : T.Nodup
  ne : ∀ q ∈ T, q ≠ []
  cl : ∀ q ∈ T, q.dropLast = [] ∨ q.dropLast ∈ T
theorem TOk.nil : TOk [] := ⟨List.nodup_nil, (fun _ h => nomatch h), (fun _ h => nomatch h)⟩
theorem numOf_nil (T : List (List W)) : numOf T [] = 0 := if_pos rfl
theorem numOf_mem {T : List (List W)} {q : List W} (h : q ≠ []) : numOf T q = T.idxOf q + 1 := if_neg h
theorem numOf_inj {T : List (List W)} {a b : List W} (ha : a = [] ∨ a ∈ T) (hb : b = [] ∨ b ∈ T) (e : numOf T a = numOf T b) : a = b := by
  by_cases ca : a = []
  · by_cases cb : b = []
    · rw [ca, cb]
    · rw [ca, numOf_nil, numOf_mem cb] at e
      omega
  · by_cases cb : b = []
    · rw [cb, numOf_nil, numOf_mem ca] at e
      omega
    · rw [numOf_mem ca, numOf_mem cb] at e
      have ha := ha.resolve_left ca
      have hb := hb.resolve_left cb
      have h1 := List.getElem_idxOf (List.idxOf_lt_length_of_mem ha)
      have h2 := List.getElem_idxOf (List.idxOf_lt_length_of_mem hb)
      have e' : T.idxOf a = T.idxOf b := by omega
      rw [← h1, ← h2]
      simp only [e']
theorem numOf_app {T : List (List W)} {q x : List W} (h : q = [] ∨ q ∈ T) : numOf (T ++ [x]) q = numOf T q := by
  by_cases c : q = []
  · rw [c, numOf_nil, numOf_nil]
  · have h := h.resolve_left c
    rw [numOf_mem c, numOf_mem c, List.idxOf_append, if_pos h]
theorem numOf_new {T : List (List W)} {x : List W} (h : x ∉ T) (c : x ≠ []) : numOf (T ++ [x]) x = T.length + 1 := by
  rw [numOf_mem c, List.idxOf_append, if_neg h]
  simp
theorem lastW_app (p : List W) (z : W) : lastW (p ++ [z]) = z := by
  unfold lastW
  simp
theorem drop_last {q : List W} (h : q ≠ []) : q.dropLast ++ [lastW q] = q := by
  have e := List.dropLast_concat_getLast h
  unfold lastW
  rw [List.getLast?_eq_some_getLast h]
  exact e
theorem valV_none {T : List (List W)} {f : List W → KW × V} {k : KW} (h : ∀ q ∈ T, (f q).1 ≠ k) : valV (T.map f) k = none := by
  induction T with
  | nil => rfl
  | cons q T ih =>
    rw [List.map_cons, valV_neg (h q List.mem_cons_self)]
    exact ih fun x hx => h x (List.mem_cons_of_mem _ hx)
theorem valV_some {T : List (List W)} {f : List W → KW × V} {k : KW} {q : List W} (hq : q ∈ T) (h : ∀ x ∈ T, (f x).1 = k ↔ x = q) : valV (T.map f) k = some (f q).2 := by
  induction T with
  | nil => cases hq
  | cons x T ih =>
    rw [List.map_cons]
    by_cases c : (f x).1 = k
    · have e := (h x List.mem_cons_self).mp c
      subst e
      exact valV_pos c
    · rw [valV_neg c]
      have hx : q ∈ T := by
        rcases List.mem_cons.mp hq with e | e
        · subst e
          exact absurd ((h q List.mem_cons_self).mpr rfl) c
        · exact e
      exact ih hx fun y hy => h y (List.mem_cons_of_mem _ hy)
theorem key_iff {T : List (List W)} (h : TOk T) {p q : List W} {z : W} (hp : p = [] ∨ p ∈ T) (hq : q ∈ T) : (entT T q).1 = (((numOf T p : Nat) : Int), z) ↔ q = p ++ [z] := by
  constructor
  · intro e
    have e1 : ((numOf T q.dropLast : Nat) : Int) = ((numOf T p : Nat) : Int) := congrArg Prod.fst e
    have e2 : lastW q = z := congrArg Prod.snd e
    have e3 := numOf_inj (h.cl q hq) hp (by omega)
    rw [← drop_last (h.ne q hq), e3, e2]
  · rintro rfl
    unfold entT
    rw [List.dropLast_concat, lastW_app]
theorem step_old {T : List (List W)} (h : TOk T) {p : List W} {z : W} (hp : p = [] ∨ p ∈ T) (hq : p ++ [z] ∈ T) : valV (kvsT T) (((numOf T p : Nat) : Int), z) = some (.int ((numOf T (p ++ [z]) : Nat) : Int)) :=
  valV_some hq fun x hx => key_iff h hp hx
theorem step_none {T : List (List W)} (h : TOk T) {p : List W} {z : W} (hp : p = [] ∨ p ∈ T) (hq : p ++ [z] ∉ T) : valV (kvsT T) (((numOf T p : Nat) : Int), z) = none :=
  valV_none fun x hx e => hq (by rw [← (key_iff h hp hx).mp e]; exact hx)
theorem step_new {T : List (List W)} (h : TOk T) {p : List W} {z : W} (hp : p = [] ∨ p ∈ T) (hq : p ++ [z] ∉ T) : kvsT (T ++ [p ++ [z]]) = kvsT T ++ [((((numOf T p : Nat) : Int), z), .int ((T.length + 1 : Nat) : Int))] := by
  unfold kvsT
  rw [List.map_append]
  congr 1
  · refine List.map_congr_left fun q hm => ?_
    unfold entT
    rw [numOf_app (h.cl q hm), numOf_app (.inr hm)]
  · rw [List.map_cons, List.map_nil]
    unfold entT
    rw [List.dropLast_concat, lastW_app, numOf_app hp, numOf_new hq (by simp)]
theorem TOk.app {T : List (List W)} (h : TOk T) {p : List W} {z : W} (hp : p = [] ∨ p ∈ T) (hq : p ++ [z] ∉ T) : TOk (T ++ [p ++ [z]]) := by
  refine ⟨?_, fun q hm => ?_, fun q hm => ?_⟩
  · have := ins_nodup (q := p ++ [z]) h.nd
    rw [ins_new hq] at this
    exact this
  · rcases List.mem_append.mp hm with hm | hm
    · exact h.ne q hm
    · rw [List.mem_singleton.mp hm]; simp
  · rcases List.mem_append.mp hm with hm | hm
    · rcases h.cl q hm with e | e
      · exact .inl e
      · exact .inr (List.mem_append_left _ e)
    · rw [List.mem_singleton.mp hm, List.dropLast_concat]
      rcases hp with e | e
      · exact .inl e
      · exact .inr (List.mem_append_left _ e)
/-- the trie behind j worths of a pile -/
def at_ (T : List (List W)) (p : List W) (j : Nat) : List (List W) := (begs p j).foldl ins T
theorem at_zero (T : List (List W)) (p : List W) : at_ T p 0 = T := rfl
theorem at_succ {T : List (List W)} {p : List W} {j : Nat} {z : W} (h : p[j]? = some z) : at_ T p (j + 1) = ins (at_ T p j) (p.take j ++ [z]) := by
  unfold at_
  rw [begs_succ, List.foldl_append, List.take_add_one, h]
  rfl
theorem at_len (T : List (List W)) (p : List W) : at_ T p p.length = insPile T p := rfl
theorem at_here {T : List (List W)} {p : List W} {j : Nat} (hj : j ≤ p.length) : p.take j = [] ∨ p.take j ∈ at_ T p j := by
  cases j with
  | zero => exact .inl (List.take_zero)
  | succ j =>
    refine .inr ?_
    unfold at_
    rw [mem_foldl, mem_begs]
    exact .inr ⟨j, Nat.lt_succ_self _, rfl⟩
theorem at_ok {T : List (List W)} {p : List W} (h : TOk T) : ∀ j, j ≤ p.length → TOk (at_ T p j)
  | 0, _ => h
  | j + 1, hj => by
    have ih := at_ok (p := p) h j (by omega)
    obtain ⟨z, hz⟩ : ∃ z, p[j]? = some z := ⟨p[j]'(by omega), List.getElem?_eq_getElem (by omega)⟩
    rw [at_succ hz]
    by_cases c : p.take j ++ [z] ∈ at_ T p j
    · rw [ins_old c]; exact ih
    · rw [ins_new c]; exact ih.app (at_here (T := T) (p := p) (j := j) (by omega)) c
theorem trie_ok' : ∀ {ps T : List (List W)}, TOk T → TOk (ps.foldl insPile T)
  | [], _, h => h
  | p :: ps, _, h => trie_ok' (ps := ps) (at_ok h p.length (Nat.le_refl _))
theorem trie_ok (ps : List (List W)) : TOk (trie ps) := trie_ok' TOk.nil
theorem at_size {T : List (List W)} {p : List W} : ∀ j, (at_ T p j).length ≤ T.length + j
  | 0 => Nat.le_refl _
  | j + 1 => by
    have ih := at_size (T := T) (p := p) j
    unfold at_ at *
    rw [begs_succ, List.foldl_append]
    show (ins ((begs p j).foldl ins T) (p.take (j + 1))).length ≤ _
    by_cases c : p.take (j + 1) ∈ (begs p j).foldl ins T
    · rw [ins_old c]; omega
    · rw [ins_new c, List.length_append]
      show _ + 1 ≤ _
      omega
theorem trie_size : ∀ {ps T : List (List W)} {m : Nat}, (∀ p ∈ ps, p.length ≤ m) → (ps.foldl insPile T).length ≤ T.length + ps.length * m
  | [], T, m, _ => by simp
  | p :: ps, T, m, h => by
    have h1 := at_size (T := T) (p := p) p.length
    have h2 := trie_size (ps := ps) (T := insPile T p) (m := m) (fun q hq => h q (List.mem_cons_of_mem _ hq))
    have h3 := h p List.mem_cons_self
    rw [at_len] at h1
    rw [List.foldl_cons, List.length_cons, Nat.succ_mul]
    omega
end Wk

/-! Bags; lists of drawn worths. -/
namespace Wb
open PySem PySem.Spec PyProof.Rows L2 Wp Wq Wr
def Bag (H : Hp) (b : Addr) (n : Nat) : Prop := ∃ x y z : Int, H b = some (.lst [.int x, .int y, .int z]) ∧ 0 ≤ y ∧ y < 4611686018427387904 ∧ 0 ≤ z ∧ z ≤ n
theorem Bag.mono {H : Hp} {b : Addr} {n m : Nat} (h : Bag H b n) (k : n ≤ m) : Bag H b m := by
  obtain ⟨x, y, z, h1, h2, h3, h4, h5⟩ := h
  exact ⟨x, y, z, h1, h2, h3, h4, by omega⟩
theorem Bag.ne_new {H : Hp} {b p : Addr} {n : Nat} (h : Bag H b n) (k : H p = none) : p ≠ b := by
  obtain ⟨x, y, z, h1, h⟩ := h
  exact (ne_of_none h1 k).symm
theorem Bag.keep {H H' : Hp} {b : Addr} {n : Nat} (h : Bag H b n) (k : Same H H') : Bag H' b n := by
  obtain ⟨x, y, z, h1, h⟩ := h
  exact ⟨x, y, z, k _ _ h1, h⟩
theorem Bag.upd {H : Hp} {b r : Addr} {n : Nat} {o : HO} (h : Bag H b n) (k : r ≠ b) : Bag (L2.upd H r o) b n := by
  obtain ⟨x, y, z, h1, h⟩ := h
  exact ⟨x, y, z, by rw [upd_ne k.symm]; exact h1, h⟩
theorem Bag.ks {H H' : Hp} {b : Addr} {n : Nat} (h : Bag H b n) (k : Kp b H H') : Ks [b] H H' := by
  obtain ⟨x, y, z, h1, h⟩ := h
  exact Ks.kp k h1 List.mem_cons_self
theorem Bag.at {H H' : Hp} {b : Addr} {n : Nat} (h : Bag H b n) (k : ∀ o, H b = some o → H' b = some o) : Bag H' b n := by
  obtain ⟨x, y, z, h1, h⟩ := h
  exact ⟨x, y, z, k _ h1, h⟩
theorem small {n : Nat} (h : n < 1000000) : n < sizeLine := Nat.lt_of_lt_of_le h (by decide)
section
variable {S : List Addr} {H H1 H2 : Hp} {a b D : Addr} {σ : L2.St} {g : TG} {te : TE} {vs : List Nat} {Qd : Hp → Prop}
/-- a new list is not looked at by what stood -/
theorem Ks.drop (x : Ks (D :: S) H1 H2) (s : Ks S H H1) (n : H D = none) : Ks S H H2 :=
  ⟨fun a o na e => x.keep a o (fun q => (List.mem_cons.mp q).elim (fun q => by rw [q, n] at e; cases e) na) (s.keep a o na e), s.tk.trans x.tk⟩
theorem Ks.kpOf (x : Ks [b] H H1) : Kp b H H1 := fun a o n e => x.keep a o (fun q => n (List.mem_singleton.mp q)) e
theorem Ks.kpNew (x : Ks (D :: [b]) H1 H2) (s : Same H H1) (n : H D = none) : Kp b H H2 := Ks.kpOf (Ks.drop x (Ks.same s) n)
theorem Ks.updD {o : HO} {bs : List V} (h : H D = some (.lst bs)) : Ks [D] H (upd H D o) := Ks.upd h List.mem_cons_self
/-- [.. for j in range(m)], a bag and a new list of worths -/
theorem lc_worths {m n inc : Nat} {ok : W → Prop} (hm : m < 1000) (hb : Bag H b n) (hD : H D = none)
    (body : ∀ (j : Nat) (H1 : Hp), j < m → ∀ R : V → Hp → Prop, Bag H1 b (n + inc * j) → Ks [D, b] (upd H D (.lst [])) H1 → (∀ v z H2, IsW H2 v z → ok z → Bag H2 b (n + inc * j + inc) → Kp b H1 H2 → R v H2) →
      g (.int (0 + (j : Int))) (wipe σ vs) H1 fun σ2 H2 => wipe σ2 vs = wipe σ vs ∧ te σ2 H2 R)
    (done : ∀ (H1 : Hp) (acc : List V) (ws : List W), Bag H1 b (n + inc * m) → Ks [b] H H1 → H1 D = some (.lst acc) → Pile H1 acc ws → ws.length = m → (∀ z ∈ ws, ok z) → Qd H1) :
    LoopC (Itr 0 m) g tYes te vs σ D Qd (upd H D (.lst [])) := by
  have hDb : D ≠ b := hb.ne_new hD
  refine loopCR (fun j H' => Bag H' b (n + inc * j) ∧ Ks [D, b] (upd H D (.lst [])) H' ∧ ∃ acc ws, H' D = some (.lst acc) ∧ Pile H' acc ws ∧ ws.length = j ∧ ∀ z ∈ ws, ok z) ⟨hb.keep (same_new hD), Ks.refl, [], [], upd_same, Pile.nil, rfl, (fun _ h => nomatch h)⟩ ?_ ?_
  · rintro j H3 hj ⟨hb3, k3, acc, ws, hD3, p3, wl, wok⟩
    refine body j H3 hj (fun y H4 => ∃ acc, H4 D = some (.lst acc) ∧ acc.length < sizeLine ∧ _) hb3 k3 fun v z H4 wz oz hb4 k4 => ?_
    have tk4 : Tk H3 H4 := (hb3.ks k4).tk
    have hD4 := k4 _ _ hDb hD3
    refine ⟨acc, hD4, ?_, ?_, ?_, _, _, upd_same, (Pile.app (p3.keep tk4) (Pile.one wz)).keep (Tk.lst hD4), ?_, ?_⟩
    · rw [p3.len]; exact small (by omega)
    · rw [Nat.mul_succ, ← Nat.add_assoc]
      exact hb4.upd hDb
    · exact k3.trans ((Ks.mono (hb3.ks k4) (by simp)).trans (Ks.upd hD4 List.mem_cons_self))
    · rw [List.length_append, wl] <;> rfl
    · intro x hx
      rcases List.mem_append.mp hx with hx | hx
      · exact wok x hx
      · rw [List.mem_singleton.mp hx]; exact oz
  · rintro H3 ⟨hb3, k3, acc, ws, hD3, p3, wl, wok⟩
    exact done H3 acc ws hb3 (Ks.drop k3 (Ks.same (same_new hD)) hD) hD3 p3 wl wok
end
end Wb

/-! Lists of piles as data; sorted. -/
namespace Wc
open PySem PySem.Spec PyProof.Rows L2 Wp Wq Wr Wk Wb
def lD (p : List W) : PyData := .list (p.map wD)
def PsOk (Ps : List (List W)) : Prop := ∀ q ∈ Ps, q.length ≤ 400 ∧ ∀ z ∈ q, Wok z
section
variable {S : List Addr} {H H1 H2 : Hp} {a b D : Addr} {K : PySem.W.Frag} {ys : List V} {Ps : List (List W)} {v : V} {p : List W}
theorem IsLs.dp (h : IsLs S H v p) : Dp K H v (lD p) := by
  obtain ⟨l, vs, rfl, hl, hp, _⟩ := h
  exact hp.dp (SqL.of hl)
theorem Lists.dpAll (h : Lists S H ys Ps) : DpAll K H ys (Ps.map lD) := by
  unfold Lists at h
  induction h with
  | nil => exact .nil
  | cons r t ih => exact .cons (IsLs.dp r) ih
theorem Lists.dp (h : Lists S H ys Ps) (e : SqL K H a ys) : Dp K H (.ref a) (.list (Ps.map lD)) := .lst e (Lists.dpAll h)
theorem lD_lay (h : ∀ z ∈ p, Wok z) : (lD p).canLay0 = true := by
  unfold lD
  simp only [PyData.canLay0]
  exact wDs_lay p h
theorem lDs_lay : ∀ Ps : List (List W), PsOk Ps → PyData.canLayAll0 (Ps.map lD) = true
  | [], _ => by simp [PyData.canLayAll0]
  | p :: Ps, h => by
    rw [List.map_cons]
    simp only [PyData.canLayAll0]
    rw [lD_lay (h p List.mem_cons_self).2, lDs_lay Ps (fun x hx => h x (List.mem_cons_of_mem _ hx))] <;> rfl
theorem lD_depth (p : List W) : (lD p).depth ≤ 2 := by
  have := wDs_depth p
  unfold lD
  simp only [PyData.depth]
  omega
theorem lDs_depth : ∀ Ps : List (List W), PyData.depthAll (Ps.map lD) ≤ 2
  | [] => by simp [PyData.depthAll]
  | p :: Ps => by
    have h := lDs_depth Ps
    have h2 := lD_depth p
    rw [List.map_cons]
    simp only [PyData.depthAll]
    omega
theorem lDs_shaped (h : PsOk Ps) : SeqAt.shaped (.list (Ps.map lD)) = true := by
  have h2 := lDs_depth Ps
  have h3 : (PyData.list (Ps.map lD)).depth ≤ 64 := by
    simp only [PyData.depth]
    omega
  show (PyData.canLay0 (.list (Ps.map lD)) && decide ((PyData.list (Ps.map lD)).depth ≤ 64)) = true
  rw [decide_eq_true h3, Bool.and_true]
  simp only [PyData.canLay0]
  exact lDs_lay Ps h
/-! ### sorted -/
def RB (S : List Addr) (H : Hp) (b : Ws.VD) (p : List W) : Prop := b.2 = lD p ∧ IsLs S H b.1 p
theorem lists_bs (h : Lists S H ys Ps) : ∃ bs : List Ws.VD, bs.map (·.1) = ys ∧ Paired (RB S H) bs Ps := by
  unfold Lists at h
  induction h with
  | nil => exact ⟨[], rfl, .nil⟩
  | @cons x p l1 l2 r t ih =>
    obtain ⟨bs, e, q⟩ := ih
    exact ⟨(x, lD p) :: bs, by rw [List.map_cons, e], .cons ⟨rfl, r⟩ q⟩
theorem bs_lists {bs : List Ws.VD} (h : Paired (RB S H) bs Ps) : Lists S H (bs.map (·.1)) Ps := by
  induction h with
  | nil => exact .nil
  | cons r t ih => exact .cons r.2 ih
theorem perm_pair {α β : Type} {R : α → β → Prop} {l1 l1' : List α} (h : l1'.Perm l1) : ∀ {l2 : List β}, Paired R l1 l2 → ∃ l2', l2'.Perm l2 ∧ Paired R l1' l2' := by
  induction h with
  | nil => intro l2 q; cases q; exact ⟨[], .nil, .nil⟩
  | cons x _ ih =>
    intro l2 q
    cases q with
    | @cons _ y _ t r q =>
      obtain ⟨t', ht, qt⟩ := ih q
      exact ⟨y :: t', .cons _ ht, .cons r qt⟩
  | swap x y l =>
    intro l2 q
    cases q with
    | cons r q => cases q with
      | cons r2 q => exact ⟨_, .swap _ _ _, .cons r2 (.cons r q)⟩
  | trans _ _ ih1 ih2 =>
    intro l2 q
    obtain ⟨m, hm, qm⟩ := ih2 q
    obtain ⟨l', hl, ql⟩ := ih1 qm
    exact ⟨l', hl.trans hm, ql⟩
theorem le_lt {a b : Ws.VD} {p q : List W} (ha : a.2 = lD p) (hb : b.2 = lD q) (h : Ws.leD a b = true) : ltR q p = false := by
  have h2 : (!PySem.W.dataLt b.2 a.2) = true := h
  rw [ha, hb] at h2
  have e : PySem.W.dataLt (lD q) (lD p) = ltR q p := PySem.W.dataLt_list _ _
  rw [e] at h2
  cases c : ltR q p with
  | false => rfl
  | true => rw [c] at h2; cases h2
theorem pair_wise {bs : List Ws.VD} (h : Paired (RB S H) bs Ps) (hs : bs.Pairwise (fun a b => Ws.leD a b = true)) : Ps.Pairwise (fun a b => ltR b a = false) := by
  induction h with
  | nil => exact .nil
  | @cons x p l1 l2 r t ih =>
    rw [List.pairwise_cons] at hs ⊢
    refine ⟨fun q hq => ?_, ih hs.2⟩
    obtain ⟨i, hi⟩ := List.mem_iff_getElem?.mp hq
    obtain ⟨b, hb, rb⟩ := pair_at t hi
    exact le_lt r.1 rb.1 (hs.1 b (List.mem_of_getElem? hb))
theorem leD_total : PySem.W.TotalLe Ws.leD := PySem.W.sortLe_total _ false _
theorem sorted_bs {bs : List Ws.VD} (h : Paired (RB S H) bs Ps) : ∃ Ps', Ps'.Perm Ps ∧ Lists S H ((bs.mergeSort Ws.leD).map (·.1)) Ps' ∧ Ps'.Pairwise (fun a b => ltR b a = false) := by
  obtain ⟨Ps', hp, q⟩ := perm_pair (List.mergeSort_perm bs Ws.leD) h
  exact ⟨Ps', hp, bs_lists q, pair_wise q (PySem.W.sort_pairwise leD_total bs)⟩
theorem bs_dp {bs : List Ws.VD} (h : Paired (RB S H) bs Ps) : ∀ b ∈ bs, Dp K H b.1 b.2 := fun b hb => by
  obtain ⟨i, hi⟩ := List.mem_iff_getElem?.mp hb
  obtain ⟨p, _, e, r⟩ := pair_at1 h hi
  rw [e]
  exact IsLs.dp r
theorem alikeL : ∀ (p q : List W), PySem.W.alikeAll (p.map wD) (q.map wD) = true
  | [], _ => by simp [PySem.W.alikeAll]
  | _ :: _, [] => by simp [PySem.W.alikeAll]
  | x :: p, y :: q => by
    rw [List.map_cons, List.map_cons]
    simp only [PySem.W.alikeAll]
    rw [alikeW, alikeL p q] <;> rfl
theorem bs_alike {bs : List Ws.VD} (h : Paired (RB S H) bs Ps) : PySem.W.AllAlike (bs.map (·.2)) := by
  intro d hd d' hd'
  obtain ⟨b, hb, rfl⟩ := List.mem_map.mp hd
  obtain ⟨b', hb', rfl⟩ := List.mem_map.mp hd'
  obtain ⟨i, hi⟩ := List.mem_iff_getElem?.mp hb
  obtain ⟨j, hj⟩ := List.mem_iff_getElem?.mp hb'
  obtain ⟨p, _, e, _⟩ := pair_at1 h hi
  obtain ⟨q, _, e', _⟩ := pair_at1 h hj
  rw [e, e']
  unfold lD
  simp only [PySem.W.alike]
  exact alikeL p q
theorem bs_sortable {bs : List Ws.VD} (h : Paired (RB S H) bs Ps) : PySem.W.Sortable (bs.map (·.2)) := .inr fun d hd => by
  obtain ⟨b, hb, rfl⟩ := List.mem_map.mp hd
  obtain ⟨i, hi⟩ := List.mem_iff_getElem?.mp hb
  obtain ⟨p, _, e, _⟩ := pair_at1 h hi
  rw [e]
  exact ⟨(fun q => nomatch q), fun xs q => nomatch q⟩
theorem bs_depth {bs : List Ws.VD} (h : Paired (RB S H) bs Ps) : ∀ b ∈ bs, b.2.depth ≤ 60 := fun b hb => by
  obtain ⟨i, hi⟩ := List.mem_iff_getElem?.mp hb
  obtain ⟨p, _, e, _⟩ := pair_at1 h hi
  rw [e]
  exact Nat.le_trans (lD_depth p) (by decide)
/-- the sorted list of piles -/
theorem sort_lists {Q : VK} {X : List V} (h : Lists S H ys Ps) (e : X = [.ref a]) (hs : SqL K H a ys) (q : ∀ (q : Addr) (ys' : List V) (Ps' : List (List W)), H q = none → Ps'.Perm Ps → Lists S H ys' Ps' → Ps'.Pairwise (fun a b => ltR b a = false) → Q (.ref q) (upd H q (.lst ys'))) : Ws.rSortD K X H Q := by
  obtain ⟨bs, eb, hb⟩ := lists_bs h
  obtain ⟨Ps', hp, L, hw⟩ := sorted_bs hb
  exact ⟨a, bs, e, by rw [eb]; exact hs, bs_dp hb, bs_alike hb, bs_sortable hb, bs_depth hb, fun p hp0 => q p _ Ps' hp0 hp L hw⟩
end
/-! ### sums -/
theorem sumL_snoc : ∀ (l : List (List W)) (prev p : List W), sumL prev (l ++ [p]) = sumL prev l + (p.length - lcp (l.getLastD prev) p)
  | [], prev, p => by
    show (p.length - lcp prev p) + 0 = 0 + _
    rw [Nat.add_zero, Nat.zero_add]
    rfl
  | q :: l, prev, p => by
    show (q.length - lcp prev q) + sumL q (l ++ [p]) = (q.length - lcp prev q) + sumL q l + _
    rw [sumL_snoc l q p, Nat.add_assoc]
    congr 3
    cases l <;> simp [List.getLastD]
theorem lcp_step : ∀ {a b : List W} {m : Nat}, m ≤ lcp a b → (m < lcp a b ↔ ∃ z, a[m]? = some z ∧ b[m]? = some z)
  | [], b, m, h => by
    have e : lcp [] b = 0 := lcp_nil b
    rw [e] at h ⊢
    simp
  | x :: xs, [], m, h => by
    have e : lcp (x :: xs) [] = 0 := rfl
    rw [e] at h ⊢
    simp
  | x :: xs, y :: ys, m, h => by
    rw [lcp_cons] at h ⊢
    by_cases c : x = y
    · rw [if_pos c] at h ⊢
      subst c
      cases m with
      | zero => simp
      | succ m =>
        have ih := lcp_step (a := xs) (b := ys) (m := m) (by omega)
        rw [List.getElem?_cons_succ, List.getElem?_cons_succ, ← ih]
        omega
    · rw [if_neg c] at h ⊢
      have e : m = 0 := by omega
      subst e
      simp only [List.getElem?_cons_zero]
      constructor
      · intro q; omega
      · rintro ⟨z, h1, h2⟩
        cases h1
        cases h2
        exact absurd rfl c
theorem cut_drop {xs : List V} {n : Nat} : cutV xs (some (n : Int)) none = xs.drop n := by
  unfold cutV
  rw [show HT.sIx xs.length 0 (some (n : Int)) = min n xs.length from HT.sIx_nat .., show HT.sIx xs.length xs.length none = xs.length from HT.sIx_none ..]
  by_cases h : n ≤ xs.length
  · rw [Nat.min_eq_left h, List.take_of_length_le (by rw [List.length_drop]; omega)]
  · rw [Nat.min_eq_right (by omega), List.drop_of_length_le (Nat.le_refl _), List.drop_of_length_le (by omega), List.take_nil]
theorem Lists.take {S : List Addr} {H : Hp} {ys : List V} {Ps : List (List W)} (h : Lists S H ys Ps) : ∀ n, Lists S H (ys.take n) (Ps.take n) := by
  unfold Lists at *
  induction h with
  | nil => intro n; cases n <;> exact .nil
  | cons r t ih => intro n; cases n with
    | zero => exact .nil
    | succ n => exact .cons r (ih n)
theorem Lists.drop {S : List Addr} {H : Hp} {ys : List V} {Ps : List (List W)} (h : Lists S H ys Ps) : ∀ n, Lists S H (ys.drop n) (Ps.drop n) := by
  unfold Lists at *
  induction h with
  | nil => intro n; cases n <;> exact .nil
  | cons r t ih => intro n; cases n with
    | zero => exact .cons r t
    | succ n => exact ih n
theorem Lists.rev {S : List Addr} {H : Hp} {ys : List V} {Ps : List (List W)} (h : Lists S H ys Ps) : Lists S H ys.reverse Ps.reverse := by
  unfold Lists at *
  induction h with
  | nil => exact .nil
  | cons r t ih =>
    rw [List.reverse_cons, List.reverse_cons]
    exact pair_app ih (.cons r .nil)
theorem revL {σ : L2.St} {H : Hp} {Q : VK} {te : TE} {K : PySem.W.Frag} (h : te σ H fun x H1 => ∃ a xs, x = .ref a ∧ SqL K H1 a xs ∧ ∀ p, H1 p = none → Q (.ref p) (upd H1 p (.lst xs.reverse))) : tRevL K te σ H Q := h
end Wc

/-! A raw paper numbered as its pieces are come to. -/
namespace Wn
open PySem PySem.Spec PyProof.Rows L2 Wp Wq Wr
def pcAt (R : List Pc) (a : Int) : Pc := R.getD a.toNat (-1, [])
def walkM (R : List Pc) : Nat → List Int → Int → List Int
  | 0, o, _ => o
  | f + 1, o, a => if a = -1 ∨ a ∈ o then o else walkM R f (o ++ [a]) (pcAt R a).1
def orderM (R : List Pc) (tops : List Int) : List Int := tops.foldl (fun o t => walkM R (t + 1).toNat o t) []
def placeM (o : List Int) (a : Int) : Int := if a = -1 then -1 else (o.idxOf a : Int)
def numberedM (R : List Pc) (tops : List Int) : Pap := ((orderM R tops).map fun a => (placeM (orderM R tops) (pcAt R a).1, (pcAt R a).2), tops.map (placeM (orderM R tops)))
theorem pcAt_some {R : List Pc} {a : Int} (h0 : 0 ≤ a) (h1 : a < R.length) : R[a.toNat]? = some (pcAt R a) := by
  have h : a.toNat < R.length := by omega
  unfold pcAt
  rw [List.getD_eq_getElem?_getD, List.getElem?_eq_getElem h] <;> rfl
theorem pcAt_ok {size : Int} {R : List Pc} (ok : RawOk size R) {a : Int} (h0 : 0 ≤ a) (h1 : a < R.length) : -1 ≤ (pcAt R a).1 ∧ (pcAt R a).1 < a ∧ 1 ≤ (pcAt R a).2.length ∧ ((pcAt R a).2.length : Int) ≤ size ∧ ∀ z ∈ (pcAt R a).2, Wok z := by
  have := ok a.toNat _ (pcAt_some h0 h1)
  obtain ⟨x1, x2, x3, x4, x5⟩ := this
  exact ⟨x1, by omega, x3, x4, x5⟩
section
variable {size : Int} {R : List Pc}
theorem walk_two (ok : RawOk size R) : ∀ (f g : Nat) (o : List Int) (a : Int), -1 ≤ a → a < R.length → (a + 1).toNat ≤ f → (a + 1).toNat ≤ g → walkM R f o a = walkM R g o a := by
  intro f
  induction f with
  | zero =>
    intro g o a h0 h1 hf hg
    have c : a = -1 := by omega
    cases g with
    | zero => rfl
    | succ g =>
      show o = (if a = -1 ∨ a ∈ o then o else _)
      rw [if_pos (.inl c)]
  | succ f ih =>
    intro g o a h0 h1 hf hg
    show (if a = -1 ∨ a ∈ o then o else walkM R f (o ++ [a]) (pcAt R a).1) = walkM R g o a
    by_cases c2 : a = -1 ∨ a ∈ o
    · rw [if_pos c2]
      cases g with
      | zero => rfl
      | succ g =>
        show o = (if a = -1 ∨ a ∈ o then o else _)
        rw [if_pos c2]
    · rw [if_neg c2]
      have c : a ≠ -1 := fun e => c2 (.inl e)
      obtain ⟨m, rfl⟩ : ∃ m, g = m + 1 := ⟨g - 1, by omega⟩
      show _ = (if a = -1 ∨ a ∈ o then o else walkM R m (o ++ [a]) (pcAt R a).1)
      rw [if_neg c2]
      obtain ⟨u0, u1, _⟩ := pcAt_ok ok (a := a) (by omega) h1
      exact ih m _ _ u0 (by omega) (by omega) (by omega)
/-- one turn -/
theorem walk_step (ok : RawOk size R) {o : List Int} {a : Int} (h0 : -1 ≤ a) (h1 : a < R.length) (c : a ≠ -1) (n : a ∉ o) :
    walkM R (a + 1).toNat o a = walkM R ((pcAt R a).1 + 1).toNat (o ++ [a]) (pcAt R a).1 := by
  obtain ⟨m, hm⟩ : ∃ m, (a + 1).toNat = m + 1 := ⟨a.toNat, by omega⟩
  rw [hm]
  show (if a = -1 ∨ a ∈ o then o else walkM R m (o ++ [a]) (pcAt R a).1) = _
  rw [if_neg (fun h => h.elim c n)]
  obtain ⟨u0, u1, _⟩ := pcAt_ok ok (a := a) (by omega) h1
  exact walk_two ok _ _ _ _ u0 (by omega) (by omega) (Nat.le_refl _)
theorem walk_end {f : Nat} {o : List Int} {a : Int} (c : a = -1 ∨ a ∈ o) : walkM R f o a = o := by
  cases f with
  | zero => rfl
  | succ f =>
    show (if a = -1 ∨ a ∈ o then o else _) = o
    rw [if_pos c]
/-- what a walk keeps and reaches -/
structure OrdOk (R : List Pc) (o : List Int) : Prop where
  rng : ∀ a ∈ o, 0 ≤ a ∧ a < R.length
  nd : o.Nodup
theorem OrdOk.app {o : List Int} {a : Int} (h : OrdOk R o) (h0 : 0 ≤ a) (h1 : a < R.length) (n : a ∉ o) : OrdOk R (o ++ [a]) := by
  refine ⟨fun x hx => ?_, ?_⟩
  · rcases List.mem_append.mp hx with hx | hx
    · exact h.rng x hx
    · rw [List.mem_singleton.mp hx]; exact ⟨h0, h1⟩
  · rw [List.nodup_append]
    refine ⟨h.nd, List.nodup_cons.mpr ⟨List.not_mem_nil, List.nodup_nil⟩, fun x hx y hy e => ?_⟩
    rw [List.mem_singleton.mp hy] at e
    exact n (e ▸ hx)
theorem OrdOk.nil : OrdOk R [] := ⟨(fun _ h => nomatch h), List.nodup_nil⟩
theorem nodup_bound : ∀ {n : Nat} {o : List Int}, o.Nodup → (∀ a ∈ o, 0 ≤ a ∧ a < n) → o.length ≤ n
  | 0, o, _, h => by
    cases o with
    | nil => exact Nat.le_refl _
    | cons a r => have := h a List.mem_cons_self; omega
  | n + 1, o, nd, h => by
    by_cases c : (n : Int) ∈ o
    · have e := List.length_erase_of_mem c
      have q := nodup_bound (n := n) (nd.erase (n : Int)) fun a ha => by
        have h2 := (List.Nodup.mem_erase_iff nd).mp ha
        have h3 := h a h2.2
        have h4 := h2.1
        omega
      omega
    · have q := nodup_bound (n := n) nd fun a ha => by
        have h3 := h a ha
        have h4 : a ≠ n := fun e => c (e ▸ ha)
        omega
      omega
def Near (R : List Pc) (o : List Int) (x : Int) : Prop := ∀ a ∈ o, (pcAt R a).1 = -1 ∨ (pcAt R a).1 ∈ o ∨ (pcAt R a).1 = x
theorem walk_all (ok : RawOk size R) : ∀ (f : Nat) (o : List Int) (a : Int), -1 ≤ a → a < R.length → (a + 1).toNat ≤ f → OrdOk R o → Near R o a →
    OrdOk R (walkM R f o a) ∧ Near R (walkM R f o a) (-1) ∧ (∃ m, walkM R f o a = o ++ m) ∧ (a = -1 ∨ a ∈ walkM R f o a) := by
  intro f
  induction f with
  | zero =>
    intro o a h0 h1 hf ho hn
    have c : a = -1 := by omega
    subst c
    exact ⟨ho, hn, ⟨[], (List.append_nil _).symm⟩, .inl rfl⟩
  | succ f ih =>
    intro o a h0 h1 hf ho hn
    by_cases c2 : a = -1 ∨ a ∈ o
    · rw [walk_end c2]
      refine ⟨ho, fun x hx => ?_, ⟨[], (List.append_nil _).symm⟩, c2⟩
      rcases hn x hx with q | q | q
      · exact .inl q
      · exact .inr (.inl q)
      · rcases c2 with c | c
        · exact .inl (q.trans c)
        · exact .inr (.inl (q ▸ c))
    · have c : a ≠ -1 := fun e => c2 (.inl e)
      have n : a ∉ o := fun e => c2 (.inr e)
      obtain ⟨u0, u1, _⟩ := pcAt_ok ok (a := a) (by omega) h1
      have hn2 : Near R (o ++ [a]) (pcAt R a).1 := by
        intro x hx
        rcases List.mem_append.mp hx with hx | hx
        · rcases hn x hx with q | q | q
          · exact .inl q
          · exact .inr (.inl (List.mem_append_left _ q))
          · exact .inr (.inl (List.mem_append_right _ (q ▸ List.mem_cons_self)))
        · rw [List.mem_singleton.mp hx]
          exact .inr (.inr rfl)
      have h := ih (o ++ [a]) (pcAt R a).1 u0 (by omega) (by omega) (ho.app (by omega) h1 n) hn2
      have e : walkM R (f + 1) o a = walkM R f (o ++ [a]) (pcAt R a).1 := by
        show (if a = -1 ∨ a ∈ o then o else _) = _
        rw [if_neg c2]
      rw [e]
      obtain ⟨q1, q2, ⟨m, q3⟩, q4⟩ := h
      refine ⟨q1, q2, ⟨a :: m, by rw [q3, List.append_assoc] <;> rfl⟩, .inr ?_⟩
      rw [q3]
      exact List.mem_append_left _ (List.mem_append_right _ List.mem_cons_self)
theorem fold_all (ok : RawOk size R) : ∀ (tops : List Int) (o : List Int), (∀ t ∈ tops, -1 ≤ t ∧ t < R.length) → OrdOk R o → Near R o (-1) →
    OrdOk R (tops.foldl (fun o t => walkM R (t + 1).toNat o t) o) ∧ Near R (tops.foldl (fun o t => walkM R (t + 1).toNat o t) o) (-1) ∧ (∃ m, tops.foldl (fun o t => walkM R (t + 1).toNat o t) o = o ++ m) ∧ ∀ t ∈ tops, t = -1 ∨ t ∈ tops.foldl (fun o t => walkM R (t + 1).toNat o t) o
  | [], o, _, ho, hn => ⟨ho, hn, ⟨[], (List.append_nil _).symm⟩, fun _ h => nomatch h⟩
  | t :: tops, o, ht, ho, hn => by
    have h0 := ht t List.mem_cons_self
    obtain ⟨q1, q2, ⟨m, q3⟩, q4⟩ := walk_all ok (t + 1).toNat o t h0.1 h0.2 (Nat.le_refl _) ho (fun x hx => (hn x hx).elim .inl fun q => q.elim (fun q => .inr (.inl q)) .inl)
    obtain ⟨p1, p2, ⟨m2, p3⟩, p4⟩ := fold_all ok tops (walkM R (t + 1).toNat o t) (fun x hx => ht x (List.mem_cons_of_mem _ hx)) q1 q2
    rw [List.foldl_cons]
    refine ⟨p1, p2, ⟨m ++ m2, by rw [p3, q3, List.append_assoc]⟩, fun x hx => ?_⟩
    rcases List.mem_cons.mp hx with e | hx
    · subst e
      rcases q4 with q | q
      · exact .inl q
      · rw [p3]
        exact .inr (List.mem_append_left _ q)
    · exact p4 x hx
theorem order_all (ok : RawOk size R) {tops : List Int} (ht : ∀ t ∈ tops, -1 ≤ t ∧ t < R.length) : OrdOk R (orderM R tops) ∧ (∀ a ∈ orderM R tops, (pcAt R a).1 = -1 ∨ (pcAt R a).1 ∈ orderM R tops) ∧ ∀ t ∈ tops, t = -1 ∨ t ∈ orderM R tops := by
  obtain ⟨h1, h2, _, h4⟩ := fold_all ok tops [] ht OrdOk.nil (fun _ h => nomatch h)
  exact ⟨h1, fun a ha => (h2 a ha).elim .inl fun q => q.elim .inr .inl, h4⟩
/-! ### the dict of places -/
def ents : Nat → List Int → List (Key × V)
  | _, [] => []
  | i, a :: r => (.inl a, .int i) :: ents (i + 1) r
def placesK (o : List Int) : List (Key × V) := (.inl (-1), .int (-1)) :: ents 0 o
theorem ents_len : ∀ (i : Nat) (o : List Int), (ents i o).length = o.length
  | _, [] => rfl
  | i, _ :: r => by show (ents (i + 1) r).length + 1 = r.length + 1; rw [ents_len]
theorem ents_val {a : Int} : ∀ (i : Nat) (o : List Int), valV (ents i o) (.inl a) = if a ∈ o then some (.int ((i + o.idxOf a : Nat) : Int)) else none
  | _, [] => by rw [if_neg List.not_mem_nil]; rfl
  | i, b :: r => by
    show valV ((Sum.inl b, V.int i) :: ents (i + 1) r) (Sum.inl a) = _
    by_cases e : b = a
    · subst e
      rw [valV_pos rfl, if_pos List.mem_cons_self, List.idxOf_cons_self] <;> rfl
    · rw [valV_neg (fun q => e (Sum.inl.inj q)), ents_val (i + 1) r]
      by_cases c : a ∈ r
      · have h2 : (b :: r).idxOf a = r.idxOf a + 1 := by
          rw [List.idxOf_cons]
          have e2 : (b == a) = false := by simpa using e
          rw [e2] <;> rfl
        rw [if_pos c, if_pos (List.mem_cons_of_mem _ c), h2, show i + 1 + r.idxOf a = i + (r.idxOf a + 1) by omega]
      · rw [if_neg c, if_neg (fun h => (List.mem_cons.mp h).elim (fun q => e q.symm) c)]
theorem places_val {o : List Int} {a : Int} : valV (placesK o) (.inl a) = if a = -1 ∨ a ∈ o then some (.int (placeM o a)) else none := by
  unfold placesK placeM
  by_cases e : a = -1
  · subst e
    rw [valV_pos rfl, if_pos (.inl rfl), if_pos rfl]
  · rw [valV_neg (fun q => e (Sum.inl.inj q).symm), ents_val]
    by_cases c : a ∈ o
    · rw [if_pos c, if_pos (.inr c), if_neg e, Nat.zero_add]
    · rw [if_neg c, if_neg (fun h => h.elim e c)]
theorem ents_app (a : Int) : ∀ (i : Nat) (o : List Int), ents i o ++ [(.inl a, .int ((i + o.length : Nat) : Int))] = ents i (o ++ [a])
  | _, [] => rfl
  | i, b :: r => by
    have := ents_app a (i + 1) r
    show (Sum.inl b, V.int i) :: (ents (i + 1) r ++ [(Sum.inl a, V.int ((i + (r.length + 1) : Nat) : Int))]) = (Sum.inl b, V.int i) :: ents (i + 1) (r ++ [a])
    rw [← this, show i + (r.length + 1) = i + 1 + r.length by omega]
theorem places_put {o : List Int} {a : Int} (c : a ≠ -1) (n : a ∉ o) : putK (placesK o) (.inl a) (.int o.length) = placesK (o ++ [a]) := by
  have h : ((placesK o).any fun kv => decide (kv.1 = (Sum.inl a : Key))) = false := by
    rw [List.any_eq_false]
    intro kv hkv
    rw [decide_eq_true_eq]
    intro e
    have hv : valV (placesK o) (.inl a) = none := by rw [places_val, if_neg (fun h => h.elim c n)]
    unfold valV at hv
    have hf : (placesK o).find? (fun kv => decide (kv.1 = (Sum.inl a : Key))) = none := by
      cases q : (placesK o).find? (fun kv => decide (kv.1 = (Sum.inl a : Key))) with
      | none => rfl
      | some x => rw [q] at hv; cases hv
    have := List.find?_eq_none.mp hf kv hkv
    exact this (decide_eq_true e)
  unfold putK
  rw [h, if_neg Bool.false_ne_true]
  have := ents_app a 0 o
  rw [Nat.zero_add] at this
  unfold placesK
  rw [← this] <;> rfl
end
end Wn

/-! A top's pile, piece by piece. -/
namespace Wo
open PySem PySem.Spec PyProof.Rows L2 Wp Wq Wr Wn
inductive OpensN (L : List Pc) : Nat → Int → List W → Prop where
  | nil : OpensN L 0 (-1) []
  | cons {n : Nat} {i : Int} {u : Int} {ws q : List W} (h : L[i.toNat]? = some (u, ws)) (h0 : 0 ≤ i) (t : OpensN L n u q) : OpensN L (n + 1) i (q ++ ws)
theorem OpensN.none {L : List Pc} {n : Nat} {q : List W} (h : OpensN L n (-1) q) : q = [] := by
  generalize e : (-1 : Int) = i at h
  cases h with
  | nil => rfl
  | cons _ h0 _ => omega
theorem OpensN.some {L : List Pc} {n : Nat} {i : Int} {q : List W} (h : OpensN L n i q) (c : i ≠ -1) : ∃ m u ws p, n = m + 1 ∧ L[i.toNat]? = some (u, ws) ∧ 0 ≤ i ∧ OpensN L m u p ∧ q = p ++ ws := by
  cases h with
  | nil => exact absurd rfl c
  | cons h h0 t => exact ⟨_, _, _, _, rfl, h, h0, t, rfl⟩
theorem idx_get : ∀ {o : List Int} {a : Int}, a ∈ o → o[o.idxOf a]? = some a
  | b :: r, a, h => by
    rw [List.idxOf_cons]
    by_cases e : b = a
    · subst e
      rw [beq_self_eq_true] <;> rfl
    · have e2 : (b == a) = false := by simpa using e
      rw [e2]
      show (b :: r)[r.idxOf a + 1]? = _
      rw [List.getElem?_cons_succ]
      exact idx_get ((List.mem_cons.mp h).resolve_left fun q => e q.symm)
/-- of a numbered paper -/
theorem numbered_opens {size : Int} {R : List Pc} {Ps : List (List W)} {tops : List Int} (ok : RawOk size R) (pok : PilesOk R Ps) (ht : ∀ t ∈ tops, -1 ≤ t ∧ t < R.length) :
    ∀ (k : Nat) (a : Int), (a + 1).toNat ≤ k → a = -1 ∨ a ∈ orderM R tops → ∃ n, n ≤ k ∧ OpensN (numberedM R tops).1 n (placeM (orderM R tops) a) (belowM Ps a) := by
  obtain ⟨h1, h2, h3⟩ := order_all ok ht
  have hnil : ∀ k : Nat, ∃ n, n ≤ k ∧ OpensN (numberedM R tops).1 n (placeM (orderM R tops) (-1)) (belowM Ps (-1)) := fun k => ⟨0, Nat.zero_le _, .nil⟩
  intro k
  induction k with
  | zero =>
    intro a ha h
    rcases h with rfl | h
    · exact hnil 0
    · have := (h1.rng a h).1
      omega
  | succ k ih =>
    intro a ha h
    rcases h with rfl | h
    · exact hnil _
    · obtain ⟨a0, a1⟩ := h1.rng a h
      obtain ⟨u0, u1, _⟩ := pcAt_ok ok a0 a1
      obtain ⟨n, hn, hop⟩ := ih (pcAt R a).1 (by omega) (h2 a h)
      refine ⟨n + 1, by omega, ?_⟩
      have e1 : belowM Ps a = belowM Ps (pcAt R a).1 ++ (pcAt R a).2 := by
        have := pok.2 a.toNat _ (pcAt_some a0 a1)
        show (if 0 ≤ a then Ps.getD a.toNat [] else []) = _
        rw [if_pos a0, List.getD_eq_getElem?_getD, this] <;> rfl
      have e2 : placeM (orderM R tops) a = ((orderM R tops).idxOf a : Int) := by
        unfold placeM
        rw [if_neg (by omega)]
      rw [e1, e2]
      refine .cons (u := placeM (orderM R tops) (pcAt R a).1) ?_ (by omega) hop
      show ((orderM R tops).map fun a => (placeM (orderM R tops) (pcAt R a).1, (pcAt R a).2))[((orderM R tops).idxOf a : Int).toNat]? = _
      rw [Int.toNat_natCast, List.getElem?_map, idx_get h] <;> rfl
end Wo

/-! max(xs, default=d) of a list of ints. -/
namespace Wm
open PySem PySem.Spec PyProof.Rows L2 Wp
theorem hold_ints {h : Heap} : ∀ {vs : List Value} {ns : List Int}, IntsAre vs ns → PySem.W.HoldAll h vs ns
  | _, _, .nil => PySem.W.HoldAll.nil
  | _, _, .cons n t r => PySem.W.HoldAll.cons ⟨_, Reads.int n t⟩ (hold_ints r)
theorem maxOf_is : ∀ (xs : List Int) (x : Int), PySem.W.maxOf x xs ∈ x :: xs ∧ ∀ y ∈ x :: xs, y ≤ PySem.W.maxOf x xs := by
  intro xs
  induction xs with
  | nil =>
    intro x
    exact ⟨List.mem_cons_self, fun y hy => by rw [List.mem_singleton.mp hy]; exact Int.le_refl _⟩
  | cons z zs ih =>
    intro x
    have e : PySem.W.maxOf x (z :: zs) = PySem.W.maxOf (if PySem.W.DatumOrd.lt x z = true then z else x) zs := rfl
    have d : PySem.W.DatumOrd.lt x z = decide (x < z) := rfl
    rw [e, d]
    obtain ⟨h1, h2⟩ := ih (if decide (x < z) = true then z else x)
    generalize PySem.W.maxOf (if decide (x < z) = true then z else x) zs = m at h1 h2
    by_cases c : x < z
    · rw [if_pos (decide_eq_true c)] at h1 h2
      refine ⟨List.mem_cons_of_mem _ h1, fun y hy => ?_⟩
      rcases List.mem_cons.mp hy with rfl | hy
      · have := h2 z List.mem_cons_self
        omega
      · exact h2 y hy
    · have c2 : ¬ (decide (x < z) = true) := by simpa using c
      rw [if_neg c2] at h1 h2
      refine ⟨?_, fun y hy => ?_⟩
      · rcases List.mem_cons.mp h1 with h | h
        · rw [h]; exact List.mem_cons_self
        · exact List.mem_cons_of_mem _ (List.mem_cons_of_mem _ h)
      · rcases List.mem_cons.mp hy with rfl | hy
        · exact h2 _ List.mem_cons_self
        · rcases List.mem_cons.mp hy with rfl | hy
          · have := h2 x List.mem_cons_self
            omega
          · exact h2 y (List.mem_cons_of_mem _ hy)
section
variable {X : Cx}
def rMaxD (K : PySem.W.Frag) : List V → List V → Hp → VK → Prop := fun vs zs H Q => ∃ (a : Addr) (ns : List Int) (d : Int), vs = [V.ref a] ∧ zs = [.int d] ∧ SqL K H a (ns.map V.int) ∧ ∀ m, (ns = [] ∧ m = d ∨ m ∈ ns ∧ ∀ y ∈ ns, y ≤ m) → Q (.int m) H
theorem cr_maxD (hc : X.calm = true) (hu : X.A.units + 64 < cLine) : CallRK X (.builtin "max") [Str.ofString "default"] (rMaxD X.K) := by
  intro pins s σ H vs zs us ws Q I r rz h
  obtain ⟨a, ns, d, rfl, rfl, hs, q⟩ := h
  obtain ⟨its, rv, hl, _⟩ := I.list hs
  rw [Vals.ref1 r]
  obtain ⟨w1, rfl, t, rfl⟩ := vals1 rz
  have hi := rv.ints
  refine PySem.W.max_list_datum_default (α := Int) (I.ok.hd hc) hl.isList (xs := ns) ?_ ?_ (fun e h' tk k => ⟨.int d, H, I.kept k, ⟨_, rfl⟩, q d (.inl ⟨e, rfl⟩)⟩) fun y ys i v h' tk e hv hh k => ?_
  · exact hold_ints hi
  · have : PySem.W.Datum.depth Int = 0 := rfl
    omega
  · obtain ⟨as, rd⟩ := hh
    obtain ⟨m1, m2⟩ := maxOf_is ys y
    have rd' : Reads h' v (.int (PySem.W.maxOf y ys)) as := rd
    cases rd'
    exact ⟨.int _, H, I.kept k, ⟨_, rfl⟩, q _ (.inr ⟨e ▸ m1, e ▸ m2⟩)⟩
end
section
variable {K : PySem.W.Frag} {σ : L2.St} {H : Hp} {Q : VK}
theorem augN {i : Nat} {te : TE} {ti : TIp} {D : Ends} {x : V} (h : σ[i]? = some (some x)) (q : te σ H fun y H1 => ti x y H1 fun z H2 => D.nx (σ.set i (some z)) H2) : tAug i te ti D σ H := ⟨x, h, q⟩
theorem idx_mem {a : Int} : ∀ {l : List Int} (m : List Int), a ∈ l → (l ++ m).idxOf a = l.idxOf a
  | b :: l, m, h => by
    rw [List.cons_append, List.idxOf_cons, List.idxOf_cons]
    cases e : b == a with
    | true => rfl
    | false =>
      have h2 : a ∈ l := (List.mem_cons.mp h).resolve_left fun q => by rw [q] at e; simp at e
      show (l ++ m).idxOf a + 1 = l.idxOf a + 1
      rw [idx_mem m h2]
theorem idx_not {a : Int} : ∀ {l : List Int} (m : List Int), a ∉ l → (l ++ m).idxOf a = l.length + m.idxOf a
  | [], m, _ => (Nat.zero_add _).symm
  | b :: l, m, h => by
    rw [List.cons_append, List.idxOf_cons]
    have e : (b == a) = false := by
      have : b ≠ a := fun q => h (q ▸ List.mem_cons_self)
      simpa using this
    rw [e]
    show (l ++ m).idxOf a + 1 = l.length + 1 + m.idxOf a
    rw [idx_not m (fun q => h (List.mem_cons_of_mem _ q))]
    omega
theorem cbK {r : List V → List V → Hp → VK → Prop} {t tk : TA} (h : t σ H fun vs H1 => tk σ H1 fun zs H2 => r vs zs H2 Q) : tCKw r t tk σ H Q := h
theorem maxD_ {a : Addr} {ns : List Int} {d : Int} (h : SqL K H a (ns.map V.int)) (q : ∀ m, (ns = [] ∧ m = d ∨ m ∈ ns ∧ ∀ y ∈ ns, y ≤ m) → Q (.int m) H) : rMaxD K [.ref a] [.int d] H Q := ⟨a, ns, d, rfl, rfl, h, q⟩
end
end Wm

/-! The program's check of the numbers, and the document's clauses walked pile by pile: one answer. -/
namespace Wx
/-! ### as the program goes -/
def uAt (u : List Int) (a : Int) : Int := u.getD a.toNat 0
def runM (u : List Int) : Nat → Nat → Int → Nat × Int
  | 0, m, a => (m, a)
  | f + 1, m, a => if a = m ∧ m < u.length then runM u f (m + 1) (uAt u m) else (m, a)
def numGo (u : List Int) : Nat → List Int → Option Nat
  | m, [] => some m
  | m, t :: ts => if (runM u (u.length - m) m t).2 ≠ -1 ∧ ¬ (0 ≤ (runM u (u.length - m) m t).2 ∧ (runM u (u.length - m) m t).2 < m) then none else numGo u (runM u (u.length - m) m t).1 ts
def numdM (u : List Int) (tops : List Int) : Bool := match numGo u 0 tops with
  | some m => decide (m = u.length)
  | none => false
/-! ### by the clauses -/
def rowM (u : List Int) : Nat → Int → List Int
  | 0, a => [a]
  | f + 1, a => if a = -1 then [a] else a :: rowM u f (uAt u a)
def addM (o : List Int) (l : List Int) : List Int := l.foldl (fun o a => if a ∈ o then o else o ++ [a]) o
def rightGo (u : List Int) : List Int → List Int → Option (List Int)
  | o, [] => some o
  | o, t :: ts => if t < -1 ∨ t ≥ u.length then none else if (rowM u u.length t).getLast? ≠ some (-1) then none else rightGo u (addM o (rowM u u.length t).dropLast) ts
def inR (u : List Int) : Prop := ∀ a ∈ u, -1 ≤ a ∧ a < u.length
def rng (m : Nat) : List Int := (List.range m).map fun i : Nat => (i : Int)
theorem rng_succ {m : Nat} : rng (m + 1) = rng m ++ [(m : Int)] := by
  unfold rng
  rw [List.range_succ, List.map_append] <;> rfl
theorem rng_len {m : Nat} : (rng m).length = m := by unfold rng; rw [List.length_map, List.length_range]
theorem rng_mem {m : Nat} {a : Int} : a ∈ rng m ↔ 0 ≤ a ∧ a < m := by
  unfold rng
  rw [List.mem_map]
  constructor
  · rintro ⟨i, hi, rfl⟩
    have := List.mem_range.mp hi
    omega
  · rintro ⟨h0, h1⟩
    exact ⟨a.toNat, List.mem_range.mpr (by omega), by omega⟩
theorem rng_at {m i : Nat} (h : i < m) : (rng m)[i]? = some (i : Int) := by
  unfold rng
  rw [List.getElem?_map, List.getElem?_range h] <;> rfl
/-- the chain from a ends on nothing in k steps, all below m -/
inductive Ends (u : List Int) (m : Nat) : Nat → Int → Prop where
  | nil : Ends u m 0 (-1)
  | cons {k : Nat} {a : Int} (h0 : 0 ≤ a) (h1 : a < m) (t : Ends u m k (uAt u a)) : Ends u m (k + 1) a
section
variable {u : List Int} {m m' b k : Nat} {a : Int}
theorem Ends.mono (h : Ends u m k a) (hm : m ≤ m') : Ends u m' k a := by
  induction h with
  | nil => exact .nil
  | cons h0 h1 t ih => exact .cons h0 (by omega) ih
theorem Ends.one {k2 m2 : Nat} (h : Ends u m k a) (h2 : Ends u m2 k2 a) : k = k2 := by
  induction h generalizing k2 with
  | nil =>
    cases h2 with
    | nil => rfl
    | cons h0 _ _ => omega
  | cons h0 h1 t ih =>
    cases h2 with
    | nil => omega
    | cons g0 g1 t2 => rw [ih t2]
theorem row_nil {F : Nat} : rowM u F (-1) = [-1] := by
  cases F with
  | zero => rfl
  | succ F => show (if (-1 : Int) = -1 then _ else _) = _; rw [if_pos rfl]
theorem row_ne : ∀ (F : Nat) (a : Int), rowM u F a ≠ []
  | 0, a => List.cons_ne_nil _ _
  | F + 1, a => by
    show (if a = -1 then [a] else a :: rowM u F (uAt u a)) ≠ []
    split <;> exact List.cons_ne_nil _ _
theorem row_cons {F : Nat} (h : a ≠ -1) : rowM u (F + 1) a = a :: rowM u F (uAt u a) := by
  show (if a = -1 then _ else _) = _
  rw [if_neg h]
theorem row_drop {F : Nat} (h : a ≠ -1) : (rowM u (F + 1) a).dropLast = a :: (rowM u F (uAt u a)).dropLast := by
  rw [row_cons h]
  cases e : rowM u F (uAt u a) with
  | nil => exact absurd e (row_ne _ _)
  | cons x r => rfl
theorem row_of {F : Nat} (h : Ends u m k a) (hk : k ≤ F) : (rowM u F a).getLast? = some (-1) ∧ ∀ x ∈ (rowM u F a).dropLast, 0 ≤ x ∧ x < m := by
  induction h generalizing F with
  | nil => rw [row_nil]; exact ⟨rfl, (fun _ h => nomatch h)⟩
  | cons h0 h1 t ih =>
    obtain ⟨G, rfl⟩ : ∃ G, F = G + 1 := ⟨F - 1, by omega⟩
    obtain ⟨i1, i2⟩ := ih (F := G) (by omega)
    rename_i a'
    have hne : a' ≠ -1 := by omega
    refine ⟨?_, ?_⟩
    · rw [row_cons hne, List.getLast?_cons, i1] <;> rfl
    · rw [row_drop hne]
      intro x hx
      rcases List.mem_cons.mp hx with rfl | hx
      · exact ⟨h0, h1⟩
      · exact i2 x hx
theorem ends_of (hr : inR u) : ∀ (F : Nat) (a : Int), -1 ≤ a → a < u.length → (rowM u F a).getLast? = some (-1) → ∃ k, k ≤ F ∧ Ends u u.length k a
  | 0, a, _, _, h => by
    have e : a = -1 := Option.some.inj h
    subst e
    exact ⟨0, Nat.le_refl _, .nil⟩
  | F + 1, a, h0, h1, h => by
    by_cases e : a = -1
    · subst e
      exact ⟨0, Nat.zero_le _, .nil⟩
    · rw [row_cons e, List.getLast?_cons] at h
      have hu : a.toNat < u.length := by omega
      have hm : uAt u a ∈ u := by
        unfold uAt
        rw [List.getD_eq_getElem?_getD, List.getElem?_eq_getElem hu]
        exact List.getElem_mem hu
      have h2 := hr _ hm
      cases e2 : (rowM u F (uAt u a)).getLast? with
      | none => exact absurd (List.getLast?_eq_none_iff.mp e2) (row_ne _ _)
      | some z =>
        rw [e2] at h
        have ez : z = -1 := Option.some.inj h
        rw [ez] at e2
        obtain ⟨k, hk, he⟩ := ends_of hr F (uAt u a) h2.1 h2.2 e2
        exact ⟨k + 1, by omega, .cons (by omega) h1 he⟩
theorem add_in : ∀ (l o : List Int), (∀ x ∈ l, x ∈ o) → addM o l = o
  | [], _, _ => rfl
  | x :: l, o, h => by
    show addM (if x ∈ o then o else o ++ [x]) l = o
    rw [if_pos (h x List.mem_cons_self)]
    exact add_in l o fun y hy => h y (List.mem_cons_of_mem _ hy)
theorem add_pre : ∀ (l o : List Int), ∃ r, addM o l = o ++ r
  | [], o => ⟨[], (List.append_nil _).symm⟩
  | x :: l, o => by
    show ∃ r, addM (if x ∈ o then o else o ++ [x]) l = o ++ r
    by_cases c : x ∈ o
    · rw [if_pos c]; exact add_pre l o
    · rw [if_neg c]
      obtain ⟨r, e⟩ := add_pre l (o ++ [x])
      exact ⟨x :: r, by rw [e, List.append_assoc] <;> rfl⟩
theorem add_cons {o l : List Int} {x : Int} (h : x ∉ o) : addM o (x :: l) = addM (o ++ [x]) l := by
  show addM (if x ∈ o then o else o ++ [x]) l = _
  rw [if_neg h]
theorem rng_pre {n : Nat} {l r : List Int} (h : rng n = l ++ r) : l = rng l.length ∧ l.length ≤ n := by
  have hl : l.length ≤ n := by
    have := congrArg List.length h
    rw [rng_len, List.length_append] at this
    omega
  refine ⟨?_, hl⟩
  apply List.ext_getElem?
  intro i
  by_cases c : i < l.length
  · have h1 : (l ++ r)[i]? = l[i]? := List.getElem?_append_left c
    rw [← h1, ← h, rng_at (by omega), rng_at c]
  · rw [List.getElem?_eq_none (by omega), List.getElem?_eq_none (by rw [rng_len]; omega)]
/-! ### the program's yes is the clauses' -/
theorem run_spec (hb : b ≤ u.length) (cl : ∀ p : Nat, p < b → ∃ k, k ≤ b ∧ Ends u b k p) : ∀ (f m : Nat) (a : Int) (m' : Nat) (a' : Int), runM u f m a = (m', a') → u.length - m ≤ f → m ≤ u.length → b ≤ m → (a' = -1 ∨ 0 ≤ a' ∧ a' < b) →
    m ≤ m' ∧ m' ≤ u.length ∧ ∃ k, k ≤ (m' - m) + b ∧ Ends u m' k a ∧ (∀ p : Nat, m ≤ p → p < m' → ∃ k, k ≤ m' ∧ Ends u m' k p) ∧ ∀ F, k ≤ F → addM (rng m) (rowM u F a).dropLast = rng m' := by
  have stop : ∀ (m : Nat) (a : Int), m ≤ u.length → b ≤ m → (a = -1 ∨ 0 ≤ a ∧ a < b) → m ≤ m ∧ m ≤ u.length ∧ ∃ k, k ≤ (m - m) + b ∧ Ends u m k a ∧ (∀ p : Nat, m ≤ p → p < m → ∃ k, k ≤ m ∧ Ends u m k p) ∧ ∀ F, k ≤ F → addM (rng m) (rowM u F a).dropLast = rng m := by
    intro m a hm hbm ha
    rcases ha with rfl | ⟨a0, a1⟩
    · exact ⟨Nat.le_refl _, hm, 0, Nat.zero_le _, .nil, (fun p h1 h2 => by omega), fun F _ => by rw [row_nil] <;> rfl⟩
    · obtain ⟨k, hk, he⟩ := cl a.toNat (by omega)
      have ea : ((a.toNat : Nat) : Int) = a := by omega
      rw [ea] at he
      refine ⟨Nat.le_refl _, hm, k, by omega, he.mono hbm, (fun p h1 h2 => by omega), fun F hF => add_in _ _ fun x hx => ?_⟩
      have := (row_of he hF).2 x hx
      exact rng_mem.mpr ⟨this.1, by omega⟩
  intro f
  induction f with
  | zero =>
    intro m a m' a' h hf hm hbm ha
    have e : (m, a) = (m', a') := h
    cases e
    exact stop m a hm hbm ha
  | succ f ih =>
    intro m a m' a' h hf hm hbm ha
    have e : (if a = m ∧ m < u.length then runM u f (m + 1) (uAt u m) else (m, a)) = (m', a') := h
    by_cases c : a = m ∧ m < u.length
    · rw [if_pos c] at e
      obtain ⟨i1, i2, k, i3, i4, i5, i6⟩ := ih (m + 1) _ m' a' e (by omega) (by omega) (by omega) ha
      obtain ⟨rfl, c2⟩ := c
      have e4 : Ends u m' (k + 1) (m : Int) := .cons (by omega) (by omega) i4
      refine ⟨by omega, i2, k + 1, by omega, e4, fun p h1 h2 => ?_, fun F hF => ?_⟩
      · by_cases q : p = m
        · subst q; exact ⟨k + 1, by omega, e4⟩
        · exact i5 p (by omega) h2
      · obtain ⟨G, rfl⟩ : ∃ G, F = G + 1 := ⟨F - 1, by omega⟩
        rw [row_drop (by omega), add_cons (fun h => by have := rng_mem.mp h; omega), ← rng_succ]
        exact i6 G (by omega)
    · rw [if_neg c] at e
      cases e
      exact stop m a hm hbm ha
def Cl (u : List Int) (b : Nat) : Prop := ∀ p : Nat, p < b → ∃ k, k ≤ b ∧ Ends u b k p
theorem go_yes : ∀ (ts : List Int) (m n : Nat), numGo u m ts = some n → m ≤ u.length → Cl u m → n ≤ u.length ∧ Cl u n ∧ rightGo u (rng m) ts = some (rng n)
  | [], m, n, h, hm, cl => by
    have e : m = n := Option.some.inj h
    subst e
    exact ⟨hm, cl, rfl⟩
  | t :: ts, m, n, h, hm, cl => by
    have h' : (if (runM u (u.length - m) m t).2 ≠ -1 ∧ ¬ (0 ≤ (runM u (u.length - m) m t).2 ∧ (runM u (u.length - m) m t).2 < m) then none else numGo u (runM u (u.length - m) m t).1 ts) = some n := h
    cases er : runM u (u.length - m) m t with
    | mk m' a' =>
      rw [er] at h'
      by_cases c : a' ≠ -1 ∧ ¬ (0 ≤ a' ∧ a' < m)
      · rw [if_pos c] at h'; cases h'
      · rw [if_neg c] at h'
        have ha : a' = -1 ∨ 0 ≤ a' ∧ a' < m := by omega
        obtain ⟨i1, i2, k, i3, i4, i5, i6⟩ := run_spec hm cl _ _ _ _ _ er (Nat.le_refl _) hm (Nat.le_refl _) ha
        have cl2 : Cl u m' := fun p hp => by
          by_cases q : p < m
          · obtain ⟨k, hk, he⟩ := cl p q
            exact ⟨k, by omega, he.mono i1⟩
          · exact i5 p (by omega) hp
        obtain ⟨j1, j2, j3⟩ := go_yes ts m' n h' i2 cl2
        refine ⟨j1, j2, ?_⟩
        have kn : k ≤ u.length := by omega
        have hrow := (row_of i4 kn).1
        have ht : ¬ (t < -1 ∨ t ≥ u.length) := by
          cases i4 with
          | nil => omega
          | cons h0 h1 _ => omega
        show (if t < -1 ∨ t ≥ u.length then none else if (rowM u u.length t).getLast? ≠ some (-1) then none else rightGo u (addM (rng m) (rowM u u.length t).dropLast) ts) = _
        rw [if_neg ht, if_neg (fun q => q hrow), i6 u.length kn]
        exact j3
theorem yes_right {tops : List Int} (h : numdM u tops = true) : inR u ∧ rightGo u [] tops = some (rng u.length) := by
  unfold numdM at h
  cases e : numGo u 0 tops with
  | none => rw [e] at h; cases h
  | some m =>
    rw [e] at h
    have em : m = u.length := of_decide_eq_true h
    subst em
    obtain ⟨_, cl, hg⟩ := go_yes tops 0 _ e (Nat.zero_le _) (fun p h => absurd h (Nat.not_lt_zero _))
    refine ⟨fun a ha => ?_, hg⟩
    obtain ⟨i, hi, rfl⟩ := List.getElem_of_mem ha
    obtain ⟨k, hk, he⟩ := cl i hi
    have eu : uAt u (i : Int) = u[i] := by
      unfold uAt
      rw [show ((i : Int)).toNat = i from Int.toNat_natCast i, List.getD_eq_getElem?_getD, List.getElem?_eq_getElem hi] <;> rfl
    cases he with
    | cons h0 h1 t =>
      rw [eu] at t
      generalize u[i] = z at t
      cases t with
      | nil => omega
      | cons g0 g1 _ => omega
/-! ### the clauses' yes is the program's -/
theorem run_back (hr : inR u) (clb : ∀ p : Nat, p < b → uAt u p = -1 ∨ 0 ≤ uAt u p ∧ uAt u p < b) {n' : Nat} : ∀ (k : Nat) (a : Int) (M f F : Nat), Ends u u.length k a → b ≤ M → M ≤ u.length → u.length - M ≤ f → k ≤ F →
    (∀ p : Nat, b ≤ p → p < M → ∃ j, k < j ∧ Ends u u.length j p) → (∀ p : Nat, p < M → uAt u p = -1 ∨ 0 ≤ uAt u p ∧ uAt u p < M ∨ uAt u p = a) → (∃ r, rng u.length = addM (rng M) (rowM u F a).dropLast ++ r) →
    ∃ m' a', runM u f M a = (m', a') ∧ (a' = -1 ∨ 0 ≤ a' ∧ a' < b) ∧ M ≤ m' ∧ m' ≤ u.length ∧ addM (rng M) (rowM u F a).dropLast = rng m' ∧ ∀ p : Nat, p < m' → uAt u p = -1 ∨ 0 ≤ uAt u p ∧ uAt u p < m' := by
  have halt : ∀ (f M : Nat) (a : Int), ¬ (a = M ∧ M < u.length) → runM u f M a = (M, a) := by
    intro f M a h
    cases f with
    | zero => rfl
    | succ f =>
      show (if a = M ∧ M < u.length then _ else _) = _
      rw [if_neg h]
  have low : ∀ (k : Nat) (a : Int), Ends u u.length k a → (a = -1 ∨ 0 ≤ a ∧ a < b) → Ends u b k a := by
    intro k a h
    induction h with
    | nil => intro _; exact .nil
    | cons h0 h1 t ih =>
      rename_i k2 a2
      intro hb
      have hb2 : 0 ≤ a2 ∧ a2 < b := by omega
      have e2 : ((a2.toNat : Nat) : Int) = a2 := by omega
      have := clb a2.toNat (by omega)
      rw [e2] at this
      exact .cons h0 hb2.2 (ih this)
  intro k
  induction k with
  | zero =>
    intro a M f F he hbM hM hf hF hj hc hp
    cases he
    refine ⟨M, -1, halt _ _ _ (by omega), .inl rfl, Nat.le_refl _, hM, by rw [row_nil] <;> rfl, fun p hp => ?_⟩
    have := hc p hp
    omega
  | succ k ih =>
    intro a M f F he hbM hM hf hF hj hc hp
    have he0 := he
    cases he with
    | cons h0 h1 t =>
      by_cases c : a < b
      · refine ⟨M, a, halt _ _ _ (by omega), .inr ⟨h0, c⟩, Nat.le_refl _, hM, ?_, fun p hp => ?_⟩
        · refine add_in _ _ fun x hx => ?_
          have := (row_of (low _ _ he0 (.inr ⟨h0, c⟩)) hF).2 x hx
          exact rng_mem.mpr ⟨this.1, by omega⟩
        · have := hc p hp
          omega
      · obtain ⟨G, rfl⟩ : ∃ G, F = G + 1 := ⟨F - 1, by omega⟩
        have hne : a ≠ -1 := by omega
        have nin : a ∉ rng M := by
          intro q
          have q2 := rng_mem.mp q
          obtain ⟨j, hj1, hj2⟩ := hj a.toNat (by omega) (by omega)
          rw [show ((a.toNat : Nat) : Int) = a by omega] at hj2
          have := he0.one hj2
          omega
        rw [row_drop hne, add_cons nin] at hp ⊢
        obtain ⟨r, er⟩ := hp
        obtain ⟨r2, er2⟩ := add_pre (rowM u G (uAt u a)).dropLast (rng M ++ [a])
        have er3 := er
        rw [er2, List.append_assoc] at er3
        obtain ⟨g1, g2⟩ := rng_pre er3
        rw [List.length_append, rng_len] at g1 g2
        have g2' : M + 1 ≤ u.length := g2
        have ea : a = M := by
          have g1' : rng M ++ [a] = rng (M + 1) := g1
          rw [rng_succ] at g1'
          exact (List.cons.inj (List.append_cancel_left g1')).1
        subst ea
        rw [← rng_succ] at er ⊢
        obtain ⟨f2, rfl⟩ : ∃ f2, f = f2 + 1 := ⟨f - 1, by omega⟩
        have step : runM u (f2 + 1) M (M : Int) = runM u f2 (M + 1) (uAt u M) := by
          show (if (M : Int) = M ∧ M < u.length then _ else _) = _
          rw [if_pos ⟨rfl, by omega⟩]
        rw [step]
        have hj' : ∀ p : Nat, b ≤ p → p < M + 1 → ∃ j, k < j ∧ Ends u u.length j p := fun p hp1 hp2 => by
          by_cases q : p = M
          · rw [q]; exact ⟨k + 1, by omega, he0⟩
          · obtain ⟨j, hj1, hj2⟩ := hj p hp1 (by omega)
            exact ⟨j, by omega, hj2⟩
        have hc' : ∀ p : Nat, p < M + 1 → uAt u p = -1 ∨ 0 ≤ uAt u p ∧ uAt u p < ((M + 1 : Nat) : Int) ∨ uAt u p = uAt u M := fun p hp => by
          by_cases q : p = M
          · rw [q]; exact .inr (.inr rfl)
          · have := hc p (by omega)
            omega
        obtain ⟨m', a', q1, q2, q3, q4, q5, q6⟩ := ih (uAt u M) (M + 1) f2 G t (by omega) g2' (by omega) (by omega) hj' hc' ⟨r, er⟩
        exact ⟨m', a', q1, q2, by omega, q4, q5, q6⟩
theorem go_back (hr : inR u) : ∀ (ts : List Int) (m : Nat), rightGo u (rng m) ts = some (rng u.length) → m ≤ u.length → (∀ p : Nat, p < m → uAt u p = -1 ∨ 0 ≤ uAt u p ∧ uAt u p < m) → numGo u m ts = some u.length
  | [], m, h, hm, cl => by
    have e : rng m = rng u.length := Option.some.inj h
    have e2 := congrArg List.length e
    rw [rng_len, rng_len] at e2
    show some m = some u.length
    rw [e2]
  | t :: ts, m, h, hm, cl => by
    have h' : (if t < -1 ∨ t ≥ u.length then none else if (rowM u u.length t).getLast? ≠ some (-1) then none else rightGo u (addM (rng m) (rowM u u.length t).dropLast) ts) = some (rng u.length) := h
    by_cases c1 : t < -1 ∨ t ≥ u.length
    · rw [if_pos c1] at h'; cases h'
    rw [if_neg c1] at h'
    by_cases c2 : (rowM u u.length t).getLast? ≠ some (-1)
    · rw [if_pos c2] at h'; cases h'
    rw [if_neg c2] at h'
    have c2' : (rowM u u.length t).getLast? = some (-1) := Classical.not_not.mp c2
    obtain ⟨k, hk, he⟩ := ends_of hr u.length t (by omega) (by omega) c2'
    have hp : ∃ r, rng u.length = addM (rng m) (rowM u u.length t).dropLast ++ r := go_pre ts _ _ h'
    obtain ⟨m', a', q1, q2, q3, q4, q5, q6⟩ := run_back hr cl (n' := 0) k t m (u.length - m) u.length he (Nat.le_refl _) hm (Nat.le_refl _) hk (fun p h1 h2 => by omega) (fun p hp => (cl p hp).elim .inl fun q => .inr (.inl q)) hp
    rw [q5] at h'
    have ih := go_back hr ts m' h' q4 q6
    show (if (runM u (u.length - m) m t).2 ≠ -1 ∧ ¬ (0 ≤ (runM u (u.length - m) m t).2 ∧ (runM u (u.length - m) m t).2 < m) then none else numGo u (runM u (u.length - m) m t).1 ts) = _
    rw [q1, if_neg (by show ¬ (a' ≠ -1 ∧ ¬ (0 ≤ a' ∧ a' < m)); omega)]
    exact ih
where
  go_pre : ∀ (ts : List Int) (o e : List Int), rightGo u o ts = some e → ∃ r, e = o ++ r
    | [], o, e, h => ⟨[], by rw [List.append_nil]; exact (Option.some.inj h).symm⟩
    | t :: ts, o, e, h => by
      have h' : (if t < -1 ∨ t ≥ u.length then none else if (rowM u u.length t).getLast? ≠ some (-1) then none else rightGo u (addM o (rowM u u.length t).dropLast) ts) = some e := h
      by_cases c1 : t < -1 ∨ t ≥ u.length
      · rw [if_pos c1] at h'; cases h'
      rw [if_neg c1] at h'
      by_cases c2 : (rowM u u.length t).getLast? ≠ some (-1)
      · rw [if_pos c2] at h'; cases h'
      rw [if_neg c2] at h'
      obtain ⟨r, e1⟩ := go_pre ts _ _ h'
      obtain ⟨r2, e2⟩ := add_pre (rowM u u.length t).dropLast o
      exact ⟨r2 ++ r, by rw [e1, e2, List.append_assoc]⟩
theorem right_yes {tops : List Int} (hr : inR u) (h : rightGo u [] tops = some (rng u.length)) : numdM u tops = true := by
  unfold numdM
  have h0 : rightGo u (rng 0) tops = some (rng u.length) := h
  rw [go_back hr tops 0 h0 (Nat.zero_le _) (fun p h => absurd h (Nat.not_lt_zero _))]
  exact decide_eq_true rfl
end

/-! ### a dict walked by its keys, locked -/
section
open PySem PySem.Spec PyProof.Rows L2 Wp
variable {σ : L2.St} {H : Hp} {Q : VK} {te ta : TE} {K : PySem.W.Frag}
theorem lock_ {t : TE} {d : Addr} {kvs : List (Key × V)} (h : H d = some (.dK kvs)) (q : ∀ od, t σ (upd H d (.frz od (.dK kvs))) fun v H' => H' d = some (.frz od (.dK kvs)) ∧ Q v (upd H' d (.dK kvs))) : tLockE t σ H Q := ⟨d, _, h, trivial, q⟩
theorem lcK {g : TG} {tt : TT} {vs : List Nat} (h : ta σ H fun x H1 => ∃ d o, x = .ref d ∧ ((∃ kvs, H1 d = some (.frz o (.dK kvs)) ∧ ∀ D, H1 D = none → LoopC (Itk d o kvs) g tt te vs σ D (fun H => Q (.ref D) H) (upd H1 D (.lst []))) ∨
    ∃ kvs, H1 d = some (.frz o (.dT kvs)) ∧ ∀ D, H1 D = none → LoopC (Itkt d o kvs) g tt te vs σ D (fun H => Q (.ref D) H) (upd H1 D (.lst [])))) : tLc (iKeys ta) g tt te vs σ H Q := h
theorem loopCK {d : Addr} {o : Obj} {kvs : List (Key × V)} {g : TG} {tt : TT} {vs : List Nat} {D : Addr} {Qd : Hp → Prop} (Pv : Nat → Hp → Prop) (h0 : Pv 0 H) (hl : ∀ i H, i ≤ kvs.length → Pv i H → H d = some (.frz o (.dK kvs)))
    (hs : ∀ i k v H, kvs[i]? = some (k, v) → Pv i H → g (kV k) (wipe σ vs) H fun σ2 H2 => wipe σ2 vs = wipe σ vs ∧ tt σ2 H2 fun b H3 =>
      if b = true then te σ2 H3 fun y H4 => ∃ acc, H4 D = some (.lst acc) ∧ acc.length < sizeLine ∧ Pv (i + 1) (upd H4 D (.lst (acc ++ [y]))) else Pv (i + 1) H3) (hd : ∀ H, Pv kvs.length H → Qd H) : LoopC (Itk d o kvs) g tt te vs σ D Qd H := by
  refine ⟨fun i m H => m = kvs.length - i ∧ i ≤ kvs.length ∧ Pv i H, ⟨kvs.length, by simp, Nat.zero_le _, h0⟩, ?_⟩
  rintro i m H ⟨rfl, hi, p⟩
  have q := hl i H hi p
  by_cases hlt : i < kvs.length
  · refine .inr ⟨⟨q, hlt⟩, Pv (i + 1), fun H' p' => ⟨kvs.length - (i + 1), by omega, rfl, hlt, p'⟩, fun x H' y => ?_⟩
    obtain ⟨e, k, v, ek, ex⟩ := y
    subst e
    subst ex
    exact hs i k v _ ek p
  · have e : i = kvs.length := by omega
    subst e
    exact .inl ⟨⟨q, Nat.le_refl _⟩, hd H p⟩
end
end Wx

/-! The tight paper: a mirror over beginnings. -/
namespace Wg
open PySem PySem.Spec PyProof.Rows L2 Wp Wq Wr Wk
/-! ### where piles are cut -/
section
variable {st : List W → Bool} {s : Nat} {p q : List W}
def E (st : List W → Bool) (s : Nat) (p : List W) : Nat → List Nat
  | 0 => [0]
  | h + 1 => if st (p.take (h + 1)) = true ∨ h + 1 - (E st s p h).getLastD 0 = s then E st s p h ++ [h + 1] else E st s p h
theorem E_take : ∀ (h m : Nat), h ≤ m → E st s (p.take m) h = E st s p h
  | 0, _, _ => rfl
  | h + 1, m, hm => by
    unfold E
    rw [E_take h m (by omega), List.take_take, Nat.min_eq_left hm]
theorem E_succ (h : Nat) : E st s p (h + 1) = E st s p h ++ [h + 1] ∨ E st s p (h + 1) = E st s p h := by
  show (if _ then _ else _) = _ ∨ (if _ then _ else _) = _
  split
  · exact .inl rfl
  · exact .inr rfl
theorem E_pre : ∀ {h m : Nat}, h ≤ m → E st s p h <+: E st s p m
  | h, 0, hm => by
    obtain rfl : h = 0 := by omega
    exact List.prefix_refl _
  | h, m + 1, hm => by
    by_cases e : h = m + 1
    · subst e; exact List.prefix_refl _
    · have ih := E_pre (h := h) (m := m) (by omega)
      rcases E_succ (st := st) (s := s) (p := p) m with e | e
      · rw [e]; exact ih.trans (List.prefix_append _ _)
      · rw [e]; exact ih
theorem E_ne (h : Nat) : E st s p h ≠ [] := by
  have := (E_pre (st := st) (s := s) (p := p) (Nat.zero_le h)).length_le
  intro e
  rw [e] at this
  simp [E] at this
/-- rising, ending at most at h -/
theorem E_rise : ∀ (h : Nat), (E st s p h).Pairwise (· < ·) ∧ ∀ x ∈ E st s p h, x ≤ h
  | 0 => by
    refine ⟨?_, fun x hx => ?_⟩
    · show List.Pairwise _ [0]
      simp
    · have : x = 0 := by simpa [E] using hx
      omega
  | h + 1 => by
    have ih := E_rise h
    rcases E_succ (st := st) (s := s) (p := p) h with e | e
    · rw [e]
      refine ⟨List.pairwise_append.mpr ⟨ih.1, by simp, fun a ha b hb => ?_⟩, fun x hx => ?_⟩
      · have := ih.2 a ha
        rw [List.mem_singleton.mp hb]
        omega
      · rcases List.mem_append.mp hx with hx | hx
        · have := ih.2 x hx; omega
        · rw [List.mem_singleton.mp hx]; exact Nat.le_refl _
    · rw [e]
      exact ⟨ih.1, fun x hx => by have := ih.2 x hx; omega⟩
theorem getD_app1 {l r : List Nat} {k d : Nat} (h : k < l.length) : (l ++ r).getD k d = l.getD k d := by
  rw [List.getD_eq_getElem?_getD, List.getD_eq_getElem?_getD, List.getElem?_append_left h]
theorem getD_app2 {l r : List Nat} {k d : Nat} (h : l.length ≤ k) : (l ++ r).getD k d = r.getD (k - l.length) d := by
  rw [List.getD_eq_getElem?_getD, List.getD_eq_getElem?_getD, List.getElem?_append_right h]
theorem last_mem {l : List Nat} (h : l ≠ []) : l.getLastD 0 ∈ l := by
  rw [List.getLastD_eq_getLast?, List.getLast?_eq_some_getLast h]
  exact List.getLast_mem h
/-- steps of at most s -/
theorem E_step (hs : 1 ≤ s) : ∀ (h : Nat), h - (E st s p h).getLastD 0 < s ∧ ∀ k, k + 1 < (E st s p h).length → (E st s p h).getD (k + 1) 0 - (E st s p h).getD k 0 ≤ s
  | 0 => by
    refine ⟨?_, fun k hk => ?_⟩
    · show 0 - 0 < s
      omega
    · simp [E] at hk
  | h + 1 => by
    have ih := E_step hs h
    have rise := E_rise (st := st) (s := s) (p := p) h
    have ne := E_ne (st := st) (s := s) (p := p) h
    have lm := rise.2 _ (last_mem ne)
    by_cases c : st (p.take (h + 1)) = true ∨ h + 1 - (E st s p h).getLastD 0 = s
    · have e : E st s p (h + 1) = E st s p h ++ [h + 1] := if_pos c
      rw [e]
      refine ⟨by simp; omega, fun k hk => ?_⟩
      rw [List.length_append, List.length_singleton] at hk
      by_cases ck : k + 1 < (E st s p h).length
      · rw [getD_app1 ck, getD_app1 (by omega)]
        exact ih.2 k ck
      · have e1 : k + 1 = (E st s p h).length := by omega
        rw [getD_app1 (show k < (E st s p h).length by omega), getD_app2 (by omega), e1, Nat.sub_self]
        have e2 : (E st s p h).getD k 0 = (E st s p h).getLastD 0 := by
          rw [List.getLastD_eq_getLast?, List.getLast?_eq_getElem?, List.getD_eq_getElem?_getD, ← e1]
          rfl
        rw [e2]
        show h + 1 - _ ≤ s
        omega
    · have e : E st s p (h + 1) = E st s p h := if_neg c
      rw [e]
      refine ⟨?_, ih.2⟩
      have : h + 1 - (E st s p h).getLastD 0 ≠ s := fun q => c (.inr q)
      omega
/-! ### cuts -/
def es (st : List W → Bool) (s : Nat) (p : List W) : List Nat := E st s p p.length
def hi (st : List W → Bool) (s : Nat) (p : List W) (k : Nat) : Nat := (es st s p).getD k 0
def cut (st : List W → Bool) (s : Nat) (p : List W) (k : Nat) : List W := p.take (hi st s p k)
def top (st : List W → Bool) (s : Nat) (p : List W) : Nat := (es st s p).length - 1
theorem es_ne : es st s p ≠ [] := E_ne _
theorem es_len : (es st s p).length = top st s p + 1 := by
  have := List.length_pos_iff.mpr (es_ne (st := st) (s := s) (p := p))
  unfold top
  omega
theorem hi_zero : hi st s p 0 = 0 := by
  have h := E_pre (st := st) (s := s) (p := p) (Nat.zero_le p.length)
  obtain ⟨r, hr⟩ := h
  unfold hi es
  rw [← hr]
  rfl
theorem hi_mem {k : Nat} (hk : k ≤ top st s p) : hi st s p k ∈ es st s p := by
  have h : k < (es st s p).length := by rw [es_len]; omega
  unfold hi
  rw [List.getD_eq_getElem?_getD, List.getElem?_eq_getElem h]
  exact List.getElem_mem h
theorem hi_le {k : Nat} (hk : k ≤ top st s p) : hi st s p k ≤ p.length := (E_rise p.length).2 _ (hi_mem hk)
theorem hi_lt {j k : Nat} (hj : j < k) (hk : k ≤ top st s p) : hi st s p j < hi st s p k := by
  have h : k < (es st s p).length := by rw [es_len]; omega
  have h2 : j < (es st s p).length := by omega
  have r := List.pairwise_iff_getElem.mp (show (es st s p).Pairwise (· < ·) from (E_rise (st := st) (s := s) (p := p) p.length).1) j k h2 h hj
  unfold hi
  rw [List.getD_eq_getElem?_getD, List.getD_eq_getElem?_getD, List.getElem?_eq_getElem h, List.getElem?_eq_getElem (show j < (es st s p).length by omega)]
  exact r
theorem cut_zero : cut st s p 0 = [] := by
  unfold cut
  rw [hi_zero, List.take_zero]
theorem cut_len {k : Nat} (hk : k ≤ top st s p) : (cut st s p k).length = hi st s p k := by
  unfold cut
  rw [List.length_take, Nat.min_eq_left (hi_le hk)]
theorem cut_ne {k : Nat} (h1 : 1 ≤ k) (hk : k ≤ top st s p) : cut st s p k ≠ [] := by
  intro e
  have l := cut_len hk
  rw [e] at l
  have := hi_lt (show 0 < k by omega) hk
  rw [hi_zero] at this
  simp at l
  omega
theorem cut_inj {j k : Nat} (hj : j ≤ top st s p) (hk : k ≤ top st s p) (e : cut st s p j = cut st s p k) : j = k := by
  have l := congrArg List.length e
  rw [cut_len hj, cut_len hk] at l
  by_cases c : j < k
  · have := hi_lt c hk; omega
  · by_cases c2 : k < j
    · have := hi_lt c2 hj; omega
    · omega
/-- a cut's own edges -/
theorem E_at : ∀ {h : Nat} {k : Nat}, k < (E st s p h).length → E st s p ((E st s p h).getD k 0) = (E st s p h).take (k + 1)
  | 0, k, hk => by
    have : k = 0 := by simp [E] at hk; omega
    subst this
    rfl
  | h + 1, k, hk => by
    rcases E_succ (st := st) (s := s) (p := p) h with e | e
    · rw [e] at hk ⊢
      rw [List.length_append, List.length_singleton] at hk
      by_cases c : k < (E st s p h).length
      · rw [getD_app1 c, E_at c, List.take_append_of_le_length (by omega)]
      · have e1 : k = (E st s p h).length := by omega
        rw [getD_app2 (by omega), e1, Nat.sub_self]
        show E st s p (h + 1) = _
        rw [e, List.take_of_length_le (by rw [List.length_append, List.length_singleton]; omega)]
    · rw [e] at hk ⊢
      exact E_at hk
theorem es_cut {k : Nat} (hk : k ≤ top st s p) : es st s (cut st s p k) = (es st s p).take (k + 1) := by
  unfold es
  rw [cut_len hk]
  unfold cut
  rw [E_take _ _ (Nat.le_refl _)]
  exact E_at (by have := es_len (st := st) (s := s) (p := p); unfold es at this; omega)
theorem top_cut {k : Nat} (hk : k ≤ top st s p) : top st s (cut st s p k) = k := by
  unfold top
  rw [es_cut hk, List.length_take, es_len]
  omega
theorem cut_cut {j k : Nat} (hj : j ≤ k) (hk : k ≤ top st s p) : cut st s (cut st s p k) j = cut st s p j := by
  have e : hi st s (cut st s p k) j = hi st s p j := by
    unfold hi
    rw [es_cut hk, List.getD_eq_getElem?_getD, List.getD_eq_getElem?_getD, List.getElem?_take_of_lt (by omega)]
  have l : hi st s p j ≤ hi st s p k := by
    by_cases c : j = k
    · subst c; exact Nat.le_refl _
    · exact Nat.le_of_lt (hi_lt (by omega) hk)
  show (cut st s p k).take (hi st s (cut st s p k) j) = _
  rw [e]
  unfold cut
  rw [List.take_take, Nat.min_eq_left l]
/-! ### laying -/
def place (L : List (List W)) (q : List W) : Int := if q = [] then -1 else (L.idxOf q : Int)
def lowOf (st : List W → Bool) (s : Nat) (q : List W) : List W := cut st s q (top st s q - 1)
def pieceOf (st : List W → Bool) (s : Nat) (L : List (List W)) (q : List W) : Pc := (place L (lowOf st s q), q.drop (lowOf st s q).length)
/-- q ends at a cut -/
def IsCut (st : List W → Bool) (s : Nat) (q : List W) : Prop := q ≠ [] ∧ cut st s q (top st s q) = q ∧ 1 ≤ top st s q
theorem low_cut {k : Nat} (hk : k ≤ top st s p) : lowOf st s (cut st s p k) = cut st s p (k - 1) := by
  unfold lowOf
  rw [top_cut hk, cut_cut (by omega) hk]
theorem cut_isCut {k : Nat} (h1 : 1 ≤ k) (hk : k ≤ top st s p) : IsCut st s (cut st s p k) := by
  refine ⟨cut_ne h1 hk, ?_, by rw [top_cut hk]; exact h1⟩
  rw [top_cut hk, cut_cut (Nat.le_refl _) hk]
structure LOk (st : List W → Bool) (s : Nat) (L : List (List W)) : Prop where
  nd : L.Nodup
  ic : ∀ q ∈ L, IsCut st s q
  cl : ∀ q ∈ L, lowOf st s q = [] ∨ lowOf st s q ∈ L
theorem LOk.nil : LOk st s [] := ⟨List.nodup_nil, (fun _ h => nomatch h), (fun _ h => nomatch h)⟩
theorem LOk.down {L : List (List W)} (h : LOk st s L) {k : Nat} (h1 : 2 ≤ k) (hk : k ≤ top st s p) (m : cut st s p k ∈ L) : cut st s p (k - 1) ∈ L := by
  rcases h.cl _ m with e | e
  · rw [low_cut hk] at e
    exact absurd e (cut_ne (by omega) (by omega))
  · rw [low_cut hk] at e
    exact e
/-- how many cuts are there already -/
theorem known {L : List (List W)} (h : LOk st s L) : ∀ n, n ≤ top st s p → ∃ k0, k0 ≤ n ∧ ∀ k, 1 ≤ k → k ≤ n → (cut st s p k ∈ L ↔ k ≤ k0)
  | 0, _ => ⟨0, Nat.le_refl _, fun k h1 h2 => by omega⟩
  | n + 1, hn => by
    by_cases c : cut st s p (n + 1) ∈ L
    · refine ⟨n + 1, Nat.le_refl _, fun k h1 h2 => ⟨fun _ => h2, fun _ => ?_⟩⟩
      have go : ∀ d, d ≤ n → cut st s p (n + 1 - d) ∈ L := by
        intro d
        induction d with
        | zero => intro _; exact c
        | succ d ih =>
          intro hd
          have := h.down (show 2 ≤ n + 1 - d by omega) (by omega) (ih (by omega))
          rw [show n + 1 - d - 1 = n + 1 - (d + 1) by omega] at this
          exact this
      have := go (n + 1 - k) (by omega)
      rw [show n + 1 - (n + 1 - k) = k by omega] at this
      exact this
    · obtain ⟨k0, h0, hk⟩ := known h n (by omega)
      refine ⟨k0, by omega, fun k h1 h2 => ?_⟩
      by_cases e : k = n + 1
      · subst e
        exact ⟨fun m => absurd m c, fun q => by omega⟩
      · exact hk k h1 (by omega)
def freshK (st : List W → Bool) (s : Nat) (L : List (List W)) (p : List W) : List Nat :=
  ((List.range (top st s p)).map fun i => top st s p - i).filter fun k => decide (cut st s p k ∉ L)
theorem fresh_eq {L : List (List W)} {k0 : Nat} (h0 : k0 ≤ top st s p) (hk : ∀ k, 1 ≤ k → k ≤ top st s p → (cut st s p k ∈ L ↔ k ≤ k0)) :
    freshK st s L p = (List.range (top st s p - k0)).map fun i => top st s p - i := by
  unfold freshK
  have e : List.range (top st s p) = List.range (top st s p - k0) ++ (List.range k0).map (top st s p - k0 + ·) := by
    rw [← List.range_add, Nat.sub_add_cancel h0]
  rw [e, List.map_append, List.filter_append]
  have a1 : ((List.range (top st s p - k0)).map fun i => top st s p - i).filter (fun k => decide (cut st s p k ∉ L)) = (List.range (top st s p - k0)).map fun i => top st s p - i := by
    rw [List.filter_eq_self]
    intro k hm
    obtain ⟨i, hi, rfl⟩ := List.mem_map.mp hm
    have hi := List.mem_range.mp hi
    rw [decide_eq_true_eq, hk _ (by omega) (by omega)]
    omega
  have a2 : (((List.range k0).map (top st s p - k0 + ·)).map fun i => top st s p - i).filter (fun k => decide (cut st s p k ∉ L)) = [] := by
    rw [List.filter_eq_nil_iff]
    intro k hm
    obtain ⟨j, hj, rfl⟩ := List.mem_map.mp hm
    obtain ⟨i, hi, rfl⟩ := List.mem_map.mp hj
    have hi := List.mem_range.mp hi
    rw [decide_eq_true_eq, hk _ (by omega) (by omega)]
    omega
  rw [a1, a2, List.append_nil]
def layL (st : List W → Bool) (s : Nat) (L : List (List W)) (p : List W) : List (List W) := L ++ (freshK st s L p).map (cut st s p)
end
end Wg

/-! The tight paper: right, and open to its piles. -/
namespace Wg
open PySem PySem.Spec PyProof.Rows L2 Wp Wq Wr Wk Wo
section
variable {st : List W → Bool} {s : Nat} {p q : List W} {L M : List (List W)}
theorem lay_eq {k0 : Nat} (h0 : k0 ≤ top st s p) (hk : ∀ k, 1 ≤ k → k ≤ top st s p → (cut st s p k ∈ L ↔ k ≤ k0)) :
    layL st s L p = L ++ (List.range (top st s p - k0)).map fun i => cut st s p (top st s p - i) := by
  unfold layL
  rw [fresh_eq h0 hk, List.map_map]
  rfl
theorem mem_lay (h : LOk st s L) : q ∈ layL st s L p ↔ q ∈ L ∨ ∃ k, 1 ≤ k ∧ k ≤ top st s p ∧ q = cut st s p k := by
  obtain ⟨k0, h0, hk⟩ := known (p := p) h _ (Nat.le_refl _)
  rw [lay_eq h0 hk, List.mem_append, List.mem_map]
  constructor
  · rintro (m | ⟨i, hi, rfl⟩)
    · exact .inl m
    · have := List.mem_range.mp hi
      exact .inr ⟨_, by omega, by omega, rfl⟩
  · rintro (m | ⟨k, h1, h2, rfl⟩)
    · exact .inl m
    · by_cases c : k ≤ k0
      · exact .inl ((hk k h1 h2).mpr c)
      · exact .inr ⟨top st s p - k, List.mem_range.mpr (by omega), by rw [show top st s p - (top st s p - k) = k by omega]⟩
theorem lay_ok (h : LOk st s L) (p : List W) : LOk st s (layL st s L p) := by
  obtain ⟨k0, h0, hk⟩ := known (p := p) h _ (Nat.le_refl _)
  refine ⟨?_, fun q hq => ?_, fun q hq => ?_⟩
  · rw [lay_eq h0 hk, List.nodup_append]
    refine ⟨h.nd, ?_, fun a ha b hb e => ?_⟩
    · rw [List.nodup_iff_pairwise_ne, List.pairwise_map]
      refine List.Pairwise.imp_of_mem (fun {i j} hi hj hij e => ?_) (List.pairwise_lt_range)
      have hi := List.mem_range.mp hi
      have hj := List.mem_range.mp hj
      have := cut_inj (by omega) (by omega) e
      omega
    · obtain ⟨i, hi, rfl⟩ := List.mem_map.mp hb
      have hi := List.mem_range.mp hi
      rw [e] at ha
      have := (hk _ (by omega) (by omega)).mp ha
      omega
  · rcases (mem_lay h).mp hq with m | ⟨k, h1, h2, rfl⟩
    · exact h.ic q m
    · exact cut_isCut h1 h2
  · rcases (mem_lay h).mp hq with m | ⟨k, h1, h2, rfl⟩
    · exact (h.cl q m).imp id fun m => (mem_lay h).mpr (.inl m)
    · rw [low_cut h2]
      by_cases c : k = 1
      · left
        rw [c]
        exact cut_zero
      · right
        exact (mem_lay h).mpr (.inr ⟨k - 1, by omega, by omega, rfl⟩)
def tightL (st : List W → Bool) (s : Nat) (Ps : List (List W)) (L : List (List W)) : List (List W) := Ps.foldl (layL st s) L
theorem tight_ok : ∀ {Ps L : List (List W)}, LOk st s L → LOk st s (tightL st s Ps L)
  | [], _, h => h
  | p :: Ps, _, h => tight_ok (Ps := Ps) (lay_ok h p)
theorem lay_pre : L <+: layL st s L p := List.prefix_append _ _
theorem tight_pre : ∀ {Ps L : List (List W)}, L <+: tightL st s Ps L
  | [], _ => List.prefix_refl _
  | p :: Ps, L => (lay_pre (p := p)).trans (tight_pre (Ps := Ps))
/-! ### places -/
theorem place_nil : place L [] = -1 := if_pos rfl
theorem place_mem (h : q ≠ []) : place L q = (L.idxOf q : Int) := if_neg h
theorem place_pre (hp : L <+: M) (h : q = [] ∨ q ∈ L) : place M q = place L q := by
  obtain ⟨r, rfl⟩ := hp
  by_cases c : q = []
  · rw [c, place_nil, place_nil]
  · rw [place_mem c, place_mem c, List.idxOf_append, if_pos (h.resolve_left c)]
theorem place_lt (h : q = [] ∨ q ∈ L) : -1 ≤ place L q ∧ place L q < L.length := by
  by_cases c : q = []
  · rw [c, place_nil]; omega
  · rw [place_mem c]
    have := List.idxOf_lt_length_of_mem (h.resolve_left c)
    omega
theorem place_ge (c : q ≠ []) : 0 ≤ place L q := by rw [place_mem c]; omega
theorem place_get (c : q ≠ []) (h : q ∈ L) : L[(place L q).toNat]? = some q := by
  rw [place_mem c, Int.toNat_natCast, List.getElem?_eq_getElem (List.idxOf_lt_length_of_mem h), List.getElem_idxOf]
theorem place_at {i : Nat} (nd : L.Nodup) (h : L[i]? = some q) (c : q ≠ []) : place L q = (i : Int) := by
  rw [place_mem c]
  obtain ⟨hi, e⟩ := List.getElem?_eq_some_iff.mp h
  have := nd.idxOf_getElem i hi
  rw [e] at this
  rw [this]
/-! ### the pieces -/
def piecesOf (st : List W → Bool) (s : Nat) (L : List (List W)) : List Pc := L.map (pieceOf st s L)
theorem piece_pre (h : LOk st s L) (hp : L <+: M) (m : q ∈ L) : pieceOf st s M q = pieceOf st s L q := by
  unfold pieceOf
  rw [place_pre hp (h.cl q m)]
def newPc (st : List W → Bool) (s : Nat) (L : List (List W)) (p : List W) (k : Nat) : Pc := (place L (cut st s p (k - 1)), (p.drop (hi st s p (k - 1))).take (hi st s p k - hi st s p (k - 1)))
theorem piece_cut {k : Nat} (h1 : 1 ≤ k) (hk : k ≤ top st s p) : pieceOf st s M (cut st s p k) = newPc st s M p k := by
  unfold pieceOf newPc
  rw [low_cut hk, cut_len (by omega)]
  congr 1
  unfold cut
  rw [List.drop_take]
theorem pieces_lay (h : LOk st s L) : piecesOf st s (layL st s L p) = piecesOf st s L ++ (freshK st s L p).map (newPc st s (layL st s L p) p) := by
  obtain ⟨k0, h0, hk⟩ := known (p := p) h _ (Nat.le_refl _)
  unfold piecesOf
  have e : layL st s L p = L ++ (freshK st s L p).map (cut st s p) := rfl
  generalize hM : layL st s L p = M at *
  conv => lhs; arg 2; rw [e]
  rw [List.map_append]
  congr 1
  · exact List.map_congr_left fun q hq => piece_pre h (by rw [e]; exact List.prefix_append _ _) hq
  · rw [List.map_map, fresh_eq h0 hk, List.map_map, List.map_map]
    refine List.map_congr_left fun i hi => ?_
    have := List.mem_range.mp hi
    exact piece_cut (k := top st s p - i) (by omega) (by omega)
theorem low_pre (h : IsCut st s q) : ∃ r, lowOf st s q ++ r = q ∧ q.drop (lowOf st s q).length = r ∧ 1 ≤ r.length ∧ (1 ≤ s → r.length ≤ s) := by
  obtain ⟨hn, hc, h1⟩ := h
  have hl : (lowOf st s q).length = hi st s q (top st s q - 1) := cut_len (by omega)
  have e : lowOf st s q = q.take (hi st s q (top st s q - 1)) := rfl
  have ht : hi st s q (top st s q) = q.length := by
    rw [← cut_len (Nat.le_refl _), hc]
  have hlt := hi_lt (show top st s q - 1 < top st s q by omega) (Nat.le_refl (top st s q))
  refine ⟨q.drop (hi st s q (top st s q - 1)), by rw [e, List.take_append_drop], by rw [hl], ?_, fun hs => ?_⟩
  · rw [List.length_drop]; omega
  · rw [List.length_drop]
    have stp := (E_step (st := st) (s := s) (p := q) hs q.length).2 (top st s q - 1) (by have := es_len (st := st) (s := s) (p := q); unfold es at this; omega)
    rw [show top st s q - 1 + 1 = top st s q by omega] at stp
    have s2 : hi st s q (top st s q) - hi st s q (top st s q - 1) ≤ s := stp
    omega
theorem down_all (h : LOk st s L) (m : q ∈ L) : ∀ k, 1 ≤ k → k ≤ top st s q → cut st s q k ∈ L := by
  have hc := (h.ic q m).2.1
  have go : ∀ d, d < top st s q → cut st s q (top st s q - d) ∈ L := by
    intro d
    induction d with
    | zero => intro _; rw [Nat.sub_zero, hc]; exact m
    | succ d ih =>
      intro hd
      have := h.down (show 2 ≤ top st s q - d by omega) (by omega) (ih (by omega))
      rw [show top st s q - d - 1 = top st s q - (d + 1) by omega] at this
      exact this
  intro k h1 h2
  have := go (top st s q - k) (by omega)
  rw [show top st s q - (top st s q - k) = k by omega] at this
  exact this
theorem opens_cut (h : LOk st s L) (m : q ∈ L) : ∀ k, k ≤ top st s q → OpensN (piecesOf st s L) k (place L (cut st s q k)) (cut st s q k)
  | 0, _ => by
    rw [cut_zero, place_nil]
    exact .nil
  | k + 1, hk => by
    have ih := opens_cut h m k (by omega)
    have mc := down_all h m (k + 1) (by omega) hk
    have ic := h.ic _ mc
    obtain ⟨r, e1, e2, _⟩ := low_pre ic
    have el : lowOf st s (cut st s q (k + 1)) = cut st s q k := low_cut hk
    have hg : (piecesOf st s L)[(place L (cut st s q (k + 1))).toNat]? = some (pieceOf st s L (cut st s q (k + 1))) := by
      unfold piecesOf
      rw [List.getElem?_map, place_get ic.1 mc]
      rfl
    unfold pieceOf at hg
    rw [e2, el] at hg
    rw [el] at e1
    have := OpensN.cons hg (place_ge ic.1) ih
    rw [e1] at this
    exact this
theorem opens (h : LOk st s L) (m : q = [] ∨ q ∈ L) : ∃ n, n ≤ q.length ∧ OpensN (piecesOf st s L) n (place L q) q := by
  by_cases c : q = []
  · subst c
    refine ⟨0, Nat.le_refl _, ?_⟩
    rw [place_nil]
    exact .nil
  · have m := m.resolve_left c
    have ho := opens_cut h m (top st s q) (Nat.le_refl _)
    rw [(h.ic q m).2.1] at ho
    refine ⟨_, ?_, ho⟩
    have := (E_rise (st := st) (s := s) (p := q) q.length).1
    have h2 : ∀ k, k ≤ top st s q → k ≤ hi st s q k := by
      intro k
      induction k with
      | zero => intro _; omega
      | succ k ih =>
        intro hk
        have := ih (by omega)
        have := hi_lt (show k < k + 1 by omega) hk
        omega
    exact Nat.le_trans (h2 _ (Nat.le_refl _)) (hi_le (Nat.le_refl _))
/-! ### numbered as they are come to -/
def undersOf (st : List W → Bool) (s : Nat) (L : List (List W)) : List Int := (piecesOf st s L).map (·.1)
theorem unders_len : (undersOf st s L).length = L.length := by unfold undersOf piecesOf; rw [List.length_map, List.length_map]
theorem unders_at {i : Nat} (hp : L <+: M) (h : LOk st s L) (e : L[i]? = some q) : Wx.uAt (undersOf st s M) (i : Int) = place L (lowOf st s q) := by
  obtain ⟨r, rfl⟩ := hp
  unfold Wx.uAt undersOf piecesOf
  have hi := (List.getElem?_eq_some_iff.mp e).1
  rw [Int.toNat_natCast, List.getD_eq_getElem?_getD, List.getElem?_map, List.getElem?_map, List.getElem?_append_left hi, e]
  show place _ _ = _
  exact place_pre (List.prefix_append _ _) (h.cl q (List.mem_of_getElem? e))
theorem full (h : st p = true) (hn : p ≠ []) : cut st s p (top st s p) = p ∧ 1 ≤ top st s p := by
  have hl : 1 ≤ p.length := List.length_pos_iff.mpr hn
  have e : es st s p = E st s p (p.length - 1) ++ [p.length] := by
    unfold es
    obtain ⟨n, hn⟩ : ∃ n, p.length = n + 1 := ⟨p.length - 1, by omega⟩
    rw [hn]
    show E st s p (n + 1) = E st s p (n + 1 - 1) ++ [n + 1]
    have : E st s p (n + 1) = E st s p n ++ [n + 1] := if_pos (.inl (by rw [← hn, List.take_length]; exact h))
    rw [this, Nat.add_sub_cancel]
  have hne := List.length_pos_iff.mpr (E_ne (st := st) (s := s) (p := p) (p.length - 1))
  have ht : top st s p = (E st s p (p.length - 1)).length := by
    unfold top
    rw [e, List.length_append, List.length_singleton, Nat.add_sub_cancel]
  refine ⟨?_, by omega⟩
  have : hi st s p (top st s p) = p.length := by
    unfold hi
    rw [e, ht, getD_app2 (Nat.le_refl _), Nat.sub_self]
    rfl
  unfold cut
  rw [this, List.take_length]
theorem run_stop {u : List Int} {f m : Nat} {a : Int} (h : a ≠ m) : Wx.runM u f m a = (m, a) := by
  cases f with
  | zero => rfl
  | succ f =>
    show (if a = m ∧ m < u.length then _ else _) = _
    rw [if_neg fun q => h q.1]
theorem run_go {u : List Int} {f m : Nat} (h : m < u.length) : Wx.runM u (f + 1) m m = Wx.runM u f (m + 1) (Wx.uAt u m) := by
  show (if (m : Int) = m ∧ m < u.length then _ else _) = _
  rw [if_pos ⟨rfl, h⟩]
theorem numbered : ∀ (Ps L : List (List W)), LOk st s L → (∀ p ∈ Ps, p ≠ [] → st p = true) → Wx.numGo (undersOf st s (tightL st s Ps L)) L.length (Ps.map (place (tightL st s Ps L))) = some (tightL st s Ps L).length
  | [], L, _, _ => rfl
  | p :: Ps, L, h, hst => by
    have h1 := lay_ok h p
    have hp1 : layL st s L p <+: tightL st s Ps (layL st s L p) := tight_pre
    have ih := numbered Ps (layL st s L p) h1 fun q hq => hst q (List.mem_cons_of_mem _ hq)
    have eF : tightL st s (p :: Ps) L = tightL st s Ps (layL st s L p) := rfl
    rw [eF]
    generalize tightL st s Ps (layL st s L p) = F at *
    rw [List.map_cons]
    obtain ⟨k0, h0, hk⟩ := known (p := p) h _ (Nat.le_refl _)
    have el := lay_eq h0 hk
    have ll : (layL st s L p).length = L.length + (top st s p - k0) := by rw [el, List.length_append, List.length_map, List.length_range]
    have lF := hp1.length_le
    have hu : (undersOf st s F).length = F.length := unders_len
    -- the way down
    have lowk : cut st s p k0 = [] ∨ cut st s p k0 ∈ L := by
      by_cases c : k0 = 0
      · left; rw [c]; exact cut_zero
      · right; exact (hk k0 (by omega) h0).mpr (Nat.le_refl _)
    have pl := place_lt lowk
    have at_ : ∀ i, i < top st s p - k0 → (layL st s L p)[L.length + i]? = some (cut st s p (top st s p - i)) := by
      intro i hi
      rw [el, List.getElem?_append_right (by omega), Nat.add_sub_cancel_left, List.getElem?_map, List.getElem?_range hi]
      rfl
    have down : ∀ (j i fuel : Nat), i + j = top st s p - k0 → j ≤ fuel → Wx.runM (undersOf st s F) fuel (L.length + i) (if i < top st s p - k0 then ((L.length + i : Nat) : Int) else place L (cut st s p k0)) = (L.length + (top st s p - k0), place L (cut st s p k0)) := by
      intro j
      induction j with
      | zero =>
        intro i fuel hi _
        rw [if_neg (by omega), run_stop (by omega), show L.length + i = L.length + (top st s p - k0) by omega]
      | succ j ihj =>
        intro i fuel hi hf
        rw [if_pos (by omega)]
        obtain ⟨f', rfl⟩ : ∃ f', fuel = f' + 1 := ⟨fuel - 1, by omega⟩
        rw [run_go (by rw [hu]; omega), unders_at hp1 h1 (at_ i (by omega)), low_cut (by omega)]
        have e2 : place (layL st s L p) (cut st s p (top st s p - i - 1)) = if i + 1 < top st s p - k0 then ((L.length + (i + 1) : Nat) : Int) else place L (cut st s p k0) := by
          by_cases c : i + 1 < top st s p - k0
          · rw [if_pos c]
            have a2 := at_ (i + 1) c
            rw [show top st s p - i - 1 = top st s p - (i + 1) by omega]
            exact place_at h1.nd a2 (cut_ne (by omega) (by omega))
          · rw [if_neg c, show top st s p - i - 1 = k0 by omega]
            exact place_pre lay_pre lowk
        rw [e2]
        exact ihj (i + 1) f' (by omega) (by omega)
    have first : place F p = if 0 < top st s p - k0 then ((L.length + 0 : Nat) : Int) else place L (cut st s p k0) := by
      by_cases c : p = []
      · subst c
        have t0 : top st s ([] : List W) = 0 := rfl
        rw [t0] at h0 ⊢
        rw [if_neg (by omega), place_nil, show k0 = 0 by omega, cut_zero, place_nil]
      · obtain ⟨fc, f1⟩ := full (s := s) (hst p List.mem_cons_self c) c
        have pm : p ∈ layL st s L p := (mem_lay h).mpr (.inr ⟨top st s p, f1, Nat.le_refl _, fc.symm⟩)
        rw [place_pre hp1 (.inr pm)]
        by_cases c2 : 0 < top st s p - k0
        · rw [if_pos c2]
          have a2 := at_ 0 c2
          rw [Nat.sub_zero, fc] at a2
          exact place_at h1.nd a2 c
        · rw [if_neg c2, show k0 = top st s p by omega, fc]
          rw [show k0 = top st s p by omega, fc] at lowk
          exact place_pre lay_pre lowk
    have run := down (top st s p - k0) 0 ((undersOf st s F).length - L.length) (by omega) (by rw [hu]; omega)
    rw [← first, Nat.add_zero] at run
    show (if (Wx.runM (undersOf st s F) ((undersOf st s F).length - L.length) L.length (place F p)).2 ≠ -1 ∧ ¬ (0 ≤ (Wx.runM (undersOf st s F) ((undersOf st s F).length - L.length) L.length (place F p)).2 ∧ (Wx.runM (undersOf st s F) ((undersOf st s F).length - L.length) L.length (place F p)).2 < L.length) then none else Wx.numGo (undersOf st s F) (Wx.runM (undersOf st s F) ((undersOf st s F).length - L.length) L.length (place F p)).1 (Ps.map (place F))) = some F.length
    rw [run]
    dsimp only
    rw [if_neg (by omega), ← ll]
    exact ih
end
end Wg

/-! More steps: pairs stored, dict comprehensions over a list, zip. -/
namespace Wz
open PySem PySem.Spec PyProof.Rows L2 Wp Wq Wr
section
variable {σ : L2.St} {H : Hp} {Q : VK} {D : Ends} {ta : TA} {te : TE} {g : TG} {tb : TS} {tt : TT} {tk tv : TE} {vs : List Nat} {K : PySem.W.Frag} {a b : Addr} {xs ys : List V} {i j : Nat}
theorem par (h : ta σ H fun us H1 => ∃ v w, us = [v, w] ∧ D.nx ((σ.set i (some v)).set j (some w)) H1) : tPar i j ta D σ H := h
def LoopD (J : It) (g : TG) (tt : TT) (tk tv : TE) (vs : List Nat) (σ : L2.St) (D : Addr) (Qd : Hp → Prop) (H0 : Hp) : Prop := ∃ W : Nat → Nat → Hp → Prop, (∃ m, W 0 m H0) ∧ ∀ i m H, W i m H →
  (J.stop i H ∧ Qd H) ∨ (J.go i H ∧ ∃ Nx : Hp → Prop, (∀ H', Nx H' → ∃ m', m' < m ∧ W (i + 1) m' H') ∧ ∀ x H', J.yld i H x H' → g x (wipe σ vs) H' fun σ2 H2 => wipe σ2 vs = wipe σ vs ∧ tt σ2 H2 fun b H3 =>
    if b = true then tk σ2 H3 fun y H4 => tv σ2 H4 fun z H5 => ∃ kvs k, y = kV k ∧ H5 D = some (.dK kvs) ∧ kvs.length < sizeLine ∧ Nx (upd H5 D (.dK (putK kvs k z))) else Nx H3)
theorem dcL (h : te σ H fun x H1 => ∃ a, x = .ref a ∧ (∃ xs, SqL K H1 a xs) ∧ ∀ D, H1 D = none → LoopD (Itl K a) g tt tk tv vs σ D (fun H => Q (.ref D) H) (upd H1 D (.dK []))) : tDc (iList K te) g tt tk tv vs σ H Q := h
theorem loopDL {D : Addr} {Qd : Hp → Prop} (Pv : Nat → Hp → Prop) (h0 : Pv 0 H) (hl : ∀ i H, i ≤ xs.length → Pv i H → SqL K H a xs)
    (hs : ∀ i x H, xs[i]? = some x → Pv i H → g x (wipe σ vs) H fun σ2 H2 => wipe σ2 vs = wipe σ vs ∧ tt σ2 H2 fun b H3 =>
      if b = true then tk σ2 H3 fun y H4 => tv σ2 H4 fun z H5 => ∃ kvs k, y = kV k ∧ H5 D = some (.dK kvs) ∧ kvs.length < sizeLine ∧ Pv (i + 1) (upd H5 D (.dK (putK kvs k z))) else Pv (i + 1) H3) (hd : ∀ H, Pv xs.length H → Qd H) : LoopD (Itl K a) g tt tk tv vs σ D Qd H := by
  refine ⟨fun i m H => m = xs.length - i ∧ i ≤ xs.length ∧ Pv i H, ⟨xs.length, by simp, Nat.zero_le _, h0⟩, ?_⟩
  rintro i m H ⟨rfl, hi, p⟩
  have q := hl i H hi p
  by_cases hlt : i < xs.length
  · refine .inr ⟨⟨xs, xs[i], q, by simp [hlt]⟩, Pv (i + 1), fun H' p' => ⟨xs.length - (i + 1), by omega, rfl, hlt, p'⟩, fun x H' y => ?_⟩
    obtain ⟨e, y⟩ := y
    subst e
    exact hs i x _ (y xs q) p
  · have e : i = xs.length := by omega
    subst e
    exact .inl ⟨⟨xs, q, Nat.le_refl _⟩, hd H p⟩
theorem forZ (h : ta σ H fun us H1 => ∃ a b xs ys, us = [.ref a, .ref b] ∧ SqL K H1 a xs ∧ SqL K H1 b ys ∧ Loop (Itz K a b) g tb D σ H1) : tFor (iZip K ta) g tb D σ H := h
theorem loopZ (Pv : Nat → L2.St → Hp → Prop) (el : xs.length = ys.length) (h0 : Pv 0 σ H) (hl : ∀ i σ H, i ≤ xs.length → Pv i σ H → SqL K H a xs ∧ SqL K H b ys)
    (hs : ∀ i x y T σ H, xs[i]? = some x → ys[i]? = some y → Pv i σ H → H T = none → g (.ref T) σ (upd H T (.tup [x, y])) fun σ2 H2 => tb { D with nx := Pv (i + 1), ct := Pv (i + 1), bk := D.nx } σ2 H2) (hd : ∀ σ H, Pv xs.length σ H → D.nx σ H) : Loop (Itz K a b) g tb D σ H := by
  refine ⟨fun i m σ H => m = xs.length - i ∧ i ≤ xs.length ∧ Pv i σ H, ⟨xs.length, by simp, Nat.zero_le _, h0⟩, ?_⟩
  rintro i m σ H ⟨rfl, hi, p⟩
  obtain ⟨q1, q2⟩ := hl i σ H hi p
  by_cases hlt : i < xs.length
  · have hlt2 : i < ys.length := by omega
    refine .inr ⟨⟨xs, ys, xs[i], ys[i], q1, q2, List.getElem?_eq_getElem hlt, List.getElem?_eq_getElem hlt2⟩, Pv (i + 1), fun σ' H' p' => ⟨xs.length - (i + 1), by omega, rfl, hlt, p'⟩, fun x H' y => ?_⟩
    obtain ⟨T, x1, y1, rfl, hT, rfl, e1, e2⟩ := y
    exact hs i x1 y1 T σ H (e1 xs q1) (e2 ys q2) p hT
  · have e : i = xs.length := by omega
    subst e
    exact .inl ⟨⟨xs, ys, q1, q2, .inl (Nat.le_refl _)⟩, hd σ H p⟩
theorem lcR3 {tt : TT} {vs : List Nat} (h : ta σ H fun us H1 => ∃ (i j c : Int) (n : Nat), us = [.int i, .int j, .int c] ∧ RgC i j c n ∧ ∀ D, H1 D = none → LoopC (Itc i c n) g tt te vs σ D (fun H => Q (.ref D) H) (upd H1 D (.lst []))) : tLc (iRng3 ta) g tt te vs σ H Q := h
theorem loopCc {lo c : Int} {n : Nat} {D : Addr} {Qd : Hp → Prop} (Pv : Nat → Hp → Prop) (h0 : Pv 0 H)
    (hs : ∀ i H, i < n → Pv i H → g (.int (lo + i * c)) (wipe σ vs) H fun σ2 H2 => wipe σ2 vs = wipe σ vs ∧ tt σ2 H2 fun b H3 =>
      if b = true then te σ2 H3 fun y H4 => ∃ acc, H4 D = some (.lst acc) ∧ acc.length < sizeLine ∧ Pv (i + 1) (upd H4 D (.lst (acc ++ [y]))) else Pv (i + 1) H3) (hd : ∀ H, Pv n H → Qd H) : LoopC (Itc lo c n) g tt te vs σ D Qd H := by
  refine ⟨fun i m H => m = n - i ∧ i ≤ n ∧ Pv i H, ⟨n, by simp, Nat.zero_le _, h0⟩, ?_⟩
  rintro i m H ⟨rfl, hi, p⟩
  by_cases hlt : i < n
  · refine .inr ⟨hlt, Pv (i + 1), fun H' p' => ⟨n - (i + 1), by omega, rfl, hlt, p'⟩, fun x H' y => ?_⟩
    obtain ⟨e, y⟩ := y
    subst e y
    exact hs i _ hlt p
  · have e : i = n := by omega
    subst e
    exact .inl ⟨Nat.le_refl _, hd H p⟩
theorem forN {P : Program} {w : World} (h : te σ H fun x H1 => ∃ d o es, x = .ref d ∧ Wd.NDictF P w H1 d o es ∧ Loop (Wd.Itn P w d o es) g tb D σ H1) : tFor (Wd.iKeysN P w te) g tb D σ H := h
theorem loopN {P : Program} {w : World} {d : Addr} {o : Obj} {es : List Wd.NE} (Pv : Nat → L2.St → Hp → Prop) (h0 : Pv 0 σ H) (hl : ∀ i σ H, i ≤ es.length → Pv i σ H → Wd.NDictF P w H d o es)
    (hs : ∀ i e σ H, es[i]? = some e → Pv i σ H → g (.ref e.2.1) σ H fun σ2 H2 => tb { D with nx := Pv (i + 1), ct := Pv (i + 1), bk := D.nx } σ2 H2) (hd : ∀ σ H, Pv es.length σ H → D.nx σ H) : Loop (Wd.Itn P w d o es) g tb D σ H := by
  refine ⟨fun i m σ H => m = es.length - i ∧ i ≤ es.length ∧ Pv i σ H, ⟨es.length, by simp, Nat.zero_le _, h0⟩, ?_⟩
  rintro i m σ H ⟨rfl, hi, p⟩
  have q1 := hl i σ H hi p
  by_cases hlt : i < es.length
  · refine .inr ⟨⟨q1, hlt⟩, Pv (i + 1), fun σ' H' p' => ⟨es.length - (i + 1), by omega, rfl, hlt, p'⟩, fun x H' y => ?_⟩
    obtain ⟨rfl, e, he, rfl⟩ := y
    exact hs i e σ H' he p
  · have e : i = es.length := by omega
    subst e
    exact .inl ⟨⟨q1, Nat.le_refl _⟩, hd σ H p⟩
theorem lockN {t : TS} {d : Addr} {u : HO} (h : H d = some u) (m : Mut (some u)) (q : ∀ od, t ⟨fun σ' H' => H' d = some (.frz od u) ∧ D.nx σ' (upd H' d u), fun v H' => H' d = some (.frz od u) ∧ D.rt v (upd H' d u), fun σ' H' => H' d = some (.frz od u) ∧ D.bk σ' (upd H' d u), fun σ' H' => H' d = some (.frz od u) ∧ D.ct σ' (upd H' d u)⟩ σ (upd H d (.frz od u))) : tLock t D σ H := ⟨d, u, h, m, q⟩
end
end Wz

/-! y = {k: v for target in iter}, on one line. -/
namespace Wv
open PySem PySem.Spec PyProof.Rows L2 Wp
section
variable {X : Cx}
theorem sw_dict {kx vx : Expr} {gs : List Comprehension} {sc : Scope} {q py : Pos} {y : Str} {l : Nat} {en : Env} (h1 : en.scope.kind = .function) (h2 : en.scope.names.lookup y = some .local) (h3 : (py.line == q.line) = true)
    (h4 : (sc.names.any fun (n, k) => n == y && (k == .local || k == .cell)) = false) : swapsWith (.DictComp kx vx gs sc q) (some (.Name y py)) l en = pure true := by
  have e1 : en.kindOf y = some .local := h2
  have e2 : en.blockKind = .function := by
    unfold Env.blockKind
    rw [h1] <;> rfl
  unfold swapsWith
  simp only [e2, e1, h4, Expr.pos, h3] <;> rfl
theorem ps_setDc {i : Nat} {y : Str} {py : Pos} {kx vx tg it : Expr} {ifs : List Expr} {sc : Scope} {own : List (Str × Nat)} {q sq : Pos} {wi : TI} {g : TG} {tt : TT} {tk tv : TE} (hc : X.calm = true) (hN : X.N.Nodup) (hy : X.N[i]? = some y) (hl : X.env.scope.names.lookup y = some .local)
    (sw : swapsWith (.DictComp kx vx [⟨tg, it, ifs, 0⟩] sc q) (some (.Name y py)) sq.line X.env = pure true) (hi : PI X tg it wi) (ok : BlkOk X.N X.env.scope sc own)
    (hg : ∀ (s : Shared) (H : Hp) (C : Addr) (cl : List (Str × Addr)) (fp : List Addr), PG (X.blk s H sc (compEnvC sc cl C X.env) fp) tg g)
    (ht : ∀ (s : Shared) (H : Hp) (C : Addr) (cl : List (Str × Addr)) (fp : List Addr), PTs (X.blk s H sc (compEnvC sc cl C X.env) fp) ifs tt)
    (hk : ∀ (s : Shared) (H : Hp) (C : Addr) (cl : List (Str × Addr)) (fp : List Addr), PE (X.blk s H sc (compEnvC sc cl C X.env) fp) kx tk)
    (he : ∀ (s : Shared) (H : Hp) (C : Addr) (cl : List (Str × Addr)) (fp : List Addr), PE (X.blk s H sc (compEnvC sc cl C X.env) fp) vx tv) (hs : ∀ x, foldedSetIterable it X.env x = pure x := by intro _; rfl) :
    PS X (.Assign [.Name y py] (.DictComp kx vx [⟨tg, it, ifs, 0⟩] sc q) sq) (tAsg (tDc wi g tt tk tv (own.map (·.2))) (gName i)) := by
  refine ⟨fun pins s σ H D I w0 => ?_⟩
  have w1 : tDc wi g tt tk tv (own.map (·.2)) σ H (fun x H1 => gName i x σ H1 D.nx) := w0
  rw [exec_Assign_Name_used _ _ _ _ sw]
  refine (wpAny_bind (wpAny_standAt (wpAny_bind (wpAny_bind (thn (dc_core (Qf := fun _ s2 => SP X pins D .next s2) hc hN I hi ok hg ht hk he hs w1 fun L C s2 m H2 I2 q2 hn f => ?_) fun _ s3 z => wpAny_pure (wpAny_pure z))))))
  refine wpAny_assign_Name (store_ok2 (v := V.ref L) I2 hN hy (.inl hl) rfl (fun s3 I3 ⟨a, sb, ha⟩ => ?_) (.inr hl))
  obtain ⟨n0, n1, n2, n3, n4, n5⟩ := f
  have ne : C ≠ a := ha.elim (fun z => by rw [z]; exact n1) (fun z e => n4 y a z e.symm)
  exact ⟨m, hn.sameBut sb ne, fun h4 sb4 => ⟨_, H2, I3.turned (t' := s3.toks) (fun b o hb e => (sb4.2 b hb).trans e) n0 n1 n3 n4 n5, q2⟩⟩
end
end Wv

/-! The tight paper over the heap: what its defs hand to one another. -/
namespace Wy
open PySem PySem.Spec PyProof.Rows L2 Wp Wq Wr Wk Wg
theorem at_end {xs : List V} {y : V} : atI (xs ++ [y]) (-1) = some y := by
  unfold atI ixN
  have hl : (xs ++ [y]).length = xs.length + 1 := by rw [List.length_append] <;> rfl
  rw [if_neg (by decide), if_pos (by rw [hl]; omega), hl]
  show (xs ++ [y])[(-1 + ((xs.length + 1 : Nat) : Int)).toNat]? = _
  rw [show (-1 + ((xs.length + 1 : Nat) : Int)).toNat = xs.length by omega, List.getElem?_append_right (Nat.le_refl _), Nat.sub_self] <;> rfl
/-- the numbers of a pile's beginnings, none to j worths -/
def pathU (T : List (List W)) (p : List W) (j : Nat) : List V := (List.range (j + 1)).map fun h => V.int ((numOf T (p.take h) : Nat) : Int)
def pathV (T : List (List W)) (p : List W) : List V := pathU T p p.length
theorem pathU_succ {T : List (List W)} {p : List W} {j : Nat} : pathU T p (j + 1) = pathU T p j ++ [V.int ((numOf T (p.take (j + 1)) : Nat) : Int)] := by
  unfold pathU
  rw [List.range_succ, List.map_append] <;> rfl
theorem pathU_last {T : List (List W)} {p : List W} {j : Nat} : atI (pathU T p j) (-1) = some (V.int ((numOf T (p.take j) : Nat) : Int)) := by
  cases j with
  | zero => exact at_end (xs := [])
  | succ j => rw [pathU_succ]; exact at_end
theorem pathV_last {T : List (List W)} {p : List W} : atI (pathV T p) (-1) = some (V.int ((numOf T p : Nat) : Int)) := by
  have := pathU_last (T := T) (p := p) (j := p.length)
  rw [List.take_length] at this
  exact this
theorem pathV_len {T : List (List W)} {p : List W} : (pathV T p).length = p.length + 1 := by unfold pathV pathU; rw [List.length_map, List.length_range]
theorem pathV_at {T : List (List W)} {p : List W} {h : Nat} (hh : h ≤ p.length) : (pathV T p)[h]? = some (V.int ((numOf T (p.take h) : Nat) : Int)) := by
  unfold pathV pathU
  rw [List.getElem?_map, List.getElem?_range (by omega)] <;> rfl
/-- a stop: a pile, or two go on from it -/
def stB (T : List (List W)) (Ps : List (List W)) (q : List W) : Bool := decide (q ∈ Ps) || decide (2 ≤ (T.filter fun x => decide (x.dropLast = q)).length)
def IsPath (T : List (List W)) (H : Hp) (v : V) (p : List W) : Prop := ∃ r, v = .ref r ∧ H r = some (.lst (pathV T p))
def Within (T : List (List W)) (p : List W) : Prop := ∀ h, p.take h = [] ∨ p.take h ∈ T
theorem within_trie {Ps : List (List W)} {p : List W} (hp : p ∈ Ps) : Within (trie Ps) p := by
  intro h
  by_cases c : p.take h = []
  · exact .inl c
  · right
    rw [mem_trie]
    have hl : 1 ≤ (p.take h).length := List.length_pos_iff.mpr c
    rw [List.length_take] at hl
    refine ⟨p, hp, min h p.length - 1, by omega, ?_⟩
    rw [show min h p.length - 1 + 1 = min h p.length by omega]
    by_cases e : h ≤ p.length
    · rw [Nat.min_eq_left e]
    · rw [Nat.min_eq_right (by omega), List.take_length, List.take_of_length_le (by omega)]
/-- the places: none at -1, what is laid at its number -/
def Places (T L : List (List W)) (kvs : List (Key × V)) : Prop := kvs.length = L.length + 1 ∧ ∀ q, (q = [] ∨ q ∈ T) → valV kvs (.inl ((numOf T q : Nat) : Int)) = if q = [] ∨ q ∈ L then some (.int (place L q)) else none
theorem Places.new {T : List (List W)} (h : TOk T) : Places T [] [(.inl 0, .int (-1))] := by
  refine ⟨rfl, fun q hq => ?_⟩
  by_cases c : q = []
  · subst c
    rw [numOf_nil, if_pos (.inl rfl), place_nil]
    exact valV_pos rfl
  · rw [if_neg (by rintro (e | e); exact c e; cases e), numOf_mem c]
    rw [valV_neg (by
      intro e
      have := Sum.inl.inj e
      omega)]
    rfl
theorem Places.put {T L : List (List W)} {kvs : List (Key × V)} (h : Places T L kvs) {q : List W} (hq : q ∈ T) (hT : TOk T) (hL : ∀ x ∈ L, x ∈ T) (n : q ∉ L) : Places T (L ++ [q]) (putK kvs (.inl ((numOf T q : Nat) : Int)) (.int ((kvs.length : Nat) - 1 : Int))) := by
  have qn := hT.ne q hq
  have old := h.2 q (.inr hq)
  rw [if_neg (by rintro (e | e); exact qn e; exact n e)] at old
  refine ⟨?_, fun x hx => ?_⟩
  · rw [putK_new _ old, List.length_append, List.length_append, h.1] <;> rfl
  · rw [valV_put]
    by_cases c : x = q
    · subst c
      rw [if_pos rfl, if_pos (.inr (List.mem_append_right _ List.mem_cons_self)), place_mem qn, List.idxOf_append, if_neg n, h.1]
      congr 2
      simp
    · have ne : ¬ (Sum.inl ((numOf T x : Nat) : Int) : Key) = .inl ((numOf T q : Nat) : Int) := fun e => by
        have e1 := Sum.inl.inj e
        exact c (numOf_inj hx (.inr hq) (by omega))
      rw [if_neg ne, h.2 x hx]
      by_cases m : x = [] ∨ x ∈ L
      · rw [if_pos m, if_pos (m.imp id fun m => List.mem_append_left _ m), place_pre (List.prefix_append _ _) m]
      · rw [if_neg m, if_neg]
        rintro (e | e)
        · exact m (.inl e)
        · rcases List.mem_append.mp e with e | e
          · exact m (.inr e)
          · exact c (List.mem_singleton.mp e)
/-- no two pieces have one list, and each list is new to H0 -/
def Dist (H0 H : Hp) (xs : List V) : Prop := (∀ (i j : Nat) (ti tj li lj : Addr) (u v : V), i ≠ j → xs[i]? = some (.ref ti) → xs[j]? = some (.ref tj) → H ti = some (.tup [u, .ref li]) → H tj = some (.tup [v, .ref lj]) → li ≠ lj) ∧
  ∀ (i : Nat) (ti li : Addr) (u : V), xs[i]? = some (.ref ti) → H ti = some (.tup [u, .ref li]) → H0 li = none
theorem Dist.nil {H0 H : Hp} : Dist H0 H [] := ⟨(fun i _ _ _ _ _ _ _ _ h => by cases i <;> cases h), (fun i _ _ _ h => by cases i <;> cases h)⟩
/-- what every def keeps of a list of pieces -/
theorem Dist.keep {S : List Addr} {H0 H H' : Hp} {xs : List V} {R : List Pc} (h : Dist H0 H xs) (p : Pieces S H xs R) (k : Tk H H') : Dist H0 H' xs := by
  have back : ∀ {i : Nat} {t l : Addr} {u : V}, xs[i]? = some (.ref t) → H' t = some (.tup [u, .ref l]) → H t = some (.tup [u, .ref l]) := by
    intro i t l u hi ht
    obtain ⟨y, _, t', l', vs, e, h1, _⟩ := pair_at1 p hi
    cases e
    have := k _ _ h1
    rw [ht] at this
    cases this
    exact h1
  exact ⟨fun i j ti tj li lj u v n hi hj h1 h2 => h.1 i j ti tj li lj u v n hi hj (back hi h1) (back hj h2), fun i ti li u hi h1 => h.2 i ti li u hi (back hi h1)⟩
theorem Dist.app {S : List Addr} {H0 H : Hp} {xs : List V} {R : List Pc} {t l : Addr} {u : V} (h : Dist H0 H xs) (p : Pieces S H xs R) (ht : H t = some (.tup [u, .ref l])) (new : H0 l = none)
    (fresh : ∀ (i : Nat) (ti li : Addr) (v : V), xs[i]? = some (.ref ti) → H ti = some (.tup [v, .ref li]) → li ≠ l) : Dist H0 H (xs ++ [.ref t]) := by
  have cases_ : ∀ {i : Nat} {y : V}, (xs ++ [.ref t])[i]? = some y → xs[i]? = some y ∨ (i = xs.length ∧ y = .ref t) := fun h => get_app1 h
  refine ⟨fun i j ti tj li lj v w n hi hj h1 h2 => ?_, fun i ti li v hi h1 => ?_⟩
  · rcases cases_ hi with hi | ⟨ei, e1⟩ <;> rcases cases_ hj with hj | ⟨ej, e2⟩
    · exact h.1 i j ti tj li lj v w n hi hj h1 h2
    · cases e2
      rw [ht] at h2
      cases h2
      exact fresh i ti li v hi h1
    · cases e1
      rw [ht] at h1
      cases h1
      exact (fresh j tj lj w hj h2).symm
    · exact absurd (ei.trans ej.symm) n
  · rcases cases_ hi with hi | ⟨ei, e1⟩
    · exact h.2 i ti li v hi h1
    · cases e1
      rw [ht] at h1
      cases h1
      exact new
theorem E_len {st : List W → Bool} {s : Nat} {p : List W} : ∀ h, (E st s p h).length ≤ h + 1
  | 0 => Nat.le_refl _
  | h + 1 => by
    have ih := E_len (st := st) (s := s) (p := p) h
    rcases E_succ (st := st) (s := s) (p := p) h with e | e
    · rw [e, List.length_append, List.length_singleton]; omega
    · rw [e]; omega
theorem stB_pile {T Ps : List (List W)} {p : List W} (h : p ∈ Ps) : stB T Ps p = true := by
  unfold stB
  rw [decide_eq_true h, Bool.true_or]
theorem tight_mem {st : List W → Bool} {s : Nat} : ∀ {Ps L : List (List W)} {p : List W}, LOk st s L → p ∈ Ps → p ≠ [] → st p = true → p ∈ tightL st s Ps L
  | q :: Ps, L, p, h, hp, hn, hs => by
    show p ∈ tightL st s Ps (layL st s L q)
    rcases List.mem_cons.mp hp with e | e
    · subst e
      obtain ⟨fc, f1⟩ := full (s := s) hs hn
      exact (tight_pre (Ps := Ps)).subset ((mem_lay h).mpr (.inr ⟨_, f1, Nat.le_refl _, fc.symm⟩))
    · exact tight_mem (lay_ok h q) e hn hs
theorem tight_in {st : List W → Bool} {s : Nat} {T : List (List W)} : ∀ {Ps L : List (List W)}, LOk st s L → (∀ q ∈ L, q ∈ T) → (∀ p ∈ Ps, Within T p) → ∀ q ∈ tightL st s Ps L, q ∈ T
  | [], L, _, h, _ => h
  | p :: Ps, L, hl, h, hw => by
    show ∀ q ∈ tightL st s Ps (layL st s L p), q ∈ T
    refine tight_in (lay_ok hl p) (fun q hq => ?_) (fun x hx => hw x (List.mem_cons_of_mem _ hx))
    rcases (mem_lay hl).mp hq with m | ⟨k, k1, k2, rfl⟩
    · exact h q m
    · exact (hw p List.mem_cons_self _).resolve_left (cut_ne k1 k2)
theorem tight_snoc {st : List W → Bool} {s : Nat} {Ps : List (List W)} {p : List W} : tightL st s (Ps ++ [p]) [] = layL st s (tightL st s Ps []) p := by
  unfold tightL
  rw [List.foldl_append] <;> rfl
/-- the tight paper of a list of piles -/
def stT (Ps : List (List W)) : List W → Bool := stB (trie Ps) Ps
def tL (s : Nat) (Ps : List (List W)) : List (List W) := tightL (stT Ps) s Ps []
def tPap (s : Nat) (Ps : List (List W)) : Pap := (piecesOf (stT Ps) s (tL s Ps), Ps.map (place (tL s Ps)))
end Wy

/-! A paper's clauses. -/
namespace Wj
open PySem PySem.Spec PyProof.Rows L2 Wp Wq Wr Wn Wm
def leadsM (P : Pap) : List Int := P.1.map (·.1) ++ P.2
def us (P : Pap) : List Int := P.1.map (·.1)
theorem us_len {P : Pap} : (us P).length = P.1.length := List.length_map ..
theorem us_at {P : Pap} {i : Nat} {p : Pc} (h : P.1[i]? = some p) : Wx.uAt (us P) (i : Int) = p.1 := by
  unfold Wx.uAt us
  rw [show ((i : Int)).toNat = i from Int.toNat_natCast i, List.getD_eq_getElem?_getD, List.getElem?_map, h] <;> rfl
def okLen (s : Int) (p : Pc) : Bool := if (1 : Int) ≤ (p.2.length : Int) then decide ((p.2.length : Int) ≤ s) else false
def isPaperB (s : Int) (P : Pap) : Bool := (P.1.map (okLen s)).all id && Wx.numdM (us P) P.2
def badPc (n s : Int) (p : Pc) : Prop := p.1 < -1 ∨ p.1 ≥ n ∨ (p.2.length : Int) < 1 ∨ (p.2.length : Int) > s
def stray (o : List Int) : List Int := o.filter fun a => decide ((o.idxOf a : Int) ≠ a)
def rightB (s : Int) (P : Pap) : Prop := (∀ p ∈ P.1, ¬ badPc P.1.length s p) ∧ ∃ o, Wx.rightGo (us P) [] P.2 = some o ∧ stray o = [] ∧ o.length = P.1.length
theorem add_nd : ∀ (l o : List Int), o.Nodup → (Wx.addM o l).Nodup
  | [], _, h => h
  | x :: l, o, h => by
    show (Wx.addM (if x ∈ o then o else o ++ [x]) l).Nodup
    by_cases c : x ∈ o
    · rw [if_pos c]; exact add_nd l o h
    · rw [if_neg c]
      refine add_nd l _ ?_
      rw [List.nodup_append]
      refine ⟨h, List.nodup_cons.mpr ⟨List.not_mem_nil, List.nodup_nil⟩, fun a ha b hb e => ?_⟩
      rw [List.mem_singleton.mp hb] at e
      exact c (e ▸ ha)
theorem go_nd {u : List Int} : ∀ (ts o e : List Int), o.Nodup → Wx.rightGo u o ts = some e → e.Nodup
  | [], o, e, h, q => by
    have : o = e := Option.some.inj q
    rw [← this]; exact h
  | t :: ts, o, e, h, q => by
    have q' : (if t < -1 ∨ t ≥ u.length then none else if (Wx.rowM u u.length t).getLast? ≠ some (-1) then none else Wx.rightGo u (Wx.addM o (Wx.rowM u u.length t).dropLast) ts) = some e := q
    by_cases c1 : t < -1 ∨ t ≥ u.length
    · rw [if_pos c1] at q'; cases q'
    rw [if_neg c1] at q'
    by_cases c2 : (Wx.rowM u u.length t).getLast? ≠ some (-1)
    · rw [if_pos c2] at q'; cases q'
    rw [if_neg c2] at q'
    exact go_nd ts _ e (add_nd _ _ h) q'
theorem idx_nd : ∀ (o : List Int) (i : Nat) (a : Int), o.Nodup → o[i]? = some a → o.idxOf a = i
  | [], i, a, _, h => by cases h
  | b :: o, 0, a, _, h => by cases h; exact List.idxOf_cons_self
  | b :: o, i + 1, a, nd, h => by
    have h' : o[i]? = some a := h
    have nb : b ≠ a := fun e => (List.nodup_cons.mp nd).1 (e ▸ List.mem_of_getElem? h')
    rw [List.idxOf_cons, show (b == a) = false by simpa using nb]
    show o.idxOf a + 1 = i + 1
    rw [idx_nd o i a (List.nodup_cons.mp nd).2 h']
theorem stray_rng {n : Nat} : stray (Wx.rng n) = [] := by
  unfold stray
  rw [List.filter_eq_nil_iff]
  intro a ha
  have h := Wx.rng_mem.mp ha
  have nd : (Wx.rng n).Nodup := by
    unfold Wx.rng List.Nodup
    rw [List.pairwise_map]
    exact List.Pairwise.imp (fun h e => h (by omega)) List.nodup_range
  have := idx_nd (Wx.rng n) a.toNat a nd (by rw [Wx.rng_at (by omega), show ((a.toNat : Nat) : Int) = a by omega])
  rw [this]
  simp only [decide_eq_true_eq]
  omega
theorem rng_stray {o : List Int} (nd : o.Nodup) (h : stray o = []) : o = Wx.rng o.length := by
  unfold stray at h
  rw [List.filter_eq_nil_iff] at h
  apply List.ext_getElem?
  intro i
  by_cases c : i < o.length
  · have e : o[i]? = some o[i] := List.getElem?_eq_getElem c
    have h1 := h o[i] (List.getElem_mem c)
    rw [idx_nd o i _ nd e] at h1
    simp only [decide_eq_true_eq] at h1
    rw [e, Wx.rng_at c, Classical.not_not.mp h1]
  · rw [List.getElem?_eq_none (by omega), List.getElem?_eq_none (by rw [Wx.rng_len]; omega)]
theorem paper_right {s : Int} {P : Pap} : isPaperB s P = true ↔ rightB s P := by
  unfold isPaperB rightB
  rw [Bool.and_eq_true]
  constructor
  · rintro ⟨h1, h2⟩
    obtain ⟨hr, hg⟩ := Wx.yes_right h2
    rw [us_len] at hg
    refine ⟨fun p hp => ?_, _, hg, stray_rng, Wx.rng_len⟩
    have hu := hr p.1 (List.mem_map.mpr ⟨p, hp, rfl⟩)
    rw [us_len] at hu
    have hl : okLen s p = true := by
      rw [List.all_eq_true] at h1
      exact h1 _ (List.mem_map.mpr ⟨p, hp, rfl⟩)
    unfold okLen at hl
    by_cases c : (1 : Int) ≤ (p.2.length : Int)
    · rw [if_pos c] at hl
      have := of_decide_eq_true hl
      unfold badPc
      omega
    · rw [if_neg c] at hl; cases hl
  · rintro ⟨h1, o, hg, hs, hl⟩
    have ho := rng_stray (go_nd _ _ _ List.nodup_nil hg) hs
    have hr : Wx.inR (us P) := by
      intro a ha
      obtain ⟨p, hp, rfl⟩ := List.mem_map.mp ha
      have := h1 p hp
      unfold badPc at this
      rw [us_len]
      omega
    refine ⟨?_, Wx.right_yes hr (by rw [hg, us_len, ← hl]; exact congrArg some ho)⟩
    rw [List.all_eq_true]
    intro b hb
    obtain ⟨p, hp, rfl⟩ := List.mem_map.mp hb
    have := h1 p hp
    unfold badPc at this
    show okLen s p = true
    unfold okLen
    rw [if_pos (by omega)]
    exact decide_eq_true (by omega)
theorem ents_put {o : List Int} {a : Int} (n : a ∉ o) : putK (ents 0 o) (.inl a) (.int o.length) = ents 0 (o ++ [a]) := by
  have h : ((ents 0 o).any fun kv => decide (kv.1 = (Sum.inl a : Key))) = false := by
    rw [List.any_eq_false]
    intro kv hkv
    rw [decide_eq_true_eq]
    intro e
    have hv : valV (ents 0 o) (.inl a) = none := by rw [ents_val, if_neg n]
    unfold valV at hv
    have hf : (ents 0 o).find? (fun kv => decide (kv.1 = (Sum.inl a : Key))) = none := by
      cases q : (ents 0 o).find? (fun kv => decide (kv.1 = (Sum.inl a : Key))) with
      | none => rfl
      | some x => rw [q] at hv; cases hv
    exact List.find?_eq_none.mp hf kv hkv (decide_eq_true e)
  unfold putK
  rw [h, if_neg Bool.false_ne_true]
  have := ents_app a 0 o
  rw [Nat.zero_add] at this
  exact this
theorem ents_at : ∀ (i j : Nat) (o : List Int) (k : Key) (v : V), (ents i o)[j]? = some (k, v) → ∃ a, o[j]? = some a ∧ k = .inl a
  | i, _, [], k, v, h => by cases h
  | i, 0, b :: o, k, v, h => by cases h; exact ⟨b, rfl, rfl⟩
  | i, j + 1, b :: o, k, v, h => ents_at (i + 1) j o k v h
theorem at_last {pre : List Int} {a : Int} : atI ((pre ++ [a]).map V.int) (-1) = some (.int a) := by
  unfold atI ixN
  have hl : ((pre ++ [a]).map V.int).length = pre.length + 1 := by rw [List.length_map, List.length_append] <;> rfl
  rw [if_neg (by decide), if_pos (by rw [hl]; omega), hl]
  show ((pre ++ [a]).map V.int)[(-1 + ((pre.length + 1 : Nat) : Int)).toNat]? = _
  rw [show (-1 + ((pre.length + 1 : Nat) : Int)).toNat = pre.length by omega, List.map_append, List.getElem?_append_right (by rw [List.length_map]; exact Nat.le_refl _), List.length_map, Nat.sub_self] <;> rfl
theorem cut_last {pre : List Int} {a : Int} : cutV ((pre ++ [a]).map V.int) none (some (-1)) = pre.map V.int := by
  unfold cutV
  have hl : ((pre ++ [a]).map V.int).length = pre.length + 1 := by rw [List.length_map, List.length_append] <;> rfl
  rw [hl, show HT.sIx (pre.length + 1) 0 none = 0 from rfl, show HT.sIx (pre.length + 1) (pre.length + 1) (some (-1)) = pre.length by
    show (if (-1 : Int) < 0 then ((-1 : Int) + ((pre.length + 1 : Nat) : Int)).toNat else min (-1 : Int).toNat (pre.length + 1)) = _
    rw [if_pos (by decide)]
    omega]
  rw [List.drop_zero, Nat.sub_zero, List.map_append, List.take_append_of_le_length (by rw [List.length_map]; exact Nat.le_refl _), List.take_of_length_le (by rw [List.length_map]; exact Nat.le_refl _)]
theorem eqv_nil (ns : List Int) : PyData.eqv (.list (ns.map PyData.int)) (.list []) = decide (ns = []) := by
  cases ns with
  | nil => simp [PyData.eqv, PyData.eqvAll]
  | cons x r => simp [PyData.eqv, PyData.eqvAll]
def stray1 (o l : List Int) : List Int := l.filter fun a => decide ((o.idxOf a : Int) ≠ a)
theorem row_stop {u : List Int} {F : Nat} {a : Int} (h : F = 0 ∨ a = -1) : Wx.rowM u F a = [a] := by
  rcases h with rfl | rfl
  · rfl
  · exact Wx.row_nil
end Wj

/-! The tight paper is right. -/
namespace Wi
open PySem PySem.Spec PyProof.Rows L2 Wp Wq Wr Wk Wg Wy
theorem tok {s : Nat} {Ps : List (List W)} : LOk (stT Ps) s (tL s Ps) := tight_ok LOk.nil
theorem tl_len {s : Nat} {Ps : List (List W)} (l61 : Ps.length ≤ 61) (l400 : ∀ q ∈ Ps, q.length ≤ 400) : (tPap s Ps).1.length ≤ 24400 ∧ (tL s Ps).length ≤ 24400 := by
  have h0 : (tPap s Ps).1.length = (tL s Ps).length := by unfold tPap piecesOf; rw [List.length_map]
  have h1 := (tok (s := s) (Ps := Ps)).nd.length_le_of_subset (tight_in LOk.nil (fun _ h => nomatch h) fun p hp => within_trie hp)
  have h2 := trie_size (ps := Ps) (T := []) (m := 400) l400
  have h3 : (trie Ps).length ≤ [].length + Ps.length * 400 := h2
  have h4 : Ps.length * 400 ≤ 61 * 400 := Nat.mul_le_mul_right _ l61
  rw [List.length_nil] at h3
  omega
theorem mem_pile {s : Nat} {Ps : List (List W)} {p : List W} (h : p ∈ Ps) : p = [] ∨ p ∈ tL s Ps := by
  by_cases c : p = []
  · exact .inl c
  · exact .inr (tight_mem LOk.nil h c (stB_pile h))
theorem pap_right {s : Nat} {Ps : List (List W)} (hs : 1 ≤ s) : Wj.isPaperB (s : Int) (tPap s Ps) = true := by
  unfold Wj.isPaperB
  rw [Bool.and_eq_true]
  constructor
  · rw [List.all_eq_true]
    intro b hb
    obtain ⟨pc, hpc, rfl⟩ := List.mem_map.mp hb
    obtain ⟨q, hq, rfl⟩ := List.mem_map.mp hpc
    obtain ⟨r, e1, e2, h1, h2⟩ := low_pre ((tok (s := s) (Ps := Ps)).ic q hq)
    have el : (pieceOf (stT Ps) s (tL s Ps) q).2 = r := e2
    show Wj.okLen s (pieceOf (stT Ps) s (tL s Ps) q) = true
    unfold Wj.okLen
    rw [el, if_pos (by omega), decide_eq_true_eq]
    have := h2 hs
    omega
  · have h := numbered (st := stT Ps) (s := s) Ps [] LOk.nil fun p hp _ => stB_pile hp
    have eu : Wj.us (tPap s Ps) = undersOf (stT Ps) s (tL s Ps) := rfl
    unfold Wx.numdM
    rw [eu]
    have h' : Wx.numGo (undersOf (stT Ps) s (tL s Ps)) 0 (tPap s Ps).2 = some (tL s Ps).length := h
    rw [h']
    show decide _ = true
    rw [decide_eq_true_eq, unders_len]
theorem opens_pile {s : Nat} {Ps : List (List W)} {k : Nat} {p : List W} (h : Ps[k]? = some p) : ∃ n, n ≤ p.length ∧ Wo.OpensN (tPap s Ps).1 n (place (tL s Ps) p) p :=
  opens tok (mem_pile (List.mem_of_getElem? h))
theorem tops_at {s : Nat} {Ps : List (List W)} {k : Nat} {p : List W} (h : Ps[k]? = some p) : (tPap s Ps).2[k]? = some (place (tL s Ps) p) := by
  unfold tPap
  rw [List.getElem?_map, h] <;> rfl
theorem piece_ok {s : Nat} {Ps : List (List W)} (ok : ∀ q ∈ Ps, ∀ z ∈ q, Wok z) : ∀ pc ∈ (tPap s Ps).1, ∀ z ∈ pc.2, Wok z := by
  intro pc hpc z hz
  obtain ⟨q, hq, rfl⟩ := List.mem_map.mp hpc
  have hT := tight_in (T := trie Ps) LOk.nil (fun _ h => nomatch h) (fun p hp => within_trie hp) q hq
  obtain ⟨p, hp, n, _, rfl⟩ := mem_trie.mp hT
  exact ok p hp z (List.mem_of_mem_take (List.mem_of_mem_drop (show z ∈ (p.take (n + 1)).drop _ from hz)))
end Wi

namespace K10
open PySem PySem.Spec PyProof.Rows L2 Wp Wq Wr Wb
/-! ### the text by places -/
def topS (i : Nat) : Stmt := PySem.Challenge.pw_manygoings_k10_tight_papers_lay_open.main.body.getD i (.Pass ⟨0, 0, 0, 0⟩)
abbrev s_is_number : Stmt := topS 4
abbrev s_check_size : Stmt := topS 9
abbrev s_beginnings_of : Stmt := topS 10
abbrev s_path_of : Stmt := topS 12
abbrev s_stops_of : Stmt := topS 13
abbrev s_edges_of : Stmt := topS 14
abbrev s_lay : Stmt := topS 15
abbrev s_tight : Stmt := topS 16
abbrev s_cell_at : Stmt := topS 18
abbrev s_bag : Stmt := topS 19
abbrev s_draw : Stmt := topS 20
abbrev s_worth : Stmt := topS 21
abbrev s_whole : Stmt := topS 22
abbrev s_size : Stmt := topS 23
abbrev s_many_piles : Stmt := topS 24
abbrev s_piles : Stmt := topS 25
abbrev s_right : Stmt := topS 26
abbrev s_worths_all : Stmt := topS 27
abbrev s_form : Stmt := topS 28
abbrev s_open : Stmt := topS 29
abbrev s_good : Stmt := topS 30
abbrev s_law : Stmt := topS 31
theorem sc_is_number : FnScope ["thing"] ["thing"] (defScope s_is_number) := ⟨rfl, rfl, rfl, by decide +kernel, rfl, by decide +kernel, by decide +kernel⟩
theorem sc_check_size : FnScope ["size"] ["size"] (defScope s_check_size) := ⟨rfl, rfl, rfl, by decide +kernel, rfl, by decide +kernel, by decide +kernel⟩
theorem sc_beginnings_of : FnScope ["piles", "numbers", "pile", "at", "worth"] ["piles"] (defScope s_beginnings_of) := ⟨rfl, rfl, rfl, by decide +kernel, rfl, by decide +kernel, by decide +kernel⟩
theorem sc_path_of : FnScope ["numbers", "pile", "path", "worth"] ["numbers", "pile"] (defScope s_path_of) := ⟨rfl, rfl, rfl, by decide +kernel, rfl, by decide +kernel, by decide +kernel⟩
theorem sc_stops_of : FnScope ["numbers", "paths", "stops", "followed", "under", "_", "path"] ["numbers", "paths"] (defScope s_stops_of) := ⟨rfl, rfl, rfl, by decide +kernel, rfl, by decide +kernel, by decide +kernel⟩
theorem sc_edges_of : FnScope ["size", "path", "stops", "edges", "height"] ["size", "path", "stops"] (defScope s_edges_of) := ⟨rfl, rfl, rfl, by decide +kernel, rfl, by decide +kernel, by decide +kernel⟩
theorem sc_lay : FnScope ["pieces", "places", "pile", "path", "edges", "k", "fresh", "low", "high"] ["pieces", "places", "pile", "path", "edges"] (defScope s_lay) := ⟨rfl, rfl, rfl, by decide +kernel, rfl, by decide +kernel, by decide +kernel⟩
theorem sc_tight : FnScope ["size", "piles", "numbers", "pile", "paths", "stops", "pieces", "places", "path"] ["size", "piles"] (defScope s_tight) := ⟨rfl, rfl, rfl, by decide +kernel, rfl, by decide +kernel, by decide +kernel⟩
theorem sc_cell_at : FnScope ["script", "k"] ["script", "k"] (defScope s_cell_at) := ⟨rfl, rfl, rfl, by decide +kernel, rfl, by decide +kernel, by decide +kernel⟩
theorem sc_bag : FnScope ["cell", "place"] ["cell", "place"] (defScope s_bag) := ⟨rfl, rfl, rfl, by decide +kernel, rfl, by decide +kernel, by decide +kernel⟩
theorem sc_draw : FnScope ["bag", "many", "found", "mixed"] ["bag", "many"] (defScope s_draw) := ⟨rfl, rfl, rfl, by decide +kernel, rfl, by decide +kernel, by decide +kernel⟩
theorem sc_worth : FnScope ["bag", "few", "at", "word", "number", "k"] ["bag", "few"] (defScope s_worth) := ⟨rfl, rfl, rfl, by decide +kernel, rfl, by decide +kernel, by decide +kernel⟩
theorem sc_whole : FnScope ["found"] ["found"] (defScope s_whole) := ⟨rfl, rfl, rfl, by decide +kernel, rfl, by decide +kernel, by decide +kernel⟩
theorem sc_size : FnScope ["bag"] ["bag"] (defScope s_size) := ⟨rfl, rfl, rfl, by decide +kernel, rfl, by decide +kernel, by decide +kernel⟩
theorem sc_many_piles : FnScope ["bag", "k", "base", "kinds", "piles", "upto", "more", "j"] ["bag"] (defScope s_many_piles) := ⟨rfl, rfl, rfl, by decide +kernel, rfl, by decide +kernel, by decide +kernel⟩
theorem sc_piles : FnScope ["bag", "great", "few", "many", "most", "piles", "k", "begun", "pile", "old", "j"] ["bag"] (defScope s_piles) := ⟨rfl, rfl, rfl, by decide +kernel, rfl, by decide +kernel, by decide +kernel⟩
theorem sc_right : FnScope ["size", "pieces", "tops", "many", "under", "worths", "came", "top", "row", "at"] ["size", "pieces", "tops"] (defScope s_right) := ⟨rfl, rfl, rfl, by decide +kernel, rfl, by decide +kernel, by decide +kernel⟩
theorem sc_worths_all : FnScope ["found", "worth"] ["found"] (defScope s_worths_all) := ⟨rfl, rfl, rfl, by decide +kernel, rfl, by decide +kernel, by decide +kernel⟩
theorem sc_form : FnScope ["found", "piece", "top"] ["found"] (defScope s_form) := ⟨rfl, rfl, rfl, by decide +kernel, rfl, by decide +kernel, by decide +kernel⟩
theorem sc_open : FnScope ["pieces", "top", "row", "at", "pile"] ["pieces", "top"] (defScope s_open) := ⟨rfl, rfl, rfl, by decide +kernel, rfl, by decide +kernel, by decide +kernel⟩
theorem sc_good : FnScope ["size", "piles", "handed", "found", "pieces", "tops", "k", "under", "worths", "copy", "pile"] ["size", "piles"] (defScope s_good) := ⟨rfl, rfl, rfl, by decide +kernel, rfl, by decide +kernel, by decide +kernel⟩
theorem sc_law : FnScope ["script", "k", "bag", "size"] ["script"] (defScope s_law) := ⟨rfl, rfl, rfl, by decide +kernel, rfl, by decide +kernel, by decide +kernel⟩
/-! ### the facts of the top -/
structure Txt (P : Program) (w : World) (K : PySem.W.Frag) (mg : Str → Option Value) where
  f_is_number : Addr
  fd_is_number : FuncData
  F_is_number : Fun K "is_number" "is_number" s_is_number f_is_number fd_is_number
  b_is_number : Binds K fd_is_number ["thing"] []
  g_is_number : mg "is_number" = some (.ref f_is_number)
  f_check_size : Addr
  fd_check_size : FuncData
  F_check_size : Fun K "check_size" "check_size" s_check_size f_check_size fd_check_size
  b_check_size : Binds K fd_check_size ["size"] []
  g_check_size : mg "check_size" = some (.ref f_check_size)
  f_beginnings_of : Addr
  fd_beginnings_of : FuncData
  F_beginnings_of : Fun K "beginnings_of" "beginnings_of" s_beginnings_of f_beginnings_of fd_beginnings_of
  b_beginnings_of : Binds K fd_beginnings_of ["piles"] []
  g_beginnings_of : mg "beginnings_of" = some (.ref f_beginnings_of)
  f_path_of : Addr
  fd_path_of : FuncData
  F_path_of : Fun K "path_of" "path_of" s_path_of f_path_of fd_path_of
  b_path_of : Binds K fd_path_of ["numbers", "pile"] []
  g_path_of : mg "path_of" = some (.ref f_path_of)
  f_stops_of : Addr
  fd_stops_of : FuncData
  F_stops_of : Fun K "stops_of" "stops_of" s_stops_of f_stops_of fd_stops_of
  b_stops_of : Binds K fd_stops_of ["numbers", "paths"] []
  g_stops_of : mg "stops_of" = some (.ref f_stops_of)
  f_edges_of : Addr
  fd_edges_of : FuncData
  F_edges_of : Fun K "edges_of" "edges_of" s_edges_of f_edges_of fd_edges_of
  b_edges_of : Binds K fd_edges_of ["size", "path", "stops"] []
  g_edges_of : mg "edges_of" = some (.ref f_edges_of)
  f_lay : Addr
  fd_lay : FuncData
  F_lay : Fun K "lay" "lay" s_lay f_lay fd_lay
  b_lay : Binds K fd_lay ["pieces", "places", "pile", "path", "edges"] []
  g_lay : mg "lay" = some (.ref f_lay)
  f_tight : Addr
  fd_tight : FuncData
  F_tight : Fun K "tight" "tight" s_tight f_tight fd_tight
  b_tight : Binds K fd_tight ["size", "piles"] []
  g_tight : mg "tight" = some (.ref f_tight)
  f_cell_at : Addr
  fd_cell_at : FuncData
  F_cell_at : Fun K "_law_cell_at" "_law_cell_at" s_cell_at f_cell_at fd_cell_at
  b_cell_at : Binds K fd_cell_at ["script", "k"] []
  g_cell_at : mg "_law_cell_at" = some (.ref f_cell_at)
  f_bag : Addr
  fd_bag : FuncData
  F_bag : Fun K "_law_bag" "_law_bag" s_bag f_bag fd_bag
  b_bag : Binds K fd_bag ["cell", "place"] []
  g_bag : mg "_law_bag" = some (.ref f_bag)
  f_draw : Addr
  fd_draw : FuncData
  F_draw : Fun K "_law_draw" "_law_draw" s_draw f_draw fd_draw
  b_draw : Binds K fd_draw ["bag", "many"] []
  g_draw : mg "_law_draw" = some (.ref f_draw)
  f_worth : Addr
  fd_worth : FuncData
  F_worth : Fun K "_law_worth" "_law_worth" s_worth f_worth fd_worth
  b_worth : Binds K fd_worth ["bag", "few"] []
  g_worth : mg "_law_worth" = some (.ref f_worth)
  f_whole : Addr
  fd_whole : FuncData
  F_whole : Fun K "_law_whole" "_law_whole" s_whole f_whole fd_whole
  b_whole : Binds K fd_whole ["found"] []
  g_whole : mg "_law_whole" = some (.ref f_whole)
  f_size : Addr
  fd_size : FuncData
  F_size : Fun K "_law_size" "_law_size" s_size f_size fd_size
  b_size : Binds K fd_size ["bag"] []
  g_size : mg "_law_size" = some (.ref f_size)
  f_many_piles : Addr
  fd_many_piles : FuncData
  F_many_piles : Fun K "_law_many_piles" "_law_many_piles" s_many_piles f_many_piles fd_many_piles
  b_many_piles : Binds K fd_many_piles ["bag"] []
  g_many_piles : mg "_law_many_piles" = some (.ref f_many_piles)
  f_piles : Addr
  fd_piles : FuncData
  F_piles : Fun K "_law_piles" "_law_piles" s_piles f_piles fd_piles
  b_piles : Binds K fd_piles ["bag"] []
  g_piles : mg "_law_piles" = some (.ref f_piles)
  f_right : Addr
  fd_right : FuncData
  F_right : Fun K "_law_right" "_law_right" s_right f_right fd_right
  b_right : Binds K fd_right ["size", "pieces", "tops"] []
  g_right : mg "_law_right" = some (.ref f_right)
  f_worths_all : Addr
  fd_worths_all : FuncData
  F_worths_all : Fun K "_law_worths_all" "_law_worths_all" s_worths_all f_worths_all fd_worths_all
  b_worths_all : Binds K fd_worths_all ["found"] []
  g_worths_all : mg "_law_worths_all" = some (.ref f_worths_all)
  f_form : Addr
  fd_form : FuncData
  F_form : Fun K "_law_form" "_law_form" s_form f_form fd_form
  b_form : Binds K fd_form ["found"] []
  g_form : mg "_law_form" = some (.ref f_form)
  f_open : Addr
  fd_open : FuncData
  F_open : Fun K "_law_open" "_law_open" s_open f_open fd_open
  b_open : Binds K fd_open ["pieces", "top"] []
  g_open : mg "_law_open" = some (.ref f_open)
  f_good : Addr
  fd_good : FuncData
  F_good : Fun K "_law_good" "_law_good" s_good f_good fd_good
  b_good : Binds K fd_good ["size", "piles"] []
  g_good : mg "_law_good" = some (.ref f_good)
  f_law : Addr
  fd_law : FuncData
  F_law : Fun K "law" "law" s_law f_law fd_law
  b_law : Binds K fd_law ["script"] []
  g_law : mg "law" = some (.ref f_law)
  n_bool : mg "bool" = none
  n_int : mg "int" = none
  n_isinstance : mg "isinstance" = none
  n_len : mg "len" = none
  n_list : mg "list" = none
  n_max : mg "max" = none
  n_min : mg "min" = none
  n_range : mg "range" = none
  n_str : mg "str" = none
  n_tuple : mg "tuple" = none
  n_type : mg "type" = none
  n_zip : mg "zip" = none
  t_NOTHING : Tok
  c_NOTHING : mg "NOTHING" = some (.int (-1) t_NOTHING)
  t_LEAST_SIZE : Tok
  c_LEAST_SIZE : mg "LEAST_SIZE" = some (.int (2) t_LEAST_SIZE)
  t_MOST_SIZE : Tok
  c_MOST_SIZE : mg "MOST_SIZE" = some (.int (64) t_MOST_SIZE)

local macro_rules | `(tactic| walk_at "ne") => `(tactic| first
  | assumption
  | (refine Ne.symm ?_; assumption)
  | exact ne_of_none (by assumption) (by assumption)
  | exact (ne_of_none (by assumption) (by assumption)).symm
  | exact ne_of (by assumption) (by assumption) (by intro q; cases q))
local macro_rules | `(tactic| walk_at "hp") => `(tactic| first
  | assumption
  | exact upd_same
  | (refine (upd_ne ?_).trans ?_; (walk_at "ne"); (walk_at "hp")))
local macro_rules | `(tactic| walk_at "sq") => `(tactic| first
  | assumption
  | exact SqL.of (by walk_at "hp")
  | exact SqT.of (by walk_at "hp"))
local macro_rules | `(tactic| walk_at "kind") => `(tactic| first
  | assumption
  | exact Kind.int _
  | exact Kind.str _
  | exact Kind.bl _
  | exact Kind.non
  | exact Kind.tup (by walk_at "hp")
  | exact Kind.lst (by walk_at "hp")
  | exact Kind.dK (by walk_at "hp"))
local macro_rules | `(tactic| walk_at "w1") => `(tactic| first
  | (with_reducible refine Wp.seq ?_)
  | (with_reducible refine Wp.nx_mk ?_)
  | (with_reducible refine Wp.rt_mk ?_)
  | (with_reducible refine Wp.bk_mk ?_)
  | (with_reducible refine Wp.ct_mk ?_)
  | (with_reducible refine Wp.next ?_)
  | (with_reducible refine Wp.asg ?_)
  | ((with_reducible refine' Wp.gname ?e ?_); (case e => (try dsimp only [List.set, L2.wipe, List.map_cons, List.map_nil]); (try exact rfl)))
  | (with_reducible refine Wp.gsub ?_)
  | (with_reducible refine Wp.ret ?_)
  | (with_reducible refine Wp.retN ?_)
  | (with_reducible refine Wp.drop ?_)
  | (with_reducible refine Wp.dput ?_)
  | (with_reducible refine Wp.ifs ?_)
  | ((with_reducible refine' Wp.var ?h ?_); (case h => exact rfl))
  | (with_reducible refine Wp.con ?_)
  | (with_reducible refine Wp.op ?_)
  | (with_reducible refine Wp.un ?_)
  | (with_reducible refine Wp.cb ?_)
  | (with_reducible refine Wp.anil ?_)
  | (with_reducible refine Wp.acons ?_)
  | (with_reducible refine Wp.call ?_)
  | (with_reducible refine Wp.test ?_)
  | (with_reducible refine Wp.tb_ ?_)
  | (with_reducible refine Wp.and_ ?_)
  | (with_reducible refine Wp.or_ ?_)
  | (with_reducible refine Wp.not_ ?_)
  | (with_reducible refine Wp.andV ?_)
  | (with_reducible refine Wp.orV ?_)
  | (with_reducible refine Wp.notV ?_)
  | (with_reducible refine Wp.rI0_ ?_)
  | (with_reducible refine Wp.rU_ ?_)
  | ((with_reducible refine Wp.rEq_ ?k ?_); (case k => exact rfl))
  | ((with_reducible refine Wp.rNe_ ?k ?_); (case k => exact rfl))
  | (with_reducible refine Wp.gcons ?_)
  | (with_reducible refine Wp.gnil ?_)
  | ((with_reducible refine' Wp.gtup ?h ?e ?_); (case h => walk_at "sq"); (case e => exact rfl))
  | (with_reducible refine Wp.sl ?_)
  | (with_reducible refine Wp.part ?_)
  | (with_reducible refine Wp.nopart ?_)
  | (with_reducible refine Wp.ifE ?_)
  | (with_reducible refine Wp.bm0 ?_)
  | (with_reducible refine Wp.bm ?_)
  | (with_reducible refine Wp.lcR1 ?_)
  | (with_reducible refine Wp.lcR2 ?_)
  | (with_reducible refine Wp.lcL ?_)
  | (with_reducible refine Wp.chain ?_)
  | (with_reducible refine Wp.lc2V ?_)
  | (with_reducible refine Wp.piL ?_)
  | (with_reducible refine Wp.yes ?_)
  | (with_reducible refine Wp.dinI ?_)
  | (with_reducible refine Wp.dninI ?_)
  | (with_reducible refine Wp.dget ?_)
  | ((with_reducible refine' ⟨?k, ?_⟩); (case k => show L2.wipe _ _ = L2.wipe _ _; exact rfl))
  | (with_reducible refine Wp.forR1 ?_)
  | (with_reducible refine Wp.forR2 ?_)
  | (with_reducible refine Wp.forL ?_)
  | (with_reducible refine Wp.forT ?_)
  | ((with_reducible refine' ⟨?k, ?_⟩); (case k => exact Wp.tyvL (by walk_at "hp")))
  | ((with_reducible refine' Wp.rev_ ?k ?_); (case k => walk_at "hp"))
  | ((with_reducible refine' Wp.isi ?k ?h ?_); (case k => walk_at "kind"); (case h => decide))
  | ((with_reducible refine' Wp.typ ?k ?_); (case k => walk_at "kind"))
  | (with_reducible refine Wp.slS ?k ?_; (case k => assumption))
  | (with_reducible refine iteT ?_)
  | (with_reducible refine iteF ?_)
  | (with_reducible refine Wz.par ?_)
  | (with_reducible refine Wz.forN ?_)
  | (with_reducible refine Wz.dcL ?_)
  | (with_reducible refine Wz.forZ ?_)
  | (with_reducible refine Wz.lcR3 ?_)
  | (with_reducible refine Wc.revL ?_)
  | (with_reducible refine Wd.nm ?_)
  | (with_reducible refine Wd.nget ?_)
  | ((with_reducible refine Wd.tnew ?_); intro p hp)
  | (with_reducible refine Wd.pikn ?_)
  | (with_reducible refine Wt.m1 ?_)
  | (with_reducible refine Wt.m0 ?_)
  | ((with_reducible refine' ⟨?k, ?_⟩); (case k => show ∃ a, _ = V.str a; exact ⟨_, rfl⟩))
  | (with_reducible refine Wt.js_cons ?_)
  | (with_reducible refine Wt.fmt_ ?_)
  | (with_reducible refine Wp.pcons ?_)
  | (with_reducible refine Wp.pnil ?_)
  | ((with_reducible refine' Wp.iteBnT ?h ?_); (case h => show isB _ _ = false; decide))
  | ((with_reducible refine' Wp.iteBnF ?h ?_); (case h => show isB _ _ = true; decide))
  | ((with_reducible refine' Wp.iteBt ?h ?_); (case h => show isB _ _ = true; decide))
  | ((with_reducible refine' Wp.iteBf ?h ?_); (case h => show isB _ _ = false; decide))
  | (with_reducible refine Wp.iteT' ?_)
  | (with_reducible refine Wp.iteF' ?_)
  | (with_reducible refine Wp.rNT_ ?_)
  | ((with_reducible refine Wp.lst ?_))
  | ((with_reducible refine Wp.tup ?_))
  | ((with_reducible refine' Wp.ixL ?h ?e ?_); (case h => walk_at "sq"); (case e => exact rfl))
  | ((with_reducible refine' Wp.ixT ?h ?e ?_); (case h => walk_at "sq"); (case e => exact rfl))
  | ((with_reducible refine' Wp.setL ?h ?e ?_); (case h => walk_at "hp"); (case e => exact rfl))
  | ((with_reducible refine Wp.rI_ ?k ?_); (case k => first | (show (0:Int) < _; omega) | (show CPow _ _; refine' ⟨?_, ?_, ?_⟩ <;> omega) | (show CDiv _ _; refine' ⟨?_, ?_⟩ <;> omega) | (show CMul _ _; refine' Or.inl ⟨?_, ?_⟩ <;> omega) | (show CMul _ _; refine' Or.inr ⟨?_, ?_⟩ <;> first | omega | decide) | (show CDivW _ _; refine' wide_div (b := 240) ?_ ?_ ?_ ?_ <;> first | omega | decide)))
  | ((with_reducible refine ⟨?k, ?_⟩); (case k => first | exact Nat.zero_le _ | (exact Nat.le_of_ble_eq_true rfl)); intro p hp)
  | ((with_reducible refine' ⟨_, _, rfl, .inl ?k, ?_⟩); (case k => walk_at "sq"))
  | ((with_reducible refine' ⟨_, _, rfl, .inr ?k, ?_⟩); (case k => walk_at "sq"))
  | (with_reducible refine ⟨_, rfl, ?_⟩)
  | (with_reducible refine ⟨_, _, rfl, rfl, ?_⟩)
  | (with_reducible refine ⟨_, _, rfl, ?_⟩))
local macro_rules | `(tactic| walk_at "wp") => `(tactic| repeat (walk_at "w1"))

section
variable {P : Program} {w : World} {K : PySem.W.Frag} {mg : Str → Option Value} {base : Heap}
def spCell (K : PySem.W.Frag) : Sp := fun vs H Q _ => ∃ (a : Addr) (ns : List Int) (k : Nat), vs = [.ref a, .int k] ∧ SqL K H a (ns.map V.int) ∧ ∀ v, Q (.int v) H
theorem ok_cell_at (T : Txt P w K mg) : FnOk P w K mg base CX0 1 T.f_cell_at T.fd_cell_at ["script", "k"] (spCell K) := by
  refine T.F_cell_at.ok sc_cell_at (fun vs H Q E h => ?_) (fun cdv A outer s H vs Q E hr h => ?_)
  · obtain ⟨a, ns, k, rfl, _⟩ := h
    rfl
  · obtain ⟨a, ns, k, rfl, hS, q⟩ := h
    refine ⟨_, (pss_cons (ps_if (pt_cmpR op_lt (pv 1) (pe_callB call_len_seq (by rfl) T.n_len (by decide +kernel) (pa_cons (pv 0) pa_nil)) (nomark _)) (pss_one (ps_ret (pe_ix ix_list (pv 0) (pv 1) (fun _ _ => rfl)))) pss_nil)
      (pss_one (ps_ret pe_int))), ?_⟩
    rw [show L2.start ["script", "k"] [.ref a, .int k] = [some (.ref a), some (.int k)] from rfl]
    try dsimp only [cxOf]
    walk_at "wp"
    refine ite_ (fun c => ?_) (fun c => ?_)
    · walk_at "wp"
      have hk : k < ns.length := by
        rw [List.length_map] at c
        omega
      refine ixL hS (atI_nat (v := .int ns[k]) ?_) ?_
      · rw [List.getElem?_map, List.getElem?_eq_getElem hk]
        rfl
      · exact q _
    · walk_at "wp"
      exact q _

def spBag : Sp := fun vs H Q _ => ∃ (c : Int) (p : Nat), vs = [.int c, .int p] ∧ p ≤ 100 ∧ ∀ b H', H b = none → Bag H' b 0 → Same H H' → Q (.ref b) H'
theorem ok_bag (T : Txt P w K mg) : FnOk P w K mg base CX0 1 T.f_bag T.fd_bag ["cell", "place"] spBag := by
  refine T.F_bag.ok sc_bag (fun vs H Q E h => ?_) (fun cdv A outer s H vs Q E hr h => ?_)
  · obtain ⟨c, p, rfl, _⟩ := h
    rfl
  · obtain ⟨c, p, rfl, hp, q⟩ := h
    refine ⟨_, (pss_one (ps_ret (pe_lst (pa_cons (pe_callB (call_max2 rfl) (by rfl) T.n_max (by decide +kernel) (pa_cons pe_int (pa_cons (pe_op op_sub (pv 0) (pe_op op_pow pe_int pe_int)) pa_nil))) (pa_cons (pe_op op_add (pe_op op_mod (pv 0) pe_int) (pe_op op_mul pe_int (pv 1))) (pa_cons pe_int pa_nil)))))), ?_⟩
    rw [show L2.start ["cell", "place"] [.int c, .int p] = [some (.int c), some (.int p)] from rfl]
    try dsimp only [cxOf]
    walk_at "wp"
    refine q _ _ ‹_› ⟨_, _, _, upd_same, ?_, ?_, by omega, by omega⟩ (same_new ‹_›)
    · have := Int.emod_nonneg c (show (2305843009213693951 : Int) ≠ 0 by decide)
      omega
    · have := Int.emod_lt_of_pos c (show (0 : Int) < 2305843009213693951 by decide)
      omega

def spDraw : Sp := fun vs H Q _ => ∃ (b : Addr) (n : Nat) (m : Int), vs = [.ref b, .int m] ∧ Bag H b n ∧ n < 1000000 ∧ 0 < m ∧ m < 2 ^ 240 ∧ ∀ v H', 0 ≤ v → v < m → Bag H' b (n + 1) → Kp b H H' → Q (.int v) H'
theorem ok_draw (T : Txt P w K mg) : FnOk P w K mg base CX0 1 T.f_draw T.fd_draw ["bag", "many"] spDraw := by
  refine T.F_draw.ok sc_draw (fun vs H Q E h => ?_) (fun cdv A outer s H vs Q E hr h => ?_)
  · obtain ⟨b, n, m, rfl, _⟩ := h
    rfl
  · obtain ⟨b, n, m, rfl, ⟨x, y, z, hb, hy, hy2, hz, hz2⟩, hn, hm, hm2, k⟩ := h
    refine ⟨_, (pss_cons (ps_if (pt_cmpR op_gt (pe_ix ix_list (pv 0) pe_int (fun _ _ => rfl)) pe_int (nomark _)) (pss_cons (ps_set (i := 2) sc_draw.nd rfl (.inl rfl) (pe_op op_mod (pe_ix ix_list (pv 0) pe_int (fun _ _ => rfl)) (pv 1)))
      (pss_cons (ps_asg (pe_op op_fdivW (pe_ix ix_list (pv 0) pe_int (fun _ _ => rfl)) (pv 1)) (pg_sub (pv 0) pe_int set_list))
      (pss_one (ps_ret (pv 2))))) pss_nil)
      (pss_cons (ps_asg (pe_op op_add (pe_ix ix_list (pv 0) pe_int (fun _ _ => rfl)) pe_int) (pg_sub (pv 0) pe_int set_list))
      (pss_cons (ps_set (i := 3) sc_draw.nd rfl (.inl rfl) (pe_op op_mod (pe_op op_pow (pe_op op_add (pe_ix ix_list (pv 0) pe_int (fun _ _ => rfl)) (pe_op op_mul pe_int (pe_ix ix_list (pv 0) pe_int (fun _ _ => rfl)))) pe_int) pe_int))
      (pss_cons (ps_set (i := 3) sc_draw.nd rfl (.inl rfl) (pe_op op_mod (pe_op op_pow (pe_op op_add (pv 3) (pe_op op_mul pe_int (pe_ix ix_list (pv 0) pe_int (fun _ _ => rfl)))) pe_int) pe_int))
      (pss_one (ps_ret (pe_op op_mod (pe_op op_fdiv (pv 3) pe_int) (pv 1)))))))), ?_⟩
    rw [show L2.start ["bag", "many", "found", "mixed"] [.ref b, .int m] = [some (.ref b), some (.int m), none, none] from rfl]
    try dsimp only [cxOf]
    walk_at "wp"
    refine ite_ (fun c => ?_) (fun c => ?_)
    · walk_at "wp"
      refine k _ _ ?_ ?_ ⟨_, _, _, upd_same, hy, hy2, hz, by omega⟩ Kp.at
      · exact Int.emod_nonneg _ (by omega)
      · exact Int.emod_lt_of_pos _ hm
    · walk_at "wp"
      refine k _ _ ?_ ?_ ⟨_, _, _, upd_same, hy, hy2, by omega, by omega⟩ Kp.at
      · exact Int.emod_nonneg _ (by omega)
      · exact Int.emod_lt_of_pos _ hm

def spWhole : Sp := fun vs H Q _ => ∃ (v : V) (T : String), vs = [v] ∧ Kind H v T ∧ Q (.bl (decide (T = "int"))) H
theorem ok_whole (T : Txt P w K mg) : FnOk P w K mg base CX0 1 T.f_whole T.fd_whole ["found"] spWhole := by
  refine T.F_whole.ok sc_whole (fun vs H Q E h => ?_) (fun cdv A outer s H vs Q E hr h => ?_)
  · obtain ⟨v, ty, rfl, _⟩ := h
    rfl
  · obtain ⟨v, ty, rfl, hk, q⟩ := h
    refine ⟨_, (pss_one (ps_ret (pe_and (pe_callB call_isi (by rfl) T.n_isinstance (by decide +kernel) (pa_cons (pv 0) (pa_cons (pe_bltn (v := .ty "int") (by rfl) T.n_int (by decide +kernel) rfl) pa_nil))) (pe_one (pe_not (pe_callB call_isi (by rfl) T.n_isinstance (by decide +kernel) (pa_cons (pv 0) (pa_cons (pe_bltn (v := .ty "bool") (by rfl) T.n_bool (by decide +kernel) rfl) pa_nil)))))))), ?_⟩
    rw [show L2.start ["found"] [v] = [some v] from rfl]
    try dsimp only [cxOf]
    walk_at "wp"
    by_cases e1 : ty = "int"
    · subst e1
      walk_at "wp"
      exact q
    · rw [decide_eq_false e1] at q
      by_cases e2 : ty = "bool"
      · subst e2
        walk_at "wp"
        exact q
      · rw [show isB ty "int" = false by unfold isB; rw [decide_eq_false e1, decide_eq_false e2] <;> rfl]
        walk_at "wp"
        exact q

def spWorth : Sp := fun vs H Q _ => ∃ (b : Addr) (n : Nat) (f : Int), vs = [.ref b, .int f] ∧ Bag H b n ∧ n < 800000 ∧ 0 < f ∧ f ≤ 1000 ∧ ∀ v z H', IsW H' v z → Wok z → Bag H' b (n + 6) → Kp b H H' → Q v H'
theorem ok_worth (T : Txt P w K mg) : FnOk P w K mg base CX0 2 T.f_worth T.fd_worth ["bag", "few"] spWorth := by
  have G_draw := ok_draw (base := base) T
  refine T.F_worth.ok sc_worth (fun vs H Q E h => ?_) (fun cdv A outer s H vs Q E hr h => ?_)
  · obtain ⟨b, n, f, rfl, _⟩ := h
    rfl
  · obtain ⟨b, n, f, rfl, hb, hn, f0, f1, k⟩ := h
    refine ⟨_, (pss_cons (ps_set (i := 2) sc_worth.nd rfl (.inl rfl) (pe_call G_draw (hr.mono (by decide)) (by rfl) T.g_draw T.F_draw.kp T.b_draw .nil pass0 (pa_cons (pv 0) (pa_cons (pv 1) pa_nil))))
      (pss_cons (ps_set (i := 3) sc_worth.nd rfl (.inl rfl) (pe_ix ix_list (pe_lst (pa_cons pe_str (pa_cons pe_str (pa_cons pe_str (pa_cons pe_str pa_nil))))) (pe_op op_mod (pv 2) pe_int) (fun _ _ => rfl)))
      (pss_cons (ps_if (pt_cmpR op_lt (pv 2) pe_int (nomark _)) (pss_one (ps_ret (pe_tup (pa_cons (pv 3) (pa_cons (pe_op op_fdiv (pv 2) pe_int) pa_nil))))) pss_nil)
      (pss_cons (ps_set (i := 4) sc_worth.nd rfl (.inl rfl) pe_int)
      (pss_cons (ps_for PassesOwn.never rfl (pi_range1 (by rfl) T.n_range (pa_cons pe_int pa_nil)) (pg_name (i := 5) sc_worth.nd rfl (.inl rfl)) (pss_one (ps_set (i := 4) sc_worth.nd rfl (.inl rfl) (pe_op op_add (pe_op op_mul (pv 4) (pe_op op_pow pe_int pe_int)) (pe_call G_draw (hr.mono (by decide)) (by rfl) T.g_draw T.F_draw.kp T.b_draw .nil pass0 (pa_cons (pv 0) (pa_cons (pe_op op_pow pe_int pe_int) pa_nil)))))))
      (pss_cons (ps_if (PW.pt (pw_and (pt_cmpR op_eq (pv 3) pe_str (nomark _)) (pw_and1 (pt_cmpR op_eq (pe_op op_mod (pv 4) pe_int) pe_int (nomark _))))) (pss_one (ps_ret (pe_tup (pa_cons (pv 3) (pa_cons (pe_op op_sub pe_int (pv 4)) pa_nil))))) pss_nil)
      (pss_one (ps_ret (pe_tup (pa_cons (pv 3) (pa_cons (pv 4) pa_nil))))))))))), ?_⟩
    rw [show L2.start ["bag", "few", "at", "word", "number", "k"] [.ref b, .int f] = [some (.ref b), some (.int f), none, none, none, none] from rfl]
    try dsimp only [cxOf]
    walk_at "wp"
    refine ⟨b, n, _, rfl, hb, by omega, by omega, by omega, fun at_ H1 a0 a1 hb1 k1 => ?_⟩
    walk_at "wp"
    rename_i l hl
    obtain ⟨wd, hwd, hw⟩ : ∃ wd : Str, atI [V.str (Str.ofString "num"), V.str (Str.ofString "at"), V.str (Str.ofString "box"), V.str (Str.ofString "go")] (at_ % 4) = some (V.str wd) ∧ PyData.strOk wd = true := by
      have cc : at_ % 4 = 0 ∨ at_ % 4 = 1 ∨ at_ % 4 = 2 ∨ at_ % 4 = 3 := by omega
      rcases cc with e | e | e | e <;> rw [e] <;> exact ⟨_, rfl, by decide +kernel⟩
    refine ixL (SqL.of upd_same) hwd ?_
    have hb1' := hb1.keep (same_new (o := .lst [V.str (Str.ofString "num"), V.str (Str.ofString "at"), V.str (Str.ofString "box"), V.str (Str.ofString "go")]) hl)
    have k1' : Kp b H (upd H1 l (.lst [V.str (Str.ofString "num"), V.str (Str.ofString "at"), V.str (Str.ofString "box"), V.str (Str.ofString "go")])) := Kp.trans k1 (Kp.new hl)
    generalize upd H1 l (.lst [V.str (Str.ofString "num"), V.str (Str.ofString "at"), V.str (Str.ofString "box"), V.str (Str.ofString "go")]) = H1' at hb1' k1'
    walk_at "wp"
    refine ite_ (fun c => ?_) (fun c => ?_)
    · walk_at "wp"
      rename_i t ht
      exact k _ (wd, _) _ ⟨t, rfl, upd_same⟩ hw ((hb1'.keep (same_new ht)).mono (by omega)) (Kp.trans k1' (Kp.new ht))
    · walk_at "wp"
      refine ⟨by decide, by decide, loopR (fun i σ H' => ∃ (g : Int) (v : Option V), σ = [some (.ref b), some (.int f), some (.int at_), some (.str wd), some (.int g), v] ∧ Bag H' b (n + 1 + i) ∧ Kp b H1' H') ⟨0, none, rfl, hb1', Kp.refl _ _⟩ ?_ ?_⟩
      · rintro i σ H3 hi ⟨g, v, rfl, hb3, k3⟩
        have hi5 : i < 5 := hi
        walk_at "wp"
        refine ⟨b, n + 1 + i, _, rfl, hb3, by omega, by decide, by decide, fun v4 H4 v0 v1 hb4 k4 => ?_⟩
        walk_at "wp"
        exact ⟨hb4, Kp.trans k3 k4⟩
      · rintro σ H3 ⟨g, v, rfl, hb3, k3⟩
        have hb3' : Bag H3 b (n + 6) := hb3
        have kk := Kp.trans k1' k3
        walk_at "wp"
        refine ite_ (fun c => ?_) (fun c => ?_)
        · walk_at "wp"
          refine ite_ (fun c => ?_) (fun c => ?_)
          · walk_at "wp"
            rename_i t ht
            exact k _ (wd, _) _ ⟨t, rfl, upd_same⟩ hw (hb3'.keep (same_new ht)) (Kp.trans kk (Kp.new ht))
          · walk_at "wp"
            rename_i t ht
            exact k _ (wd, _) _ ⟨t, rfl, upd_same⟩ hw (hb3'.keep (same_new ht)) (Kp.trans kk (Kp.new ht))
        · walk_at "wp"
          rename_i t ht
          exact k _ (wd, _) _ ⟨t, rfl, upd_same⟩ hw (hb3'.keep (same_new ht)) (Kp.trans kk (Kp.new ht))

def spSize : Sp := fun vs H Q _ => ∃ (b : Addr) (n : Nat), vs = [.ref b] ∧ Bag H b n ∧ n < 800000 ∧ ∀ v H', 2 ≤ v → v ≤ 64 → Bag H' b (n + 2) → Kp b H H' → Q (.int v) H'
theorem ok_size (T : Txt P w K mg) : FnOk P w K mg base CX0 2 T.f_size T.fd_size ["bag"] spSize := by
  have G_draw := ok_draw (base := base) T
  refine T.F_size.ok sc_size (fun vs H Q E h => ?_) (fun cdv A outer s H vs Q E hr h => ?_)
  · obtain ⟨b, n, rfl, _⟩ := h
    rfl
  · obtain ⟨b, n, rfl, hb, hn, k⟩ := h
    refine ⟨_, (pss_cons (ps_if (pt_cmpR op_gt (pe_call G_draw (hr.mono (by decide)) (by rfl) T.g_draw T.F_draw.kp T.b_draw .nil pass0 (pa_cons (pv 0) (pa_cons pe_int pa_nil))) pe_int (nomark _)) (pss_one (ps_ret (pe_op op_add pe_int (pe_call G_draw (hr.mono (by decide)) (by rfl) T.g_draw T.F_draw.kp T.b_draw .nil pass0 (pa_cons (pv 0) (pa_cons pe_int pa_nil)))))) pss_nil)
      (pss_one (ps_ret (pe_op op_add pe_int (pe_call G_draw (hr.mono (by decide)) (by rfl) T.g_draw T.F_draw.kp T.b_draw .nil pass0 (pa_cons (pv 0) (pa_cons pe_int pa_nil))))))), ?_⟩
    rw [show L2.start ["bag"] [.ref b] = [some (.ref b)] from rfl]
    try dsimp only [cxOf]
    walk_at "wp"
    refine ⟨b, n, _, rfl, hb, by omega, by omega, by omega, fun v1 H1 a0 a1 hb1 k1 => ?_⟩
    walk_at "wp"
    refine ite_ (fun c => ?_) (fun c => ?_)
    · walk_at "wp"
      refine ⟨b, n + 1, _, rfl, hb1, by omega, by omega, by omega, fun v2 H2 c0 c1 hb2 k2 => ?_⟩
      walk_at "wp"
      exact k _ _ (by omega) (by omega) hb2 (Kp.trans k1 k2)
    · walk_at "wp"
      refine ⟨b, n + 1, _, rfl, hb1, by omega, by omega, by omega, fun v2 H2 c0 c1 hb2 k2 => ?_⟩
      walk_at "wp"
      exact k _ _ (by omega) (by omega) hb2 (Kp.trans k1 k2)

def spIsNumber : Sp := fun vs H Q _ => ∃ (v : V) (T : String), vs = [v] ∧ Kind H v T ∧ Q (.bl (decide (T = "int"))) H
theorem ok_is_number (T : Txt P w K mg) : FnOk P w K mg base CX0 1 T.f_is_number T.fd_is_number ["thing"] spIsNumber := by
  refine T.F_is_number.ok sc_is_number (fun vs H Q E h => ?_) (fun cdv A outer s H vs Q E hr h => ?_)
  · obtain ⟨v, ty, rfl, _⟩ := h
    rfl
  · obtain ⟨v, ty, rfl, hk, q⟩ := h
    refine ⟨_, (pss_one (ps_ret (pe_cmpR op_isTyB (pe_callTy call_type1 (by rfl) T.n_type (by decide +kernel) (pa_cons (pv 0) pa_nil)) (pe_bltn (v := .ty "int") (by rfl) T.n_int (by decide +kernel) rfl) (nomark _)))), ?_⟩
    rw [show L2.start ["thing"] [v] = [some v] from rfl]
    try dsimp only [cxOf]
    walk_at "wp"
    exact q

end
end K10

namespace K10
open PySem PySem.Spec PyProof.Rows L2 Wp Wq Wr Wb
local macro_rules | `(tactic| walk_at "ne") => `(tactic| first
  | assumption
  | (refine Ne.symm ?_; assumption)
  | exact ne_of_none (by assumption) (by assumption)
  | exact (ne_of_none (by assumption) (by assumption)).symm
  | exact ne_of (by assumption) (by assumption) (by intro q; cases q))
local macro_rules | `(tactic| walk_at "hp") => `(tactic| first
  | assumption
  | exact upd_same
  | (refine (upd_ne ?_).trans ?_; (walk_at "ne"); (walk_at "hp")))
local macro_rules | `(tactic| walk_at "sq") => `(tactic| first
  | assumption
  | exact SqL.of (by walk_at "hp")
  | exact SqT.of (by walk_at "hp"))
local macro_rules | `(tactic| walk_at "kind") => `(tactic| first
  | assumption
  | exact Kind.int _
  | exact Kind.str _
  | exact Kind.bl _
  | exact Kind.non
  | exact Kind.tup (by walk_at "hp")
  | exact Kind.lst (by walk_at "hp")
  | exact Kind.dK (by walk_at "hp"))
local macro_rules | `(tactic| walk_at "w1") => `(tactic| first
  | (with_reducible refine Wp.seq ?_)
  | (with_reducible refine Wp.nx_mk ?_)
  | (with_reducible refine Wp.rt_mk ?_)
  | (with_reducible refine Wp.bk_mk ?_)
  | (with_reducible refine Wp.ct_mk ?_)
  | (with_reducible refine Wp.next ?_)
  | (with_reducible refine Wp.asg ?_)
  | ((with_reducible refine' Wp.gname ?e ?_); (case e => (try dsimp only [List.set, L2.wipe, List.map_cons, List.map_nil]); (try exact rfl)))
  | (with_reducible refine Wp.gsub ?_)
  | (with_reducible refine Wp.ret ?_)
  | (with_reducible refine Wp.retN ?_)
  | (with_reducible refine Wp.drop ?_)
  | (with_reducible refine Wp.dput ?_)
  | (with_reducible refine Wp.ifs ?_)
  | ((with_reducible refine' Wp.var ?h ?_); (case h => exact rfl))
  | (with_reducible refine Wp.con ?_)
  | (with_reducible refine Wp.op ?_)
  | (with_reducible refine Wp.un ?_)
  | (with_reducible refine Wp.cb ?_)
  | (with_reducible refine Wp.anil ?_)
  | (with_reducible refine Wp.acons ?_)
  | (with_reducible refine Wp.call ?_)
  | (with_reducible refine Wp.test ?_)
  | (with_reducible refine Wp.tb_ ?_)
  | (with_reducible refine Wp.and_ ?_)
  | (with_reducible refine Wp.or_ ?_)
  | (with_reducible refine Wp.not_ ?_)
  | (with_reducible refine Wp.andV ?_)
  | (with_reducible refine Wp.orV ?_)
  | (with_reducible refine Wp.notV ?_)
  | (with_reducible refine Wp.rI0_ ?_)
  | (with_reducible refine Wp.rU_ ?_)
  | ((with_reducible refine Wp.rEq_ ?k ?_); (case k => exact rfl))
  | ((with_reducible refine Wp.rNe_ ?k ?_); (case k => exact rfl))
  | (with_reducible refine Wp.gcons ?_)
  | (with_reducible refine Wp.gnil ?_)
  | ((with_reducible refine' Wp.gtup ?h ?e ?_); (case h => walk_at "sq"); (case e => exact rfl))
  | (with_reducible refine Wp.sl ?_)
  | (with_reducible refine Wp.part ?_)
  | (with_reducible refine Wp.nopart ?_)
  | (with_reducible refine Wp.ifE ?_)
  | (with_reducible refine Wp.bm0 ?_)
  | (with_reducible refine Wp.bm ?_)
  | (with_reducible refine Wp.lcR1 ?_)
  | (with_reducible refine Wp.lcR2 ?_)
  | (with_reducible refine Wp.lcL ?_)
  | (with_reducible refine Wp.chain ?_)
  | (with_reducible refine Wp.lc2V ?_)
  | (with_reducible refine Wp.piL ?_)
  | (with_reducible refine Wp.yes ?_)
  | (with_reducible refine Wp.dinI ?_)
  | (with_reducible refine Wp.dninI ?_)
  | (with_reducible refine Wp.dget ?_)
  | ((with_reducible refine' ⟨?k, ?_⟩); (case k => show L2.wipe _ _ = L2.wipe _ _; exact rfl))
  | (with_reducible refine Wp.forR1 ?_)
  | (with_reducible refine Wp.forR2 ?_)
  | (with_reducible refine Wp.forL ?_)
  | (with_reducible refine Wp.forT ?_)
  | ((with_reducible refine' ⟨?k, ?_⟩); (case k => exact Wp.tyvL (by walk_at "hp")))
  | ((with_reducible refine' Wp.rev_ ?k ?_); (case k => walk_at "hp"))
  | ((with_reducible refine' Wp.isi ?k ?h ?_); (case k => walk_at "kind"); (case h => decide))
  | ((with_reducible refine' Wp.typ ?k ?_); (case k => walk_at "kind"))
  | (with_reducible refine Wp.slS ?k ?_; (case k => assumption))
  | (with_reducible refine iteT ?_)
  | (with_reducible refine iteF ?_)
  | (with_reducible refine Wz.par ?_)
  | (with_reducible refine Wz.forN ?_)
  | (with_reducible refine Wz.dcL ?_)
  | (with_reducible refine Wz.forZ ?_)
  | (with_reducible refine Wz.lcR3 ?_)
  | (with_reducible refine Wc.revL ?_)
  | (with_reducible refine Wd.nm ?_)
  | (with_reducible refine Wd.nget ?_)
  | ((with_reducible refine Wd.tnew ?_); intro p hp)
  | (with_reducible refine Wd.pikn ?_)
  | (with_reducible refine Wt.m1 ?_)
  | (with_reducible refine Wt.m0 ?_)
  | ((with_reducible refine' ⟨?k, ?_⟩); (case k => show ∃ a, _ = V.str a; exact ⟨_, rfl⟩))
  | (with_reducible refine Wt.js_cons ?_)
  | (with_reducible refine Wt.fmt_ ?_)
  | (with_reducible refine Wp.pcons ?_)
  | (with_reducible refine Wp.pnil ?_)
  | ((with_reducible refine' Wp.iteBnT ?h ?_); (case h => show isB _ _ = false; decide))
  | ((with_reducible refine' Wp.iteBnF ?h ?_); (case h => show isB _ _ = true; decide))
  | ((with_reducible refine' Wp.iteBt ?h ?_); (case h => show isB _ _ = true; decide))
  | ((with_reducible refine' Wp.iteBf ?h ?_); (case h => show isB _ _ = false; decide))
  | (with_reducible refine Wp.iteT' ?_)
  | (with_reducible refine Wp.iteF' ?_)
  | (with_reducible refine Wp.rNT_ ?_)
  | ((with_reducible refine Wp.lst ?_))
  | ((with_reducible refine Wp.tup ?_))
  | ((with_reducible refine' Wp.ixL ?h ?e ?_); (case h => walk_at "sq"); (case e => exact rfl))
  | ((with_reducible refine' Wp.ixT ?h ?e ?_); (case h => walk_at "sq"); (case e => exact rfl))
  | ((with_reducible refine' Wp.setL ?h ?e ?_); (case h => walk_at "hp"); (case e => exact rfl))
  | ((with_reducible refine Wp.rI_ ?k ?_); (case k => first | (show (0:Int) < _; omega) | (show CPow _ _; refine' ⟨?_, ?_, ?_⟩ <;> omega) | (show CDiv _ _; refine' ⟨?_, ?_⟩ <;> omega) | (show CMul _ _; refine' Or.inl ⟨?_, ?_⟩ <;> omega) | (show CMul _ _; refine' Or.inr ⟨?_, ?_⟩ <;> first | omega | decide) | (show CDivW _ _; refine' wide_div (b := 240) ?_ ?_ ?_ ?_ <;> first | omega | decide)))
  | ((with_reducible refine ⟨?k, ?_⟩); (case k => first | exact Nat.zero_le _ | (exact Nat.le_of_ble_eq_true rfl)); intro p hp)
  | ((with_reducible refine' ⟨_, _, rfl, .inl ?k, ?_⟩); (case k => walk_at "sq"))
  | ((with_reducible refine' ⟨_, _, rfl, .inr ?k, ?_⟩); (case k => walk_at "sq"))
  | (with_reducible refine ⟨_, rfl, ?_⟩)
  | (with_reducible refine ⟨_, _, rfl, rfl, ?_⟩)
  | (with_reducible refine ⟨_, _, rfl, ?_⟩))
local macro_rules | `(tactic| walk_at "wp") => `(tactic| repeat (walk_at "w1"))

section
variable {P : Program} {w : World} {K : PySem.W.Frag} {mg : Str → Option Value} {base : Heap}
def spMany : Sp := fun vs H Q _ => ∃ (b : Addr) (n : Nat), vs = [.ref b] ∧ Bag H b n ∧ n ≤ 100 ∧ ∀ (p : Addr) (ys : List V) (Ps : List (List W)) (H' : Hp), H p = none → H' p = some (.lst ys) → Lists [b] H' ys Ps → (∀ q ∈ Ps, q.length ≤ 400 ∧ ∀ z ∈ q, Wok z) → 1 ≤ Ps.length → Ps.length ≤ 60 → Bag H' b (n + 50000) → Ks [b] H H' → Q (.ref p) H'
theorem ok_many_piles (T : Txt P w K mg) : FnOk P w K mg base CX0 3 T.f_many_piles T.fd_many_piles ["bag"] spMany := by
  have G_draw := ok_draw (base := base) T
  have G_worth := ok_worth (base := base) T
  refine T.F_many_piles.ok sc_many_piles (fun vs H Q E h => ?_) (fun cdv A outer s H vs Q E hr h => ?_)
  · obtain ⟨b, n, rfl, _⟩ := h
    rfl
  · obtain ⟨b, n, rfl, hb, hn, q⟩ := h
    refine ⟨_, (pss_cons (ps_setLc (i := 2) (own := [("k", 1)]) rfl sc_many_piles.nd rfl rfl (sw_true rfl rfl rfl (by decide +kernel)) (pi_range1 (by rfl) T.n_range (pa_cons (pe_call G_draw (hr.mono (by decide)) (by rfl) T.g_draw T.F_draw.kp T.b_draw .nil pass0 (pa_cons (pv 0) (pa_cons pe_int pa_nil))) pa_nil)) (blkOk_by (N := ["bag", "k", "base", "kinds", "piles", "upto", "more", "j"]) (sc := defScope s_many_piles) (by decide +kernel)) (fun _ _ _ _ _ => pg_name (i := 1) sc_many_piles.nd rfl (Or.inl rfl)) (fun _ _ _ _ _ => pts_nil) (fun _ _ _ _ _ => (pe_call G_worth (hr.mono (by decide)) (by rfl) T.g_worth T.F_worth.kp T.b_worth .nil pass0 (pa_cons (pv 0) (pa_cons pe_int pa_nil)))))
      (pss_cons (ps_set (i := 3) sc_many_piles.nd rfl (.inr rfl) (pe_ix ix_list (pe_lst (pa_cons pe_int (pa_cons pe_int pa_nil))) (pe_call G_draw (hr.mono (by decide)) (by rfl) T.g_draw T.F_draw.kp T.b_draw .nil pass0 (pa_cons (pv 0) (pa_cons pe_int pa_nil))) (fun _ _ => rfl)))
      (pss_cons (ps_set (i := 4) sc_many_piles.nd rfl (.inl rfl) (pe_lst pa_nil))
      (pss_cons (ps_for PassesOwn.never rfl (pi_range1 (by rfl) T.n_range (pa_cons (pe_op op_add pe_int (pe_call G_draw (hr.mono (by decide)) (by rfl) T.g_draw T.F_draw.kp T.b_draw .nil pass0 (pa_cons (pv 0) (pa_cons pe_int pa_nil)))) pa_nil)) (pg_name (i := 1) sc_many_piles.nd rfl (.inl rfl)) (pss_cons (ps_set (i := 5) sc_many_piles.nd rfl (.inl rfl) (pe_callB call_len_seq (by rfl) T.n_len (by decide +kernel) (pa_cons (pv 2) pa_nil)))
      (C8.pss_cut (ps_if (pt_cmpR op_eq (pe_call G_draw (hr.mono (by decide)) (by rfl) T.g_draw T.F_draw.kp T.b_draw .nil pass0 (pa_cons (pv 0) (pa_cons pe_int pa_nil))) pe_int (nomark _)) (pss_one (ps_set (i := 5) sc_many_piles.nd rfl (.inl rfl) (pe_call G_draw (hr.mono (by decide)) (by rfl) T.g_draw T.F_draw.kp T.b_draw .nil pass0 (pa_cons (pv 0) (pa_cons (pe_op op_add (pe_callB call_len_seq (by rfl) T.n_len (by decide +kernel) (pa_cons (pv 2) pa_nil)) pe_int) pa_nil))))) pss_nil)
      (pss_cons (ps_setLc (i := 6) (own := [("j", 7)]) rfl sc_many_piles.nd rfl rfl (sw_true rfl rfl rfl (by decide +kernel)) (pi_range1 (by rfl) T.n_range (pa_cons (pe_op op_add pe_int (pe_call G_draw (hr.mono (by decide)) (by rfl) T.g_draw T.F_draw.kp T.b_draw .nil pass0 (pa_cons (pv 0) (pa_cons pe_int pa_nil)))) pa_nil)) (blkOk_by (N := ["bag", "k", "base", "kinds", "piles", "upto", "more", "j"]) (sc := defScope s_many_piles) (by decide +kernel)) (fun _ _ _ _ _ => pg_name (i := 7) sc_many_piles.nd rfl (Or.inl rfl)) (fun _ _ _ _ _ => pts_nil) (fun _ _ _ _ _ => (pe_tup (pa_cons pe_str (pa_cons (pe_call G_draw (hr.mono (by decide)) (by rfl) T.g_draw T.F_draw.kp T.b_draw .nil pass0 (pa_cons (pv 0) (pa_cons (pv 3) pa_nil))) pa_nil)))))
      (pss_one (ps_expr (pe_bm PySem.F.plainAttrs_list PySem.F.slot_list_append PySem.F.type_list_append mt_append (pv 4) (pa_cons (pe_op op_cat (pe_slice sl_list (pv 2) po_none (po_some (pv 5))) (pv 6)) pa_nil))))))))
      (pss_one (ps_ret (pv 4))))))), ?_⟩
    rw [show L2.start ["bag", "k", "base", "kinds", "piles", "upto", "more", "j"] [.ref b] = [some (.ref b), none, none, none, none, none, none, none] from rfl]
    try dsimp only [cxOf]
    walk_at "wp"
    refine ⟨b, n, _, rfl, hb, by omega, by decide, by decide, fun m H1 m0 m1 hb1 k1 => ?_⟩
    walk_at "wp"
    refine ⟨by omega, by omega, fun D hD => lc_worths (inc := 6) (ok := Wok) (by omega) hb1 hD ?_ ?_⟩
    · intro j H2 hj R hb2 k2 k
      walk_at "wp"
      exact ⟨b, n + 1 + 6 * j, 32, rfl, hb2, by omega, by decide, by decide, k⟩
    intro H2 acc base_ hb2 k2 hD2 p2 l2 ok2
    have hDb : D ≠ b := hb1.ne_new hD
    have k02 : Ks [b] H H2 := (hb.ks k1).trans k2
    walk_at "wp"
    rename_i l hl
    refine ⟨b, n + 1 + 6 * m.toNat, _, rfl, hb2.keep (same_new hl), by omega, by decide, by decide, fun v H3 v0 v1 hb3 k3 => ?_⟩
    have hbl := hb2.ne_new hl
    have hl3 : H3 l = _ := k3 _ _ hbl upd_same
    obtain ⟨kinds, hk, kd0, kd1⟩ : ∃ kd : Int, atI [V.int 4, V.int 100] v = some (V.int kd) ∧ 0 < kd ∧ kd ≤ 100 := by
      have cc : v = 0 ∨ v = 1 := by omega
      rcases cc with e | e <;> rw [e]
      · exact ⟨4, rfl, by decide, by decide⟩
      · exact ⟨100, rfl, by decide, by decide⟩
    refine ixL (SqL.of hl3) hk ?_
    walk_at "wp"
    rename_i p hp
    have hDl : D ≠ l := ne_of_none hD2 hl
    have ks3 : Ks [b] H2 H3 := (Ks.new hl).trans ((hb2.keep (same_new hl)).ks k3)
    have ksp : Ks [b] H (upd H3 p (.lst [])) := k02.trans (ks3.trans (Ks.new hp))
    have hD3 := ks3.keep _ _ (fun q => hDb (List.mem_singleton.mp q)) hD2
    have hDp : D ≠ p := ne_of_none hD3 hp
    have hpb : p ≠ b := hb3.ne_new hp
    have pH : H p = none := by
      cases e : H p with
      | none => rfl
      | some o => exact absurd ((k02.trans ks3).keep _ _ (fun q => hpb (List.mem_singleton.mp q)) e) (by rw [hp]; exact fun h => nomatch h)
    have hDS : D ∉ [p, b] := by
      intro h
      rcases List.mem_cons.mp h with e | h
      · exact hDp e
      exact hDb (List.mem_singleton.mp h)
    have hb3' : Bag (upd H3 p (.lst [])) b (n + 200) := (hb3.keep (same_new hp)).mono (by omega)
    have hD3' := (same_new (o := .lst []) hp) _ _ hD3
    have p3' := (p2.keep ks3.tk).keep (Tk.new (o := .lst []) hp)
    have hp3' : upd H3 p (.lst []) p = some (.lst []) := upd_same
    generalize upd H3 p (.lst []) = H3' at ksp hb3' hD3' p3' hp3'
    refine ⟨b, n + 200, _, rfl, hb3', by omega, by decide, by decide, fun many H4 a0 a1 hb4 k4 => ?_⟩
    have ks4 := hb3'.ks k4
    have hD4 := k4 _ _ hDb hD3'
    have p4 := p3'.keep ks4.tk
    have hp4 := k4 _ _ hpb hp3'
    walk_at "wp"
    refine ⟨by omega, by omega, loopR (fun i σ H' => ∃ y1 y5 y6 ys Ps, σ = [some (.ref b), y1, some (.ref D), some (.int kinds), some (.ref p), y5, y6, none] ∧ Bag H' b (n + 201 + 10 * i) ∧ Ks [p, b] H4 H' ∧ H' p = some (.lst ys) ∧ Lists [p, b] H' ys Ps ∧ Ps.length = i ∧ ∀ q ∈ Ps, q.length ≤ 400 ∧ ∀ z ∈ q, Wok z)
      ⟨_, _, _, [], [], rfl, hb4, Ks.refl, hp4, .nil, rfl, (fun _ h => nomatch h)⟩ ?_ ?_⟩
    · rintro i σ H5 hi ⟨y1, y5, y6, ys, Ps, rfl, hb5, k5, hp5, L5, l5, ok5⟩
      have hi60 : i < 60 := by omega
      have hD5 := k5.keep _ _ hDS hD4
      have p5 := p4.keep k5.tk
      rw [Int.zero_add]
      walk_at "wp"
      refine Wp.cut (fun σ' H' => ∃ u : Nat, σ' = [some (.ref b), some (.int i), some (.ref D), some (.int kinds), some (.ref p), some (.int u), y6, none] ∧ u ≤ base_.length ∧ Bag H' b (n + 203 + 10 * i) ∧ Ks [b] H5 H') ?_ ?_
      · walk_at "wp"
        refine ⟨b, n + 201 + 10 * i, _, rfl, hb5, by omega, by decide, by decide, fun c H6 c0 c1 hb6 k6 => ?_⟩
        have ks6 := hb5.ks k6
        have hD6 := k6 _ _ hDb hD5
        walk_at "wp"
        refine ite_ (fun _ => ?_) (fun _ => ?_)
        · walk_at "wp"
          refine ⟨b, _, _, rfl, hb6, by omega, by omega, by rw [p2.len]; omega, fun u H7 u0 u1 hb7 k7 => ?_⟩
          walk_at "wp"
          rw [p2.len] at u1
          obtain ⟨u', rfl⟩ : ∃ u' : Nat, u = (u' : Int) := ⟨u.toNat, by omega⟩
          exact ⟨u', rfl, by omega, hb7.mono (by omega), ks6.trans (hb6.ks k7)⟩
        · walk_at "wp"
          exact ⟨Nat.le_of_eq p2.len, hb6.mono (by omega), ks6⟩
      · rintro σ' H6 ⟨u, rfl, hu, hb6, k6⟩
        walk_at "wp"
        refine ⟨b, n + 203 + 10 * i, _, rfl, hb6, by omega, by decide, by decide, fun c H7 c0 c1 hb7 k7 => ?_⟩
        have ks7 := k6.trans (hb6.ks k7)
        walk_at "wp"
        refine ⟨by omega, by omega, fun E hE => lc_worths (inc := 1) (ok := Wok) (by omega) hb7 hE ?_ ?_⟩
        · intro j H8 hj R hb8 k8 k
          walk_at "wp"
          refine ⟨b, _, kinds, rfl, hb8, by omega, kd0, by omega, fun v H9 v0 v1 hb9 k9 => ?_⟩
          walk_at "wp"
          rename_i t ht
          exact k _ ("go", v) _ ⟨t, rfl, upd_same⟩ (show PyData.strOk ("go" : Str) = true by decide +kernel) ((hb9.keep (same_new ht)).mono (by omega)) (Kp.trans k9 (Kp.new ht))
        · intro H8 more ws hb8 k8 hE8 pE8 lE8 okE8
          have ks8 : Ks [b] H5 H8 := ks7.trans k8
          have hD8 := ks8.keep _ _ (fun q => hDb (List.mem_singleton.mp q)) hD5
          have hp8 := ks8.keep _ _ (fun q => hpb (List.mem_singleton.mp q)) hp5
          have p8 := p5.keep ks8.tk
          walk_at "wp"
          refine slL (SqL.of hD8) fun q1 hq1 => ?_
          rw [cut_take]
          have s1 := same_new (o := .lst (acc.take u)) hq1
          walk_at "wp"
          refine cat_ upd_same (s1 _ _ hE8) (by rw [List.length_take, pE8.len]; have := small (n := 100000) (by decide); omega) fun q2 hq2 => ?_
          have s2 := same_new (o := .lst (acc.take u ++ more)) hq2
          walk_at "wp"
          have ss := s1.trans s2
          refine app_ (ss _ _ hp8) (by rw [L5.len]; exact small (by omega)) ?_
          walk_at "wp"
          have bq : q2 ≠ b := (hb8.keep s1).ne_new hq2
          have pq : q2 ≠ p := (ne_of_none (s1 _ _ hp8) hq2).symm
          have hn2 : q2 ∉ [p, b] := by
            intro h
            rcases List.mem_cons.mp h with e | h
            · exact pq e
            exact bq (List.mem_singleton.mp h)
          have pp : Pile (upd (upd H8 q1 (.lst (acc.take u))) q2 (.lst (acc.take u ++ more))) (acc.take u ++ more) (base_.take u ++ ws) := ((p8.take u).app pE8).keep (Same.tk ss)
          have isl : IsLs [p, b] (upd (upd H8 q1 (.lst (acc.take u))) q2 (.lst (acc.take u ++ more))) (.ref q2) (base_.take u ++ ws) := ⟨q2, _, rfl, upd_same, pp, hn2⟩
          have ku := Ks.upd (S := [p, b]) (o := .lst (ys ++ [.ref q2])) (ss _ _ hp8) List.mem_cons_self
          have kall : Ks [p, b] H5 _ := (Ks.mono ks8 (by simp)).trans ((Ks.same ss).trans ku)
          refine ⟨_, _, _, _, _, rfl, ?_, k5.trans kall, upd_same, pair_app (L5.keep kall) (.cons (isl.keep ku) .nil), ?_, ?_⟩
          · exact Bag.mono ((hb8.keep ss).upd hpb) (by omega)
          · rw [List.length_append, l5] <;> rfl
          · intro q hq
            rcases List.mem_append.mp hq with hq | hq
            · exact ok5 q hq
            · rw [List.mem_singleton.mp hq]
              refine ⟨by rw [List.length_append, List.length_take]; omega, fun z hz => ?_⟩
              rcases List.mem_append.mp hz with hz | hz
              · exact ok2 z (List.mem_of_mem_take hz)
              · exact okE8 z hz
    · rintro σ H5 ⟨y1, y5, y6, ys, Ps, rfl, hb5, k5, hp5, L5, l5, ok5⟩
      walk_at "wp"
      refine q p ys Ps H5 pH hp5 (L5.less (by simp)) ok5 (by omega) (by omega) (hb5.mono (by omega)) ?_
      exact Ks.drop (k5.mono (by simp)) (ksp.trans ks4) pH

end
end K10

namespace K10
open PySem PySem.Spec PyProof.Rows L2 Wp Wq Wr Wb
local macro_rules | `(tactic| walk_at "ne") => `(tactic| first
  | assumption
  | (refine Ne.symm ?_; assumption)
  | exact ne_of_none (by assumption) (by assumption)
  | exact (ne_of_none (by assumption) (by assumption)).symm
  | exact ne_of (by assumption) (by assumption) (by intro q; cases q))
local macro_rules | `(tactic| walk_at "hp") => `(tactic| first
  | assumption
  | exact upd_same
  | (refine (upd_ne ?_).trans ?_; (walk_at "ne"); (walk_at "hp")))
local macro_rules | `(tactic| walk_at "sq") => `(tactic| first
  | assumption
  | exact SqL.of (by walk_at "hp")
  | exact SqT.of (by walk_at "hp"))
local macro_rules | `(tactic| walk_at "kind") => `(tactic| first
  | assumption
  | exact Kind.int _
  | exact Kind.str _
  | exact Kind.bl _
  | exact Kind.non
  | exact Kind.tup (by walk_at "hp")
  | exact Kind.lst (by walk_at "hp")
  | exact Kind.dK (by walk_at "hp"))
local macro_rules | `(tactic| walk_at "w1") => `(tactic| first
  | (with_reducible refine Wp.seq ?_)
  | (with_reducible refine Wp.nx_mk ?_)
  | (with_reducible refine Wp.rt_mk ?_)
  | (with_reducible refine Wp.bk_mk ?_)
  | (with_reducible refine Wp.ct_mk ?_)
  | (with_reducible refine Wp.next ?_)
  | (with_reducible refine Wp.asg ?_)
  | ((with_reducible refine' Wp.gname ?e ?_); (case e => (try dsimp only [List.set, L2.wipe, List.map_cons, List.map_nil]); (try exact rfl)))
  | (with_reducible refine Wp.gsub ?_)
  | (with_reducible refine Wp.ret ?_)
  | (with_reducible refine Wp.retN ?_)
  | (with_reducible refine Wp.drop ?_)
  | (with_reducible refine Wp.dput ?_)
  | (with_reducible refine Wp.ifs ?_)
  | ((with_reducible refine' Wp.var ?h ?_); (case h => exact rfl))
  | (with_reducible refine Wp.con ?_)
  | (with_reducible refine Wp.op ?_)
  | (with_reducible refine Wp.un ?_)
  | (with_reducible refine Wp.cb ?_)
  | (with_reducible refine Wp.anil ?_)
  | (with_reducible refine Wp.acons ?_)
  | (with_reducible refine Wp.call ?_)
  | (with_reducible refine Wp.test ?_)
  | (with_reducible refine Wp.tb_ ?_)
  | (with_reducible refine Wp.and_ ?_)
  | (with_reducible refine Wp.or_ ?_)
  | (with_reducible refine Wp.not_ ?_)
  | (with_reducible refine Wp.andV ?_)
  | (with_reducible refine Wp.orV ?_)
  | (with_reducible refine Wp.notV ?_)
  | (with_reducible refine Wp.rI0_ ?_)
  | (with_reducible refine Wp.rU_ ?_)
  | ((with_reducible refine Wp.rEq_ ?k ?_); (case k => exact rfl))
  | ((with_reducible refine Wp.rNe_ ?k ?_); (case k => exact rfl))
  | (with_reducible refine Wp.gcons ?_)
  | (with_reducible refine Wp.gnil ?_)
  | ((with_reducible refine' Wp.gtup ?h ?e ?_); (case h => walk_at "sq"); (case e => exact rfl))
  | (with_reducible refine Wp.sl ?_)
  | (with_reducible refine Wp.part ?_)
  | (with_reducible refine Wp.nopart ?_)
  | (with_reducible refine Wp.ifE ?_)
  | (with_reducible refine Wp.bm0 ?_)
  | (with_reducible refine Wp.bm ?_)
  | (with_reducible refine Wp.lcR1 ?_)
  | (with_reducible refine Wp.lcR2 ?_)
  | (with_reducible refine Wp.lcL ?_)
  | (with_reducible refine Wp.chain ?_)
  | (with_reducible refine Wp.lc2V ?_)
  | (with_reducible refine Wp.piL ?_)
  | (with_reducible refine Wp.yes ?_)
  | (with_reducible refine Wp.dinI ?_)
  | (with_reducible refine Wp.dninI ?_)
  | (with_reducible refine Wp.dget ?_)
  | ((with_reducible refine' ⟨?k, ?_⟩); (case k => show L2.wipe _ _ = L2.wipe _ _; exact rfl))
  | (with_reducible refine Wp.forR1 ?_)
  | (with_reducible refine Wp.forR2 ?_)
  | (with_reducible refine Wp.forL ?_)
  | (with_reducible refine Wp.forT ?_)
  | ((with_reducible refine' ⟨?k, ?_⟩); (case k => exact Wp.tyvL (by walk_at "hp")))
  | ((with_reducible refine' Wp.rev_ ?k ?_); (case k => walk_at "hp"))
  | ((with_reducible refine' Wp.isi ?k ?h ?_); (case k => walk_at "kind"); (case h => decide))
  | ((with_reducible refine' Wp.typ ?k ?_); (case k => walk_at "kind"))
  | (with_reducible refine Wp.slS ?k ?_; (case k => assumption))
  | (with_reducible refine iteT ?_)
  | (with_reducible refine iteF ?_)
  | (with_reducible refine Wz.par ?_)
  | (with_reducible refine Wz.forN ?_)
  | (with_reducible refine Wz.dcL ?_)
  | (with_reducible refine Wz.forZ ?_)
  | (with_reducible refine Wz.lcR3 ?_)
  | (with_reducible refine Wc.revL ?_)
  | (with_reducible refine Wd.nm ?_)
  | (with_reducible refine Wd.nget ?_)
  | ((with_reducible refine Wd.tnew ?_); intro p hp)
  | (with_reducible refine Wd.pikn ?_)
  | (with_reducible refine Wt.m1 ?_)
  | (with_reducible refine Wt.m0 ?_)
  | ((with_reducible refine' ⟨?k, ?_⟩); (case k => show ∃ a, _ = V.str a; exact ⟨_, rfl⟩))
  | (with_reducible refine Wt.js_cons ?_)
  | (with_reducible refine Wt.fmt_ ?_)
  | (with_reducible refine Wp.pcons ?_)
  | (with_reducible refine Wp.pnil ?_)
  | ((with_reducible refine' Wp.iteBnT ?h ?_); (case h => show isB _ _ = false; decide))
  | ((with_reducible refine' Wp.iteBnF ?h ?_); (case h => show isB _ _ = true; decide))
  | ((with_reducible refine' Wp.iteBt ?h ?_); (case h => show isB _ _ = true; decide))
  | ((with_reducible refine' Wp.iteBf ?h ?_); (case h => show isB _ _ = false; decide))
  | (with_reducible refine Wp.iteT' ?_)
  | (with_reducible refine Wp.iteF' ?_)
  | (with_reducible refine Wp.rNT_ ?_)
  | ((with_reducible refine Wp.lst ?_))
  | ((with_reducible refine Wp.tup ?_))
  | ((with_reducible refine' Wp.ixL ?h ?e ?_); (case h => walk_at "sq"); (case e => exact rfl))
  | ((with_reducible refine' Wp.ixT ?h ?e ?_); (case h => walk_at "sq"); (case e => exact rfl))
  | ((with_reducible refine' Wp.setL ?h ?e ?_); (case h => walk_at "hp"); (case e => exact rfl))
  | ((with_reducible refine Wp.rI_ ?k ?_); (case k => first | (show (0:Int) < _; omega) | (show CPow _ _; refine' ⟨?_, ?_, ?_⟩ <;> omega) | (show CDiv _ _; refine' ⟨?_, ?_⟩ <;> omega) | (show CMul _ _; refine' Or.inl ⟨?_, ?_⟩ <;> omega) | (show CMul _ _; refine' Or.inr ⟨?_, ?_⟩ <;> first | omega | decide) | (show CDivW _ _; refine' wide_div (b := 240) ?_ ?_ ?_ ?_ <;> first | omega | decide)))
  | ((with_reducible refine ⟨?k, ?_⟩); (case k => first | exact Nat.zero_le _ | (exact Nat.le_of_ble_eq_true rfl)); intro p hp)
  | ((with_reducible refine' ⟨_, _, rfl, .inl ?k, ?_⟩); (case k => walk_at "sq"))
  | ((with_reducible refine' ⟨_, _, rfl, .inr ?k, ?_⟩); (case k => walk_at "sq"))
  | (with_reducible refine ⟨_, rfl, ?_⟩)
  | (with_reducible refine ⟨_, _, rfl, rfl, ?_⟩)
  | (with_reducible refine ⟨_, _, rfl, ?_⟩))
local macro_rules | `(tactic| walk_at "wp") => `(tactic| repeat (walk_at "w1"))

section
variable {P : Program} {w : World} {K : PySem.W.Frag} {mg : Str → Option Value} {base : Heap}
def spPiles : Sp := fun vs H Q _ => ∃ (b : Addr) (n : Nat), vs = [.ref b] ∧ Bag H b n ∧ n ≤ 90 ∧ ∀ (p : Addr) (ys : List V) (Ps : List (List W)) (H' : Hp), H p = none → H' p = some (.lst ys) → Lists [b] H' ys Ps → (∀ q ∈ Ps, q.length ≤ 400 ∧ ∀ z ∈ q, Wok z) → 1 ≤ Ps.length → Ps.length ≤ 60 → Bag H' b (n + 60000) → Ks [b] H H' → Q (.ref p) H'
theorem ok_piles (T : Txt P w K mg) : FnOk P w K mg base CX0 4 T.f_piles T.fd_piles ["bag"] spPiles := by
  have G_draw := ok_draw (base := base) T
  have G_worth := ok_worth (base := base) T
  have G_many_piles := ok_many_piles (base := base) T
  refine T.F_piles.ok sc_piles (fun vs H Q E h => ?_) (fun cdv A outer s H vs Q E hr h => ?_)
  · obtain ⟨b, n, rfl, _⟩ := h
    rfl
  · obtain ⟨b, n, rfl, hb, hn, q⟩ := h
    refine ⟨_, (pss_cons (ps_set (i := 1) sc_piles.nd rfl (.inl rfl) (pe_call G_draw (hr.mono (by decide)) (by rfl) T.g_draw T.F_draw.kp T.b_draw .nil pass0 (pa_cons (pv 0) (pa_cons pe_int pa_nil))))
      (pss_cons (ps_if (pt_cmpR op_eq (pv 1) pe_int (nomark _)) (pss_one (ps_ret (pe_call G_many_piles (hr.mono (by decide)) (by rfl) T.g_many_piles T.F_many_piles.kp T.b_many_piles .nil pass0 (pa_cons (pv 0) pa_nil)))) pss_nil)
      (pss_cons (ps_set (i := 2) sc_piles.nd rfl (.inr rfl) (pe_ix ix_list (pe_lst (pa_cons pe_int (pa_cons pe_int (pa_cons pe_int pa_nil)))) (pe_call G_draw (hr.mono (by decide)) (by rfl) T.g_draw T.F_draw.kp T.b_draw .nil pass0 (pa_cons (pv 0) (pa_cons pe_int pa_nil))) (fun _ _ => rfl)))
      (pss_cons (ps_set (i := 3) sc_piles.nd rfl (.inl rfl) (pe_op op_add pe_int (pe_call G_draw (hr.mono (by decide)) (by rfl) T.g_draw T.F_draw.kp T.b_draw .nil pass0 (pa_cons (pv 0) (pa_cons pe_int pa_nil)))))
      (pss_cons (ps_set (i := 4) sc_piles.nd rfl (.inl rfl) pe_int)
      (C8.pss_cut (ps_if (pt_cmpR op_eq (pv 1) pe_int (nomark _)) (pss_cons (ps_set (i := 3) sc_piles.nd rfl (.inl rfl) (pe_op op_add pe_int (pe_op op_mod (pv 3) pe_int)))
      (pss_one (ps_set (i := 4) sc_piles.nd rfl (.inl rfl) pe_int))) pss_nil)
      (pss_cons (ps_set (i := 5) sc_piles.nd rfl (.inl rfl) (pe_lst pa_nil))
      (pss_cons (ps_for PassesOwn.never rfl (pi_range1 (by rfl) T.n_range (pa_cons (pv 3) pa_nil)) (pg_name (i := 6) sc_piles.nd rfl (.inl rfl)) (pss_cons (ps_set (i := 7) sc_piles.nd rfl (.inl rfl) (pe_call G_draw (hr.mono (by decide)) (by rfl) T.g_draw T.F_draw.kp T.b_draw .nil pass0 (pa_cons (pv 0) (pa_cons pe_int pa_nil))))
      (pss_cons (ps_set (i := 8) sc_piles.nd rfl (.inl rfl) (pe_lst pa_nil))
      (C8.pss_cut (ps_if (PW.pt (pw_and (pt_cmpR op_gt (pv 6) pe_int (nomark _)) (pw_and1 (pt_cmpR op_gt (pv 7) pe_int (nomark _))))) (pss_cons (ps_set (i := 9) sc_piles.nd rfl (.inl rfl) (pe_ix ix_list (pv 5) (pe_call G_draw (hr.mono (by decide)) (by rfl) T.g_draw T.F_draw.kp T.b_draw .nil pass0 (pa_cons (pv 0) (pa_cons (pv 6) pa_nil))) (fun _ _ => rfl)))
      (pss_one (ps_set (i := 8) sc_piles.nd rfl (.inl rfl) (pe_slice sl_list (pv 9) po_none (po_some (pe_ix ix_list (pe_lst (pa_cons (pe_callB call_len_seq (by rfl) T.n_len (by decide +kernel) (pa_cons (pv 9) pa_nil)) (pa_cons (pe_call G_draw (hr.mono (by decide)) (by rfl) T.g_draw T.F_draw.kp T.b_draw .nil pass0 (pa_cons (pv 0) (pa_cons (pe_op op_add (pe_callB call_len_seq (by rfl) T.n_len (by decide +kernel) (pa_cons (pv 9) pa_nil)) pe_int) pa_nil))) pa_nil))) (pe_callB (call_min2 rfl) (by rfl) T.n_min (by decide +kernel) (pa_cons pe_int (pa_cons (pe_op op_sub (pv 7) pe_int) pa_nil))) (fun _ _ => rfl))))))) pss_nil)
      (pss_one (ps_expr (pe_bm PySem.F.plainAttrs_list PySem.F.slot_list_append PySem.F.type_list_append mt_append (pv 5) (pa_cons (pe_slice sl_list (pe_op op_cat (pv 8) (pe_lc (own := [("j", 10)]) rfl sc_piles.nd (pi_range1 (by rfl) T.n_range (pa_cons (pe_call G_draw (hr.mono (by decide)) (by rfl) T.g_draw T.F_draw.kp T.b_draw .nil pass0 (pa_cons (pv 0) (pa_cons (pv 4) pa_nil))) pa_nil)) (blkOk_by (N := ["bag", "great", "few", "many", "most", "piles", "k", "begun", "pile", "old", "j"]) (sc := defScope s_piles) (by decide +kernel)) (fun _ _ _ _ _ => pg_name (i := 10) sc_piles.nd rfl (Or.inl rfl)) (fun _ _ _ _ _ => pts_nil) (fun _ _ _ _ _ => (pe_call G_worth (hr.mono (by decide)) (by rfl) T.g_worth T.F_worth.kp T.b_worth .nil pass0 (pa_cons (pv 0) (pa_cons (pv 2) pa_nil)))))) po_none (po_some pe_int)) pa_nil))))))))
      (pss_one (ps_ret (pv 5))))))))))), ?_⟩
    rw [show L2.start ["bag", "great", "few", "many", "most", "piles", "k", "begun", "pile", "old", "j"] [.ref b] = [some (.ref b), none, none, none, none, none, none, none, none, none, none] from rfl]
    try dsimp only [cxOf]
    walk_at "wp"
    refine ⟨b, n, _, rfl, hb, by omega, by decide, by decide, fun great H1 m0 m1 hb1 k1 => ?_⟩
    have ks1 := hb.ks k1
    walk_at "wp"
    refine ite_ (fun _ => ?_) (fun _ => ?_)
    · walk_at "wp"
      refine ⟨b, n + 1, rfl, hb1, by omega, fun p ys Ps H2 pn hp L ok l0 l1 hb2 k2 => ?_⟩
      refine q p ys Ps H2 ?_ hp L ok l0 l1 (hb2.mono (by omega)) (ks1.trans k2)
      cases e : H p with
      | none => rfl
      | some o => exact absurd (ks1.keep _ _ (fun q => hb1.ne_new pn (List.mem_singleton.mp q)) e) (by rw [pn]; exact fun h => nomatch h)
    walk_at "wp"
    rename_i l hl
    refine ⟨b, n + 1, _, rfl, hb1.keep (same_new hl), by omega, by decide, by decide, fun v H2 v0 v1 hb2 k2 => ?_⟩
    have hl2 : H2 l = _ := k2 _ _ (hb1.ne_new hl) upd_same
    obtain ⟨few, hf, f0, f1⟩ : ∃ f : Int, atI [V.int 32, V.int 4, V.int 1] v = some (V.int f) ∧ 0 < f ∧ f ≤ 32 := by
      have cc : v = 0 ∨ v = 1 ∨ v = 2 := by omega
      rcases cc with e | e | e <;> rw [e] <;> exact ⟨_, rfl, by decide, by decide⟩
    refine ixL (SqL.of hl2) hf ?_
    walk_at "wp"
    refine ⟨b, n + 2, _, rfl, hb2, by omega, by decide, by decide, fun mm H3 a0 a1 hb3 k3 => ?_⟩
    have ks3 : Ks [b] H H3 := ks1.trans ((Ks.new hl).trans (((hb1.keep (same_new hl)).ks k2).trans (hb2.ks k3)))
    walk_at "wp"
    refine Wp.cut (fun σ' H' => H' = H3 ∧ ∃ many most : Int, σ' = [some (.ref b), some (.int great), some (.int few), some (.int many), some (.int most), none, none, none, none, none, none] ∧ 1 ≤ many ∧ many ≤ 8 ∧ 0 < most ∧ most ≤ 131) ?_ ?_
    · walk_at "wp"
      refine ite_ (fun _ => ?_) (fun _ => ?_)
      · walk_at "wp"
        exact ⟨rfl, _, _, rfl, by omega, by omega, by decide, by decide⟩
      · walk_at "wp"
        exact ⟨rfl, _, _, rfl, by omega, by omega, by decide, by decide⟩
    · rintro σ' H' ⟨rfl, many, most, rfl, m1, m8, t0, t1⟩
      walk_at "wp"
      rename_i p hp
      have hpb : p ≠ b := hb3.ne_new hp
      have pH : H p = none := by
        cases e : H p with
        | none => rfl
        | some o => exact absurd (ks3.keep _ _ (fun q => hpb (List.mem_singleton.mp q)) e) (by rw [hp]; exact fun h => nomatch h)
      refine ⟨by omega, by omega, loopR (fun i σ H4 => ∃ y6 y7 y8 y9 ys Ps, σ = [some (.ref b), some (.int great), some (.int few), some (.int many), some (.int most), some (.ref p), y6, y7, y8, y9, none] ∧ Bag H4 b (n + 3 + 1000 * i) ∧ Ks [p, b] (upd H' p (.lst [])) H4 ∧ H4 p = some (.lst ys) ∧ Lists [p, b] H4 ys Ps ∧ Ps.length = i ∧ ∀ q ∈ Ps, q.length ≤ 400 ∧ ∀ z ∈ q, Wok z)
        ⟨_, _, _, _, [], [], rfl, hb3.keep (same_new hp), Ks.refl, upd_same, .nil, rfl, (fun _ h => nomatch h)⟩ ?_ ?_⟩
      · rintro i σ H5 hi ⟨y6, y7, y8, y9, ys, Ps, rfl, hb5, k5, hp5, L5, l5, ok5⟩
        have hi8 : i < 8 := by omega
        have ly : ys.length = i := by rw [L5.len, l5]
        rw [Int.zero_add]
        walk_at "wp"
        refine ⟨b, _, _, rfl, hb5, by omega, by decide, by decide, fun bg H6 c0 c1 hb6 k6 => ?_⟩
        have ks6 := hb5.ks k6
        walk_at "wp"
        rename_i e he
        have heb : e ≠ b := hb6.ne_new he
        have hp6 := ks6.keep _ _ (fun q => hpb (List.mem_singleton.mp q)) hp5
        have hpe : p ≠ e := ne_of_none hp6 he
        have kse : Ks [b] H5 (upd H6 e (.lst [])) := ks6.trans (Ks.new he)
        have hb6e := hb6.keep (same_new (o := .lst []) he)
        have he6 : upd H6 e (.lst []) e = some (.lst []) := upd_same
        have heS : e ∉ [p, b] := by
          intro h
          rcases List.mem_cons.mp h with q | h
          · exact hpe q.symm
          exact heb (List.mem_singleton.mp h)
        generalize upd H6 e (.lst []) = H6e at kse hb6e he6
        have L6 := L5.keep (Ks.mono kse (S' := [p, b]) (by simp))
        have hp6e := kse.keep _ _ (fun q => hpb (List.mem_singleton.mp q)) hp5
        refine Wp.cut (fun σ' H7 => ∃ y9 pl xs ws, σ' = [some (.ref b), some (.int great), some (.int few), some (.int many), some (.int most), some (.ref p), some (.int i), some (.int bg), some (.ref pl), y9, none] ∧ H7 pl = some (.lst xs) ∧ Pile H7 xs ws ∧ ws.length ≤ 400 ∧ (∀ z ∈ ws, Wok z) ∧ Bag H7 b (n + 3 + 1000 * i + 3) ∧ Ks [b] H6e H7) ?_ ?_
        · have fin : ∀ y9, ∃ y9' pl xs ws, [some (V.ref b), some (.int great), some (.int few), some (.int many), some (.int most), some (.ref p), some (.int i), some (.int bg), some (.ref e), y9, none] = [some (V.ref b), some (.int great), some (.int few), some (.int many), some (.int most), some (.ref p), some (.int i), some (.int bg), some (.ref pl), y9', none] ∧ H6e pl = some (.lst xs) ∧ Pile H6e xs ws ∧ ws.length ≤ 400 ∧ (∀ z ∈ ws, Wok z) ∧ Bag H6e b (n + 3 + 1000 * i + 3) ∧ Ks [b] H6e H6e :=
            fun y9 => ⟨y9, e, [], [], rfl, he6, Pile.nil, by decide, (fun _ h => nomatch h), hb6e.mono (by omega), Ks.refl⟩
          walk_at "wp"
          refine ite_ (fun ck => ?_) (fun _ => ?_)
          · walk_at "wp"
            refine ite_ (fun cb => ?_) (fun _ => ?_)
            · walk_at "wp"
              refine ⟨b, _, _, rfl, hb6e, by omega, by omega, by omega, fun o H7 o0 o1 hb7 k7 => ?_⟩
              have ks7 := hb6e.ks k7
              have hp7 := ks7.keep _ _ (fun q => hpb (List.mem_singleton.mp q)) hp6e
              have L7 := L6.keep (Ks.mono ks7 (S' := [p, b]) (by simp))
              obtain ⟨o', rfl⟩ : ∃ o' : Nat, o = (o' : Int) := ⟨o.toNat, by omega⟩
              have ho : o' < ys.length := by omega
              obtain ⟨x0, hx0⟩ : ∃ x, ys[o']? = some x := ⟨_, List.getElem?_eq_getElem ho⟩
              obtain ⟨ol, hol, lo, xo, rfl, hlo, po, so⟩ := pair_at1 L7 hx0
              have oko := ok5 ol (List.mem_of_getElem? hol)
              walk_at "wp"
              refine ixL (SqL.of hp7) (atI_nat hx0) ?_
              walk_at "wp"
              have lxo := po.len
              refine ⟨b, _, _, rfl, hb7, by omega, by omega, by omega, fun u H8 u0 u1 hb8 k8 => ?_⟩
              have lob : lo ≠ b := fun q => so (by rw [q]; simp)
              have hlo8 := k8 _ _ lob hlo
              have ks8 := ks7.trans (hb7.ks k8)
              have po8 := po.keep (hb7.ks k8).tk
              walk_at "wp"
              rename_i q1 hq1
              obtain ⟨val, hv, hval⟩ : ∃ val : Int, atI [V.int xo.length, V.int u] (if bg - 1 < 1 then bg - 1 else 1) = some (V.int val) ∧ 0 ≤ val := by
                have cc : bg = 1 ∨ bg = 2 ∨ bg = 3 := by omega
                rcases cc with rfl | rfl | rfl
                · exact ⟨_, rfl, by omega⟩
                · exact ⟨_, rfl, u0⟩
                · exact ⟨_, rfl, u0⟩
              refine ixL (SqL.of upd_same) hv ?_
              obtain ⟨val', rfl⟩ : ∃ v' : Nat, val = (v' : Int) := ⟨val.toNat, by omega⟩
              have s1 := same_new (o := .lst [V.int xo.length, V.int u]) hq1
              walk_at "wp"
              refine slL (SqL.of (s1 _ _ hlo8)) fun q2 hq2 => ?_
              rw [cut_take]
              have s2 := same_new (o := .lst (xo.take val')) hq2
              walk_at "wp"
              refine ⟨_, q2, xo.take val', ol.take val', rfl, upd_same, (po8.take val').keep (Same.tk (s1.trans s2)), ?_, fun z hz => oko.2 z (List.mem_of_mem_take hz), ?_, ks8.trans (Ks.same (s1.trans s2))⟩
              · rw [List.length_take]; have := oko.1; omega
              · exact Bag.mono (hb8.keep (s1.trans s2)) (by omega)
            · walk_at "wp"
              exact fin _
          · walk_at "wp"
            exact fin _
        · rintro σ' H7 ⟨y9, pl, xs, ws, rfl, hpl, pp, lw, okw, hb7, k7⟩
          have ksA : Ks [b] H5 H7 := kse.trans k7
          have hp7 := ksA.keep _ _ (fun q => hpb (List.mem_singleton.mp q)) hp5
          walk_at "wp"
          refine ⟨b, _, most, rfl, hb7, by omega, t0, by omega, fun c H8 c0 c1 hb8 k8 => ?_⟩
          have ks8 := ksA.trans (hb7.ks k8)
          have plb : pl ≠ b := fun q => by
            obtain ⟨x, y, z, e1, _⟩ := hb7
            rw [q, e1] at hpl
            cases hpl
            have h3 := pp.len
            cases ws with
            | nil => cases h3
            | cons w1 ws =>
              have h4 : IsW H7 (.int x) w1 := by cases pp with | cons r t => exact r
              obtain ⟨tt, ht, _⟩ := h4
              cases ht
          have hpl8 := k8 _ _ plb hpl
          have pp8 := pp.keep (hb7.ks k8).tk
          walk_at "wp"
          refine ⟨by omega, by omega, fun E hE => lc_worths (inc := 6) (ok := Wok) (by omega) hb8 hE ?_ ?_⟩
          · intro j H9 hj R hb9 k9 k
            walk_at "wp"
            exact ⟨b, _, few, rfl, hb9, by omega, f0, by omega, k⟩
          · intro H9 more wm hb9 k9 hE9 pE9 lE9 okE9
            have hpl9 := k9.keep _ _ (fun q => plb (List.mem_singleton.mp q)) hpl8
            have pp9 := pp8.keep k9.tk
            have ks9 := ks8.trans k9
            have hp9 := ks9.keep _ _ (fun q => hpb (List.mem_singleton.mp q)) hp5
            have lp := pp9.len
            have lm := pE9.len
            have big := small (n := 100000) (by decide)
            refine cat_ hpl9 hE9 (by omega) fun q1 hq1 => ?_
            have s1 := same_new (o := .lst (xs ++ more)) hq1
            walk_at "wp"
            refine slL (SqL.of upd_same) fun q2 hq2 => ?_
            have e400 : cutV (xs ++ more) none (some 400) = (xs ++ more).take 400 := cut_take (n := 400)
            rw [e400]
            have s2 := same_new (o := .lst ((xs ++ more).take 400)) hq2
            have ss := s1.trans s2
            walk_at "wp"
            refine app_ (ss _ _ hp9) (by rw [ly]; omega) ?_
            walk_at "wp"
            have bq : q2 ≠ b := (hb9.keep s1).ne_new hq2
            have pq : q2 ≠ p := (ne_of_none (s1 _ _ hp9) hq2).symm
            have hn2 : q2 ∉ [p, b] := by
              intro h
              rcases List.mem_cons.mp h with e | h
              · exact pq e
              exact bq (List.mem_singleton.mp h)
            have pw : Pile (upd (upd H9 q1 (.lst (xs ++ more))) q2 (.lst ((xs ++ more).take 400))) ((xs ++ more).take 400) ((ws ++ wm).take 400) := ((pp9.app pE9).take 400).keep (Same.tk ss)
            have isl : IsLs [p, b] (upd (upd H9 q1 (.lst (xs ++ more))) q2 (.lst ((xs ++ more).take 400))) (.ref q2) ((ws ++ wm).take 400) := ⟨q2, _, rfl, upd_same, pw, hn2⟩
            have ku := Ks.upd (S := [p, b]) (o := .lst (ys ++ [.ref q2])) (ss _ _ hp9) List.mem_cons_self
            have kall : Ks [p, b] H5 _ := (Ks.mono ks9 (by simp)).trans ((Ks.same ss).trans ku)
            refine ⟨_, _, _, _, _, _, rfl, ?_, k5.trans kall, upd_same, pair_app (L5.keep kall) (.cons (isl.keep ku) .nil), ?_, ?_⟩
            · exact Bag.mono ((hb9.keep ss).upd hpb) (by omega)
            · rw [List.length_append, l5] <;> rfl
            · intro q hq
              rcases List.mem_append.mp hq with hq | hq
              · exact ok5 q hq
              · rw [List.mem_singleton.mp hq]
                refine ⟨List.length_take_le _ _, fun z hz => ?_⟩
                rcases List.mem_append.mp (List.mem_of_mem_take hz) with hz | hz
                · exact okw z hz
                · exact okE9 z hz
      · rintro σ H5 ⟨y6, y7, y8, y9, ys, Ps, rfl, hb5, k5, hp5, L5, l5, ok5⟩
        walk_at "wp"
        refine q p ys Ps H5 pH hp5 (L5.less (by simp)) ok5 (by omega) (by omega) (hb5.mono (by omega)) ?_
        exact Ks.drop (k5.mono (by simp)) (ks3.trans (Ks.new hp)) pH

end
end K10

namespace K10
open PySem PySem.Spec PyProof.Rows L2 Wp Wq Wr Wb
local macro_rules | `(tactic| walk_at "ne") => `(tactic| first
  | assumption
  | (refine Ne.symm ?_; assumption)
  | exact ne_of_none (by assumption) (by assumption)
  | exact (ne_of_none (by assumption) (by assumption)).symm
  | exact ne_of (by assumption) (by assumption) (by intro q; cases q))
local macro_rules | `(tactic| walk_at "hp") => `(tactic| first
  | assumption
  | exact upd_same
  | (refine (upd_ne ?_).trans ?_; (walk_at "ne"); (walk_at "hp")))
local macro_rules | `(tactic| walk_at "sq") => `(tactic| first
  | assumption
  | exact SqL.of (by walk_at "hp")
  | exact SqT.of (by walk_at "hp"))
local macro_rules | `(tactic| walk_at "kind") => `(tactic| first
  | assumption
  | exact Kind.int _
  | exact Kind.str _
  | exact Kind.bl _
  | exact Kind.non
  | exact Kind.tup (by walk_at "hp")
  | exact Kind.lst (by walk_at "hp")
  | exact Kind.dK (by walk_at "hp"))
local macro_rules | `(tactic| walk_at "w1") => `(tactic| first
  | (with_reducible refine Wp.seq ?_)
  | (with_reducible refine Wp.nx_mk ?_)
  | (with_reducible refine Wp.rt_mk ?_)
  | (with_reducible refine Wp.bk_mk ?_)
  | (with_reducible refine Wp.ct_mk ?_)
  | (with_reducible refine Wp.next ?_)
  | (with_reducible refine Wp.asg ?_)
  | ((with_reducible refine' Wp.gname ?e ?_); (case e => (try dsimp only [List.set, L2.wipe, List.map_cons, List.map_nil]); (try exact rfl)))
  | (with_reducible refine Wp.gsub ?_)
  | (with_reducible refine Wp.ret ?_)
  | (with_reducible refine Wp.retN ?_)
  | (with_reducible refine Wp.drop ?_)
  | (with_reducible refine Wp.dput ?_)
  | (with_reducible refine Wp.ifs ?_)
  | ((with_reducible refine' Wp.var ?h ?_); (case h => exact rfl))
  | (with_reducible refine Wp.con ?_)
  | (with_reducible refine Wp.op ?_)
  | (with_reducible refine Wp.un ?_)
  | (with_reducible refine Wp.cb ?_)
  | (with_reducible refine Wp.anil ?_)
  | (with_reducible refine Wp.acons ?_)
  | (with_reducible refine Wp.call ?_)
  | (with_reducible refine Wp.test ?_)
  | (with_reducible refine Wp.tb_ ?_)
  | (with_reducible refine Wp.and_ ?_)
  | (with_reducible refine Wp.or_ ?_)
  | (with_reducible refine Wp.not_ ?_)
  | (with_reducible refine Wp.andV ?_)
  | (with_reducible refine Wp.orV ?_)
  | (with_reducible refine Wp.notV ?_)
  | (with_reducible refine Wp.rI0_ ?_)
  | (with_reducible refine Wp.rU_ ?_)
  | ((with_reducible refine Wp.rEq_ ?k ?_); (case k => exact rfl))
  | ((with_reducible refine Wp.rNe_ ?k ?_); (case k => exact rfl))
  | (with_reducible refine Wp.gcons ?_)
  | (with_reducible refine Wp.gnil ?_)
  | ((with_reducible refine' Wp.gtup ?h ?e ?_); (case h => walk_at "sq"); (case e => exact rfl))
  | (with_reducible refine Wp.sl ?_)
  | (with_reducible refine Wp.part ?_)
  | (with_reducible refine Wp.nopart ?_)
  | (with_reducible refine Wp.ifE ?_)
  | (with_reducible refine Wp.bm0 ?_)
  | (with_reducible refine Wp.bm ?_)
  | (with_reducible refine Wp.lcR1 ?_)
  | (with_reducible refine Wp.lcR2 ?_)
  | (with_reducible refine Wp.lcL ?_)
  | (with_reducible refine Wp.chain ?_)
  | (with_reducible refine Wp.lc2V ?_)
  | (with_reducible refine Wp.piL ?_)
  | (with_reducible refine Wp.yes ?_)
  | (with_reducible refine Wp.dinI ?_)
  | (with_reducible refine Wp.dninI ?_)
  | (with_reducible refine Wp.dget ?_)
  | ((with_reducible refine' ⟨?k, ?_⟩); (case k => show L2.wipe _ _ = L2.wipe _ _; exact rfl))
  | (with_reducible refine Wp.forR1 ?_)
  | (with_reducible refine Wp.forR2 ?_)
  | (with_reducible refine Wp.forL ?_)
  | (with_reducible refine Wp.forT ?_)
  | ((with_reducible refine' ⟨?k, ?_⟩); (case k => exact Wp.tyvL (by walk_at "hp")))
  | ((with_reducible refine' Wp.rev_ ?k ?_); (case k => walk_at "hp"))
  | ((with_reducible refine' Wp.isi ?k ?h ?_); (case k => walk_at "kind"); (case h => decide))
  | ((with_reducible refine' Wp.typ ?k ?_); (case k => walk_at "kind"))
  | (with_reducible refine Wp.slS ?k ?_; (case k => assumption))
  | (with_reducible refine iteT ?_)
  | (with_reducible refine iteF ?_)
  | (with_reducible refine Wz.par ?_)
  | (with_reducible refine Wz.forN ?_)
  | (with_reducible refine Wz.dcL ?_)
  | (with_reducible refine Wz.forZ ?_)
  | (with_reducible refine Wz.lcR3 ?_)
  | (with_reducible refine Wc.revL ?_)
  | (with_reducible refine Wd.nm ?_)
  | (with_reducible refine Wd.nget ?_)
  | ((with_reducible refine Wd.tnew ?_); intro p hp)
  | (with_reducible refine Wd.pikn ?_)
  | (with_reducible refine Wt.m1 ?_)
  | (with_reducible refine Wt.m0 ?_)
  | ((with_reducible refine' ⟨?k, ?_⟩); (case k => show ∃ a, _ = V.str a; exact ⟨_, rfl⟩))
  | (with_reducible refine Wt.js_cons ?_)
  | (with_reducible refine Wt.fmt_ ?_)
  | (with_reducible refine Wp.pcons ?_)
  | (with_reducible refine Wp.pnil ?_)
  | ((with_reducible refine' Wp.iteBnT ?h ?_); (case h => show isB _ _ = false; decide))
  | ((with_reducible refine' Wp.iteBnF ?h ?_); (case h => show isB _ _ = true; decide))
  | ((with_reducible refine' Wp.iteBt ?h ?_); (case h => show isB _ _ = true; decide))
  | ((with_reducible refine' Wp.iteBf ?h ?_); (case h => show isB _ _ = false; decide))
  | (with_reducible refine Wp.iteT' ?_)
  | (with_reducible refine Wp.iteF' ?_)
  | (with_reducible refine Wp.rNT_ ?_)
  | ((with_reducible refine Wp.lst ?_))
  | ((with_reducible refine Wp.tup ?_))
  | ((with_reducible refine' Wp.ixL ?h ?e ?_); (case h => walk_at "sq"); (case e => exact rfl))
  | ((with_reducible refine' Wp.ixT ?h ?e ?_); (case h => walk_at "sq"); (case e => exact rfl))
  | ((with_reducible refine' Wp.setL ?h ?e ?_); (case h => walk_at "hp"); (case e => exact rfl))
  | ((with_reducible refine Wp.rI_ ?k ?_); (case k => first | (show (0:Int) < _; omega) | (show CPow _ _; refine' ⟨?_, ?_, ?_⟩ <;> omega) | (show CDiv _ _; refine' ⟨?_, ?_⟩ <;> omega) | (show CMul _ _; refine' Or.inl ⟨?_, ?_⟩ <;> omega) | (show CMul _ _; refine' Or.inr ⟨?_, ?_⟩ <;> first | omega | decide) | (show CDivW _ _; refine' wide_div (b := 240) ?_ ?_ ?_ ?_ <;> first | omega | decide)))
  | ((with_reducible refine ⟨?k, ?_⟩); (case k => first | exact Nat.zero_le _ | (exact Nat.le_of_ble_eq_true rfl)); intro p hp)
  | ((with_reducible refine' ⟨_, _, rfl, .inl ?k, ?_⟩); (case k => walk_at "sq"))
  | ((with_reducible refine' ⟨_, _, rfl, .inr ?k, ?_⟩); (case k => walk_at "sq"))
  | (with_reducible refine ⟨_, rfl, ?_⟩)
  | (with_reducible refine ⟨_, _, rfl, rfl, ?_⟩)
  | (with_reducible refine ⟨_, _, rfl, ?_⟩))
local macro_rules | `(tactic| walk_at "wp") => `(tactic| repeat (walk_at "w1"))

section
variable {P : Program} {w : World} {K : PySem.W.Frag} {mg : Str → Option Value} {base : Heap}
def spBegin (P : Program) (w : World) : Sp := fun vs H Q _ => ∃ (a : Addr) (ys : List V) (Ps : List (List W)), vs = [.ref a] ∧ H a = some (.lst ys) ∧ Lists [] H ys Ps ∧ Ps.length ≤ 61 ∧ (∀ q ∈ Ps, q.length ≤ 400) ∧ ∀ d H', H d = none → Wd.NDict P w H' d (Wk.kvsT (Wk.trie Ps)) → Same H H' → Q (.ref d) H'
theorem ok_beginnings_of (T : Txt P w K mg) : FnOk P w K mg base CX0 1 T.f_beginnings_of T.fd_beginnings_of ["piles"] (spBegin P w) := by
  refine T.F_beginnings_of.ok sc_beginnings_of (fun vs H Q E h => ?_) (fun cdv A outer s H vs Q E hr h => ?_)
  · obtain ⟨a, ys, Ps, rfl, _⟩ := h
    rfl
  · obtain ⟨a, ys, Ps, rfl, ha, L, l60, l400, q⟩ := h
    refine ⟨_, (pss_cons (ps_set (i := 1) sc_beginnings_of.nd rfl (.inl rfl) Wd.pe_new)
      (pss_cons (ps_for PassesOwn.never rfl (pi_list (pv 0)) (pg_name (i := 2) sc_beginnings_of.nd rfl (.inl rfl)) (pss_cons (ps_set (i := 3) sc_beginnings_of.nd rfl (.inl rfl) pe_int)
      (pss_one (ps_for PassesOwn.never rfl (pi_list (pv 2)) (pg_name (i := 4) sc_beginnings_of.nd rfl (.inl rfl)) (pss_one (ps_set (i := 3) sc_beginnings_of.nd rfl (.inl rfl) (Wd.pe_setD hr.units (pv 1) (pa_cons (pe_tup (pa_cons (pv 3) (pa_cons (pv 4) pa_nil))) (pa_cons (pe_op op_add (pe_callB Wd.call_lenN (by rfl) T.n_len (by decide +kernel) (pa_cons (pv 1) pa_nil)) pe_int) pa_nil)))))))))
      (pss_one (ps_ret (pv 1))))), ?_⟩
    rw [show L2.start ["piles", "numbers", "pile", "at", "worth"] [.ref a] = [some (.ref a), none, none, none, none] from rfl]
    try dsimp only [cxOf]
    walk_at "wp"
    rename_i d hd
    have sd := same_new (o := Wd.NO P w d []) hd
    refine ⟨⟨ys, SqL.of (sd _ _ ha)⟩, loopL (xs := ys) (fun i σ H' => ∃ y2 y3 y4, σ = [some (.ref a), some (.ref d), y2, y3, y4] ∧ Wd.NDict P w H' d (Wk.kvsT (Wk.trie (Ps.take i))) ∧ Same H H')
      ⟨_, _, _, rfl, Wd.ndict_new, sd⟩ (fun i σ H' hi h => by obtain ⟨_, _, _, _, _, s⟩ := h; exact SqL.of (s _ _ ha)) ?_ ?_⟩
    · rintro i x σ H1 hx ⟨y2, y3, y4, rfl, nd, s1⟩
      obtain ⟨p, hp, l, vs, rfl, hl, pv, _⟩ := pair_at1 L hx
      have lp4 := l400 p (List.mem_of_getElem? hp)
      have hi : i < Ps.length := (List.getElem?_eq_some_iff.mp hp).1
      have ok0 := Wk.trie_ok (Ps.take i)
      have hl1 := s1 _ _ hl
      have pv1 := pv.keep (Same.tk s1)
      have sz : (Wk.trie (Ps.take i)).length ≤ 61 * 400 := by
        have h1 := Wk.trie_size (ps := Ps.take i) (T := []) (m := 400) (fun q hq => l400 q (List.mem_of_mem_take hq))
        have h2 : (Ps.take i).length ≤ 61 := by rw [List.length_take]; omega
        have h3 : (Wk.trie (Ps.take i)).length ≤ [].length + (Ps.take i).length * 400 := h1
        have h4 : (Ps.take i).length * 400 ≤ 61 * 400 := Nat.mul_le_mul_right _ h2
        rw [List.length_nil] at h3
        omega
      have tnext : Wk.insPile (Wk.trie (Ps.take i)) p = Wk.trie (Ps.take (i + 1)) := by
        rw [List.take_add_one, hp]
        exact (Wk.trie_snoc _ _).symm
      generalize Wk.trie (Ps.take i) = T0 at nd ok0 sz tnext
      walk_at "wp"
      refine ⟨⟨vs, SqL.of hl1⟩, loopL (xs := vs) (fun j σ H' => ∃ y4, σ = [some (.ref a), some (.ref d), some (.ref l), some (.int ((Wk.numOf (Wk.at_ T0 p j) (p.take j) : Nat) : Int)), y4] ∧ Wd.NDict P w H' d (Wk.kvsT (Wk.at_ T0 p j)) ∧ Same H H')
        ⟨_, by rw [List.take_zero, Wk.numOf_nil]; rfl, nd, s1⟩ (fun j σ H' hj h => by obtain ⟨_, _, _, s⟩ := h; exact SqL.of (s _ _ hl)) ?_ ?_⟩
      · rintro j v σ H2 hv ⟨y4, rfl, nd2, s2⟩
        obtain ⟨z, hz, wz⟩ := pv.get hv
        have hj : j < p.length := (List.getElem?_eq_some_iff.mp hz).1
        have okj := Wk.at_ok (p := p) ok0 j (by omega)
        have here := Wk.at_here (T := T0) (p := p) (j := j) (by omega)
        have szj := Wk.at_size (T := T0) (p := p) j
        have wz2 := wz.keep (Same.tk s2)
        obtain ⟨t, rfl, ht⟩ := wz2
        have e1 := Wk.at_succ (T := T0) hz
        have e2 : p.take (j + 1) = p.take j ++ [z] := by rw [List.take_add_one, hz] <;> rfl
        rw [e1, e2]
        generalize Wk.at_ T0 p j = Tj at nd2 okj here szj
        have ssz : Tj.length < sizeLine := Nat.lt_of_le_of_lt (show Tj.length ≤ 25000 by omega) (by decide)
        walk_at "wp"
        refine ⟨⟨d, _, rfl, nd2⟩, ?_⟩
        walk_at "wp"
        rename_i k hk
        have sk := same_new (o := .tup [.int ((Wk.numOf Tj (p.take j) : Nat) : Int), .ref t]) hk
        have nd3 := nd2.same sk
        refine ⟨d, _, rfl, nd3, ?_⟩
        walk_at "wp"
        have isk : Wd.IsKN (upd H2 k (.tup [.int ((Wk.numOf Tj (p.take j) : Nat) : Int), .ref t])) k (((Wk.numOf Tj (p.take j) : Nat) : Int), z) := ⟨t, upd_same, sk _ _ ht⟩
        refine ⟨d, k, _, _, _, rfl, rfl, nd3, isk, by unfold Wk.kvsT; rw [List.length_map]; exact ssz, fun u hu => ?_, fun hn H3 nd4 k4 => ?_⟩
        · by_cases c : p.take j ++ [z] ∈ Tj
          · rw [Wk.step_old okj here c] at hu
            cases hu
            rw [Wk.ins_old c]
            walk_at "wp"
            exact ⟨nd3, s2.trans sk⟩
          · rw [Wk.step_none okj here c] at hu
            cases hu
        · have c : p.take j ++ [z] ∉ Tj := fun c => by
            rw [Wk.step_old okj here c] at hn
            cases hn
          rw [Wk.ins_new c, Wk.step_new okj here c, Wk.numOf_new c (by simp)]
          have el : ((Wk.kvsT Tj).length : Int) + 1 = ((Tj.length + 1 : Nat) : Int) := by
            unfold Wk.kvsT
            rw [List.length_map]
            omega
          rw [el] at nd4 ⊢
          walk_at "wp"
          exact ⟨nd4, fun b o e => k4 _ _ (ne_of_none e hd) ((s2.trans sk) _ _ e)⟩
      · rintro σ H2 ⟨y4, rfl, nd2, s2⟩
        rw [pv.len, Wk.at_len, tnext] at nd2
        walk_at "wp"
        exact ⟨_, _, _, rfl, nd2, s2⟩
    · rintro σ H1 ⟨y2, y3, y4, rfl, nd, s1⟩
      rw [L.len, List.take_length] at nd
      walk_at "wp"
      exact q d H1 hd nd s1

def spCheckSize : Sp := fun vs H Q _ => ∃ n : Int, vs = [.int n] ∧ 2 ≤ n ∧ n ≤ 64 ∧ Q .non H
theorem ok_check_size (T : Txt P w K mg) : FnOk P w K mg base CX0 2 T.f_check_size T.fd_check_size ["size"] spCheckSize := by
  have G_is_number := ok_is_number (base := base) T
  refine T.F_check_size.ok sc_check_size (fun vs H Q E h => ?_) (fun cdv A outer s H vs Q E hr h => ?_)
  · obtain ⟨n, rfl, _⟩ := h
    rfl
  · obtain ⟨n, rfl, n0, n1, q⟩ := h
    refine ⟨_, (pss_one (ps_if (PW.pt (pw_or (pt_not (pt_val (pe_call G_is_number (hr.mono (by decide)) (by rfl) T.g_is_number T.F_is_number.kp T.b_is_number .nil pass0 (pa_cons (pv 0) pa_nil)))) (pw_or1 (pt_not (pt_chain op_le op_le (pe_glob (v := .int (2)) (by rfl) T.c_LEAST_SIZE ⟨_, rfl⟩) (pv 0) (pe_glob (v := .int (64)) (by rfl) T.c_MOST_SIZE ⟨_, rfl⟩)))))) (pss_one ps_never) pss_nil)), ?_⟩
    rw [show L2.start ["size"] [.int n] = [some (.int n)] from rfl]
    try dsimp only [cxOf]
    walk_at "wp"
    refine ⟨_, _, rfl, .int _, ?_⟩
    walk_at "wp"
    refine iteN (fun e => absurd rfl e) (fun _ => ?_)
    walk_at "wp"
    refine ite_ (fun _ => ?_) (fun c => absurd n0 c)
    walk_at "wp"
    refine iteN (fun c => absurd n1 c) (fun _ => ?_)
    walk_at "wp"
    exact q
def spPath (P : Program) (w : World) : Sp := fun vs H Q _ => ∃ (d l : Addr) (T : List (List W)) (p : List W) (us : List V), vs = [.ref d, .ref l] ∧ Wd.NDict P w H d (Wk.kvsT T) ∧ H l = some (.lst us) ∧ Pile H us p ∧ Wk.TOk T ∧ Wy.Within T p ∧ p.length ≤ 400 ∧
  ∀ r H', H r = none → H' r = some (.lst (Wy.pathV T p)) → Same H H' → Q (.ref r) H'
theorem ok_path_of (T : Txt P w K mg) : FnOk P w K mg base CX0 1 T.f_path_of T.fd_path_of ["numbers", "pile"] (spPath P w) := by
  refine T.F_path_of.ok sc_path_of (fun vs H Q E h => ?_) (fun cdv A outer s H vs Q E hr h => ?_)
  · obtain ⟨d, l, T, p, us, rfl, _⟩ := h
    rfl
  · obtain ⟨d, l, Tr, p, us, rfl, nd, hl, hp, tok, wi, l400, q⟩ := h
    refine ⟨_, (pss_cons (ps_set (i := 2) sc_path_of.nd rfl (.inl rfl) (pe_lst (pa_cons pe_int pa_nil)))
      (pss_cons (ps_for PassesOwn.never rfl (pi_list (pv 1)) (pg_name (i := 3) sc_path_of.nd rfl (.inl rfl)) (pss_one (ps_expr (pe_bm PySem.F.plainAttrs_list PySem.F.slot_list_append PySem.F.type_list_append mt_append (pv 2) (pa_cons (Wd.pe_nget hr.units (pv 0) (pe_tup (pa_cons (pe_ix ix_list (pv 2) (pe_un un_neg pe_int) (fun _ _ => rfl)) (pa_cons (pv 3) pa_nil))) (fun _ _ => rfl)) pa_nil)))))
      (pss_one (ps_ret (pv 2))))), ?_⟩
    rw [show L2.start ["numbers", "pile", "path", "worth"] [.ref d, .ref l] = [some (.ref d), some (.ref l), none, none] from rfl]
    try dsimp only [cxOf]
    walk_at "wp"
    rename_i r hr0
    have s0 := same_new (o := .lst [.int 0]) hr0
    refine ⟨⟨us, SqL.of (s0 _ _ hl)⟩, loopL (xs := us) (fun j σ H' => ∃ y, σ = [some (.ref d), some (.ref l), some (.ref r), y] ∧ Same H H' ∧ H' r = some (.lst (Wy.pathU Tr p j))) ⟨_, rfl, s0, upd_same⟩ (fun j σ H' _ h => by obtain ⟨_, _, s, _⟩ := h; exact SqL.of (s _ _ hl)) ?_ ?_⟩
    · rintro j x σ H1 hx ⟨y, rfl, s1, hr1⟩
      obtain ⟨z, hz, wz⟩ := hp.get hx
      have hj : j < p.length := (List.getElem?_eq_some_iff.mp hz).1
      obtain ⟨t, rfl, ht⟩ := wz.keep (Same.tk s1)
      walk_at "wp"
      refine ixL (SqL.of hr1) Wy.pathU_last ?_
      walk_at "wp"
      rename_i k hk
      have sk := same_new (o := .tup [.int ((Wk.numOf Tr (p.take j) : Nat) : Int), .ref t]) hk
      have e2 : p.take (j + 1) = p.take j ++ [z] := by rw [List.take_add_one, hz] <;> rfl
      have mem : p.take j ++ [z] ∈ Tr := by
        rw [← e2]
        refine (wi (j + 1)).resolve_left fun e => ?_
        rw [e2] at e
        simp at e
      refine ⟨d, k, (((Wk.numOf Tr (p.take j) : Nat) : Int), z), _, _, rfl, rfl, nd.same (s1.trans sk), ⟨t, upd_same, sk _ _ ht⟩, Wk.step_old tok (wi j) mem, ?_⟩
      rw [← e2]
      walk_at "wp"
      refine app_ (sk _ _ hr1) (by unfold Wy.pathU; rw [List.length_map, List.length_range]; exact small (by omega)) ?_
      walk_at "wp"
      refine ⟨fun c o hc => ?_, ?_⟩
      · rw [upd_ne (ne_of_none hc hr0)]
        exact sk _ _ (s1 _ _ hc)
      · rw [Wy.pathU_succ]
        exact upd_same
    · rintro σ H1 ⟨y, rfl, s1, hr1⟩
      walk_at "wp"
      rw [hp.len] at hr1
      exact q r H1 hr0 hr1 s1
def spEdges : Sp := fun vs H Q _ => ∃ (s : Nat) (r d : Addr) (T : List (List W)) (p : List W) (st : List W → Bool) (kvs : List (Key × V)), vs = [.int s, .ref r, .ref d] ∧ H r = some (.lst (Wy.pathV T p)) ∧ H d = some (.dK kvs) ∧
  (∀ h, 1 ≤ h → h ≤ p.length → (valV kvs (.inl ((Wk.numOf T (p.take h) : Nat) : Int))).isSome = st (p.take h)) ∧ p.length ≤ 400 ∧ ∀ e H', H e = none → H' e = some (.lst ((Wg.es st s p).map fun h : Nat => V.int h)) → Same H H' → Q (.ref e) H'
theorem ok_edges_of (T : Txt P w K mg) : FnOk P w K mg base CX0 1 T.f_edges_of T.fd_edges_of ["size", "path", "stops"] spEdges := by
  refine T.F_edges_of.ok sc_edges_of (fun vs H Q E h => ?_) (fun cdv A outer s H vs Q E hr h => ?_)
  · obtain ⟨s, r, d, T, p, st, kvs, rfl, _⟩ := h
    rfl
  · obtain ⟨sz, r, d, Tr, p, st, kvs, rfl, hr0, hd, hst, l400, q⟩ := h
    have lv := Wy.pathV_len (T := Tr) (p := p)
    refine ⟨_, (pss_cons (ps_set (i := 3) sc_edges_of.nd rfl (.inl rfl) (pe_lst (pa_cons pe_int pa_nil)))
      (pss_cons (ps_for PassesOwn.never rfl (pi_range2 (by rfl) T.n_range (pa_cons pe_int (pa_cons (pe_callB call_len_seq (by rfl) T.n_len (by decide +kernel) (pa_cons (pv 1) pa_nil)) pa_nil))) (pg_name (i := 4) sc_edges_of.nd rfl (.inl rfl)) (pss_one (ps_if (PW.pt (pw_or (pt_cmp (pc_din (hu_of hr) (pe_ix ix_list (pv 1) (pv 4) (fun _ _ => rfl)) (pv 2))) (pw_or1 (pt_cmpR op_eq (pe_op op_sub (pv 4) (pe_ix ix_list (pv 3) (pe_un un_neg pe_int) (fun _ _ => rfl))) (pv 0) (nomark _))))) (pss_one (ps_expr (pe_bm PySem.F.plainAttrs_list PySem.F.slot_list_append PySem.F.type_list_append mt_append (pv 3) (pa_cons (pv 4) pa_nil)))) pss_nil)))
      (pss_one (ps_ret (pv 3))))), ?_⟩
    rw [show L2.start ["size", "path", "stops", "edges", "height"] [.int sz, .ref r, .ref d] = [some (.int sz), some (.ref r), some (.ref d), none, none] from rfl]
    try dsimp only [cxOf]
    walk_at "wp"
    rename_i e he
    have s0 := same_new (o := .lst [.int 0]) he
    have hr1 := s0 _ _ hr0
    walk_at "wp"
    refine ⟨⟨by decide, by decide, by rw [lv]; omega, by rw [lv]; omega⟩, loopR (fun i σ H' => ∃ y, σ = [some (.int sz), some (.ref r), some (.ref d), some (.ref e), y] ∧ Same H H' ∧ H' e = some (.lst ((Wg.E st sz p i).map fun h : Nat => V.int h))) ⟨_, rfl, s0, upd_same⟩ ?_ ?_⟩
    · rintro i σ H1 hi ⟨y, rfl, s1, he1⟩
      have hi2 : i < p.length := by rw [lv] at hi; omega
      have hr2 := s1 _ _ hr0
      have hd2 := s1 _ _ hd
      have la : atI ((Wg.E st sz p i).map fun h : Nat => V.int h) (-1) = some (V.int ((Wg.E st sz p i).getLastD 0 : Nat)) := by
        have ne := Wg.E_ne (st := st) (s := sz) (p := p) i
        have e1 := List.dropLast_concat_getLast ne
        rw [List.getLastD_eq_getLast?, List.getLast?_eq_some_getLast ne]
        conv => lhs; arg 1; rw [← e1]
        rw [List.map_append]
        exact Wy.at_end
      have le : (Wg.E st sz p i).length ≤ 401 := by
        have := Wy.E_len (st := st) (s := sz) (p := p) i
        omega
      have yes : st (p.take (i + 1)) = true ∨ i + 1 - (Wg.E st sz p i).getLastD 0 = sz → ∀ (H' : Hp) (e' : Addr), H' e' = some (.lst (((Wg.E st sz p i).map fun h : Nat => V.int h) ++ [V.int (1 + (i : Int))])) → H' e' = some (.lst ((Wg.E st sz p (i + 1)).map fun h : Nat => V.int h)) := by
        intro c H' e' h
        have e1 : Wg.E st sz p (i + 1) = Wg.E st sz p i ++ [i + 1] := if_pos c
        rw [e1, List.map_append, h, List.map_cons, List.map_nil, show (1 + (i : Int)) = ((i + 1 : Nat) : Int) by omega]
      have no : ¬ (st (p.take (i + 1)) = true ∨ i + 1 - (Wg.E st sz p i).getLastD 0 = sz) → Wg.E st sz p (i + 1) = Wg.E st sz p i := fun c => if_neg c
      have hm := Wg.last_mem (Wg.E_ne (st := st) (s := sz) (p := p) i)
      have hle := (Wg.E_rise (st := st) (s := sz) (p := p) i).2 _ hm
      walk_at "wp"
      refine ixL (SqL.of hr2) (atI_of (n := i + 1) (by omega) (Wy.pathV_at (by omega))) ?_
      walk_at "wp"
      have hs := hst (i + 1) (by omega) (by omega)
      refine ⟨d, _, rfl, DGet.k (k := .inl ((Wk.numOf Tr (p.take (i + 1)) : Nat) : Int)) hd2, ?_⟩
      rw [hs]
      have fin : st (p.take (i + 1)) = true ∨ i + 1 - (Wg.E st sz p i).getLastD 0 = sz → Same H (upd H1 e (.lst (((Wg.E st sz p i).map fun h : Nat => V.int h) ++ [V.int (1 + (i : Int))]))) ∧ upd H1 e (.lst (((Wg.E st sz p i).map fun h : Nat => V.int h) ++ [V.int (1 + (i : Int))])) e = some (.lst ((Wg.E st sz p (i + 1)).map fun h : Nat => V.int h)) :=
        fun c => ⟨fun c o hc => by rw [upd_ne (ne_of_none hc he)]; exact s1 _ _ hc, yes c _ _ upd_same⟩
      have szl : ((Wg.E st sz p i).map fun h : Nat => V.int h).length < sizeLine := by rw [List.length_map]; exact small (by omega)
      walk_at "wp"
      refine iteB (fun c => ?_) (fun c => ?_)
      · walk_at "wp"
        refine app_ he1 szl ?_
        walk_at "wp"
        exact fin (.inl c)
      · walk_at "wp"
        refine ixL (SqL.of he1) la ?_
        walk_at "wp"
        refine ite_ (fun c2 => ?_) (fun c2 => ?_)
        · have c3 := V.int.inj c2
          walk_at "wp"
          refine app_ he1 szl ?_
          walk_at "wp"
          exact fin (.inr (by omega))
        · walk_at "wp"
          refine ⟨s1, ?_⟩
          rw [no]
          · exact he1
          · rintro (q | q)
            · rw [c] at q; cases q
            · exact c2 (congrArg V.int (by omega))
    · rintro σ H1 ⟨y, rfl, s1, he1⟩
      walk_at "wp"
      refine q e H1 he ?_ s1
      rw [show ((((Wy.pathV Tr p).length : Nat) : Int) - 1).toNat = p.length by rw [lv]; omega] at he1
      exact he1

end
end K10

namespace K10
open PySem PySem.Spec PyProof.Rows L2 Wp Wq Wr Wb
local macro_rules | `(tactic| walk_at "ne") => `(tactic| first
  | assumption
  | (refine Ne.symm ?_; assumption)
  | exact ne_of_none (by assumption) (by assumption)
  | exact (ne_of_none (by assumption) (by assumption)).symm
  | exact ne_of (by assumption) (by assumption) (by intro q; cases q))
local macro_rules | `(tactic| walk_at "hp") => `(tactic| first
  | assumption
  | exact upd_same
  | (refine (upd_ne ?_).trans ?_; (walk_at "ne"); (walk_at "hp")))
local macro_rules | `(tactic| walk_at "sq") => `(tactic| first
  | assumption
  | exact SqL.of (by walk_at "hp")
  | exact SqT.of (by walk_at "hp"))
local macro_rules | `(tactic| walk_at "kind") => `(tactic| first
  | assumption
  | exact Kind.int _
  | exact Kind.str _
  | exact Kind.bl _
  | exact Kind.non
  | exact Kind.tup (by walk_at "hp")
  | exact Kind.lst (by walk_at "hp")
  | exact Kind.dK (by walk_at "hp"))
local macro_rules | `(tactic| walk_at "w1") => `(tactic| first
  | (with_reducible refine Wp.seq ?_)
  | (with_reducible refine Wp.nx_mk ?_)
  | (with_reducible refine Wp.rt_mk ?_)
  | (with_reducible refine Wp.bk_mk ?_)
  | (with_reducible refine Wp.ct_mk ?_)
  | (with_reducible refine Wp.next ?_)
  | (with_reducible refine Wp.asg ?_)
  | ((with_reducible refine' Wp.gname ?e ?_); (case e => (try dsimp only [List.set, L2.wipe, List.map_cons, List.map_nil]); (try exact rfl)))
  | (with_reducible refine Wp.gsub ?_)
  | (with_reducible refine Wp.ret ?_)
  | (with_reducible refine Wp.retN ?_)
  | (with_reducible refine Wp.drop ?_)
  | (with_reducible refine Wp.dput ?_)
  | (with_reducible refine Wp.ifs ?_)
  | ((with_reducible refine' Wp.var ?h ?_); (case h => exact rfl))
  | (with_reducible refine Wp.con ?_)
  | (with_reducible refine Wp.op ?_)
  | (with_reducible refine Wp.un ?_)
  | (with_reducible refine Wp.cb ?_)
  | (with_reducible refine Wp.anil ?_)
  | (with_reducible refine Wp.acons ?_)
  | (with_reducible refine Wp.call ?_)
  | (with_reducible refine Wp.test ?_)
  | (with_reducible refine Wp.tb_ ?_)
  | (with_reducible refine Wp.and_ ?_)
  | (with_reducible refine Wp.or_ ?_)
  | (with_reducible refine Wp.not_ ?_)
  | (with_reducible refine Wp.andV ?_)
  | (with_reducible refine Wp.orV ?_)
  | (with_reducible refine Wp.notV ?_)
  | (with_reducible refine Wp.rI0_ ?_)
  | (with_reducible refine Wp.rU_ ?_)
  | ((with_reducible refine Wp.rEq_ ?k ?_); (case k => exact rfl))
  | ((with_reducible refine Wp.rNe_ ?k ?_); (case k => exact rfl))
  | (with_reducible refine Wp.gcons ?_)
  | (with_reducible refine Wp.gnil ?_)
  | ((with_reducible refine' Wp.gtup ?h ?e ?_); (case h => walk_at "sq"); (case e => exact rfl))
  | (with_reducible refine Wp.sl ?_)
  | (with_reducible refine Wp.part ?_)
  | (with_reducible refine Wp.nopart ?_)
  | (with_reducible refine Wp.ifE ?_)
  | (with_reducible refine Wp.bm0 ?_)
  | (with_reducible refine Wp.bm ?_)
  | (with_reducible refine Wp.lcR1 ?_)
  | (with_reducible refine Wp.lcR2 ?_)
  | (with_reducible refine Wp.lcL ?_)
  | (with_reducible refine Wp.chain ?_)
  | (with_reducible refine Wp.lc2V ?_)
  | (with_reducible refine Wp.piL ?_)
  | (with_reducible refine Wp.yes ?_)
  | (with_reducible refine Wp.dinI ?_)
  | (with_reducible refine Wp.dninI ?_)
  | (with_reducible refine Wp.dget ?_)
  | ((with_reducible refine' ⟨?k, ?_⟩); (case k => show L2.wipe _ _ = L2.wipe _ _; exact rfl))
  | (with_reducible refine Wp.forR1 ?_)
  | (with_reducible refine Wp.forR2 ?_)
  | (with_reducible refine Wp.forL ?_)
  | (with_reducible refine Wp.forT ?_)
  | ((with_reducible refine' ⟨?k, ?_⟩); (case k => exact Wp.tyvL (by walk_at "hp")))
  | ((with_reducible refine' Wp.rev_ ?k ?_); (case k => walk_at "hp"))
  | ((with_reducible refine' Wp.isi ?k ?h ?_); (case k => walk_at "kind"); (case h => decide))
  | ((with_reducible refine' Wp.typ ?k ?_); (case k => walk_at "kind"))
  | (with_reducible refine Wp.slS ?k ?_; (case k => assumption))
  | (with_reducible refine iteT ?_)
  | (with_reducible refine iteF ?_)
  | (with_reducible refine Wz.par ?_)
  | (with_reducible refine Wz.forN ?_)
  | (with_reducible refine Wz.dcL ?_)
  | (with_reducible refine Wz.forZ ?_)
  | (with_reducible refine Wz.lcR3 ?_)
  | (with_reducible refine Wc.revL ?_)
  | (with_reducible refine Wd.nm ?_)
  | (with_reducible refine Wd.nget ?_)
  | ((with_reducible refine Wd.tnew ?_); intro p hp)
  | (with_reducible refine Wd.pikn ?_)
  | (with_reducible refine Wt.m1 ?_)
  | (with_reducible refine Wt.m0 ?_)
  | ((with_reducible refine' ⟨?k, ?_⟩); (case k => show ∃ a, _ = V.str a; exact ⟨_, rfl⟩))
  | (with_reducible refine Wt.js_cons ?_)
  | (with_reducible refine Wt.fmt_ ?_)
  | (with_reducible refine Wp.pcons ?_)
  | (with_reducible refine Wp.pnil ?_)
  | ((with_reducible refine' Wp.iteBnT ?h ?_); (case h => show isB _ _ = false; decide))
  | ((with_reducible refine' Wp.iteBnF ?h ?_); (case h => show isB _ _ = true; decide))
  | ((with_reducible refine' Wp.iteBt ?h ?_); (case h => show isB _ _ = true; decide))
  | ((with_reducible refine' Wp.iteBf ?h ?_); (case h => show isB _ _ = false; decide))
  | (with_reducible refine Wp.iteT' ?_)
  | (with_reducible refine Wp.iteF' ?_)
  | (with_reducible refine Wp.rNT_ ?_)
  | ((with_reducible refine Wp.lst ?_))
  | ((with_reducible refine Wp.tup ?_))
  | ((with_reducible refine' Wp.ixL ?h ?e ?_); (case h => walk_at "sq"); (case e => exact rfl))
  | ((with_reducible refine' Wp.ixT ?h ?e ?_); (case h => walk_at "sq"); (case e => exact rfl))
  | ((with_reducible refine' Wp.setL ?h ?e ?_); (case h => walk_at "hp"); (case e => exact rfl))
  | ((with_reducible refine Wp.rI_ ?k ?_); (case k => first | (show (0:Int) < _; omega) | (show CPow _ _; refine' ⟨?_, ?_, ?_⟩ <;> omega) | (show CDiv _ _; refine' ⟨?_, ?_⟩ <;> omega) | (show CMul _ _; refine' Or.inl ⟨?_, ?_⟩ <;> omega) | (show CMul _ _; refine' Or.inr ⟨?_, ?_⟩ <;> first | omega | decide) | (show CDivW _ _; refine' wide_div (b := 240) ?_ ?_ ?_ ?_ <;> first | omega | decide)))
  | ((with_reducible refine ⟨?k, ?_⟩); (case k => first | exact Nat.zero_le _ | (exact Nat.le_of_ble_eq_true rfl)); intro p hp)
  | ((with_reducible refine' ⟨_, _, rfl, .inl ?k, ?_⟩); (case k => walk_at "sq"))
  | ((with_reducible refine' ⟨_, _, rfl, .inr ?k, ?_⟩); (case k => walk_at "sq"))
  | (with_reducible refine ⟨_, rfl, ?_⟩)
  | (with_reducible refine ⟨_, _, rfl, rfl, ?_⟩)
  | (with_reducible refine ⟨_, _, rfl, ?_⟩))
local macro_rules | `(tactic| walk_at "wp") => `(tactic| repeat (walk_at "w1"))

section
variable {P : Program} {w : World} {K : PySem.W.Frag} {mg : Str → Option Value} {base : Heap}
/-- how many of the first keys lie on the number n -/
def cnt (es : List Wd.NE) (i : Nat) (n : Int) : Nat := ((es.take i).filter fun e => decide (e.1.1 = n)).length
theorem cnt_succ {es : List Wd.NE} {i : Nat} {e : Wd.NE} (h : es[i]? = some e) (n : Int) : cnt es (i + 1) n = cnt es i n + if e.1.1 = n then 1 else 0 := by
  unfold cnt
  rw [List.take_add_one, h, List.filter_append, List.length_append]
  congr 1
  by_cases c : e.1.1 = n
  · simp [c]
  · simp [c]
theorem cnt_all {es : List Wd.NE} {T : List (List W)} (hT : Wk.TOk T) (ek : es.map (fun e => (e.1, e.2.2)) = Wk.kvsT T) {q : List W} (hq : q = [] ∨ q ∈ T) :
    cnt es es.length ((Wk.numOf T q : Nat) : Int) = (T.filter fun x => decide (x.dropLast = q)).length := by
  unfold cnt
  rw [List.take_length]
  have e1 : (es.filter fun e => decide (e.1.1 = ((Wk.numOf T q : Nat) : Int))).length = ((es.map fun e => (e.1, e.2.2)).filter fun k => decide (k.1.1 = ((Wk.numOf T q : Nat) : Int))).length := by
    rw [List.filter_map, List.length_map]
    rfl
  rw [e1, ek]
  unfold Wk.kvsT
  rw [List.filter_map, List.length_map]
  congr 1
  refine List.filter_congr fun x hx => ?_
  show decide ((((Wk.numOf T x.dropLast : Nat) : Int)) = ((Wk.numOf T q : Nat) : Int)) = decide (x.dropLast = q)
  refine decide_eq_decide.mpr ⟨fun e => Wk.numOf_inj (hT.cl x hx) hq (by omega), fun e => by rw [e]⟩
def spStops (P : Program) (w : World) : Sp := fun vs H Q _ => ∃ (d ps : Addr) (T Ps : List (List W)) (pys : List V), vs = [.ref d, .ref ps] ∧ Wd.NDict P w H d (Wk.kvsT T) ∧ H ps = some (.lst pys) ∧ Paired (Wy.IsPath T H) pys Ps ∧ Wk.TOk T ∧ (∀ p ∈ Ps, p = [] ∨ p ∈ T) ∧ Ps.length ≤ 61 ∧ T.length ≤ 30000 ∧
  ∀ r kvs H', H r = none → H' r = some (.dK kvs) → (∀ q, q = [] ∨ q ∈ T → (valV kvs (.inl ((Wk.numOf T q : Nat) : Int))).isSome = Wy.stB T Ps q) → Same H H' → Q (.ref r) H'
theorem ok_stops_of (T : Txt P w K mg) : FnOk P w K mg base CX0 1 T.f_stops_of T.fd_stops_of ["numbers", "paths"] (spStops P w) := by
  refine T.F_stops_of.ok sc_stops_of (fun vs H Q E h => ?_) (fun cdv A outer s H vs Q E hr h => ?_)
  · obtain ⟨d, ps, Tr, Ps, pys, rfl, _⟩ := h
    rfl
  · obtain ⟨d, ps, Tr, Ps, pys, rfl, nd, hps, pp, tok, pin, l61, lT, q⟩ := h
    have ly : pys.length = Ps.length := Paired.length pp
    refine ⟨_, (pss_cons (Wv.ps_setDc (i := 2) (own := [("path", 6)]) rfl sc_stops_of.nd rfl rfl (Wv.sw_dict rfl rfl rfl (by decide +kernel)) (pi_list (pv 1)) (blkOk_by (N := ["numbers", "paths", "stops", "followed", "under", "_", "path"]) (sc := defScope s_stops_of) (by decide +kernel)) (fun _ _ _ _ _ => pg_name (i := 6) sc_stops_of.nd rfl (Or.inl rfl)) (fun _ _ _ _ _ => pts_nil) (fun _ _ _ _ _ => (pe_ix (show IxR _ (rIxL K) from ix_list) (pv 6) (pe_un un_neg pe_int) (fun _ _ => rfl))) (fun _ _ _ _ _ => pe_bl))
      (pss_cons (ps_set (i := 3) sc_stops_of.nd rfl (.inl rfl) pe_dnewK)
      (pss_cons (ps_lock (ps_for PassesOwn.never rfl (Wd.pi_keysN (pv 0)) (pg_tup (by rfl) (pgs_cons (pg_name (i := 4) sc_stops_of.nd rfl (.inl rfl)) (pgs_cons (pg_name (i := 5) sc_stops_of.nd rfl (.inl rfl)) pgs_nil))) (C8.pss_cut (ps_if (pt_cmp (pc_din (hu_of hr) (pv 4) (pv 3))) (pss_one (ps_dput (hu_of hr) (pv 2) (pv 4) pe_bl rfl)) pss_nil)
      (pss_one (ps_dput (hu_of hr) (pv 3) (pv 4) pe_bl rfl)))))
      (pss_one (ps_ret (pv 2)))))), ?_⟩
    rw [show L2.start ["numbers", "paths", "stops", "followed", "under", "_", "path"] [.ref d, .ref ps] = [some (.ref d), some (.ref ps), none, none, none, none, none] from rfl]
    try dsimp only [cxOf]
    walk_at "wp"
    refine ⟨⟨pys, SqL.of hps⟩, fun D hD => ?_⟩
    refine Wz.loopDL (xs := pys) (fun i H' => Same H H' ∧ ∃ kvs, H' D = some (.dK kvs) ∧ kvs.length ≤ i ∧ ∀ n : Int, (valV kvs (.inl n)).isSome = decide (∃ p ∈ Ps.take i, ((Wk.numOf Tr p : Nat) : Int) = n))
      ⟨same_new hD, [], upd_same, Nat.le_refl _, fun n => by rw [List.take_zero]; simp [valV_nil]⟩ (fun i H' _ h => SqL.of (h.1 _ _ hps)) ?_ ?_
    · rintro i x H1 hx ⟨s1, kvs, hD1, lk, hk⟩
      obtain ⟨p, hp, r, rfl, hr0⟩ := pair_at1 pp hx
      have hi : i < Ps.length := (List.getElem?_eq_some_iff.mp hp).1
      walk_at "wp"
      refine ixL (SqL.of (s1 _ _ hr0)) Wy.pathV_last ?_
      walk_at "wp"
      refine ⟨kvs, .inl ((Wk.numOf Tr p : Nat) : Int), rfl, hD1, small (by omega), ?_, _, upd_same, ?_, ?_⟩
      · intro c o hc
        rw [upd_ne (ne_of_none hc hD)]
        exact s1 _ _ hc
      · have := length_putK kvs (.inl ((Wk.numOf Tr p : Nat) : Int)) (V.bl true); omega
      · intro n
        rw [valV_put, List.take_add_one, hp]
        by_cases c : n = ((Wk.numOf Tr p : Nat) : Int)
        · rw [if_pos (by rw [c])]
          symm
          show decide _ = true
          rw [decide_eq_true_eq]
          exact ⟨p, List.mem_append_right _ (by simp), c.symm⟩
        · rw [if_neg (fun e => c (Sum.inl.inj e)), hk n]
          refine decide_eq_decide.mpr ⟨fun ⟨y, hy, e⟩ => ⟨y, List.mem_append_left _ hy, e⟩, fun ⟨y, hy, e⟩ => ?_⟩
          rcases List.mem_append.mp hy with hy | hy
          · exact ⟨y, hy, e⟩
          · have : y = p := by simpa using hy
            rw [this] at e
            exact absurd e.symm c
    · rintro H1 ⟨s1, kvs, hD1, lk, hk⟩
      rw [ly, List.take_length] at hk
      walk_at "wp"
      intro f hf
      walk_at "wp"
      have s2 := s1.trans (same_new (o := .dK []) hf)
      have hDf : D ≠ f := ne_of_none hD1 hf
      have hD2 : upd H1 f (.dK []) D = some (.dK kvs) := by rw [upd_ne hDf]; exact hD1
      have hf2 : upd H1 f (.dK []) f = some (.dK []) := upd_same
      have hfH : H f = none := by
        cases e : H f with
        | none => rfl
        | some o => exact absurd (s1 _ _ e) (by rw [hf]; exact fun h => nomatch h)
      generalize upd H1 f (.dK []) = H2 at s2 hD2 hf2
      have nd2 := nd.same s2
      obtain ⟨es, hd2, hkn, ek⟩ := nd2
      have le : es.length = Tr.length := by
        have := congrArg List.length ek
        unfold Wk.kvsT at this
        rw [List.length_map, List.length_map] at this
        exact this
      have hdD : d ≠ D := ne_of hd2 hD2 (by intro q; cases q)
      have hdf : d ≠ f := ne_of hd2 hf2 (by intro q; cases q)
      refine Wz.lockN hd2 trivial fun od => ?_
      walk_at "wp"
      refine ⟨d, od, es, rfl, upd_same, ?_⟩
      have tk3 : Tk H2 (upd H2 d (.frz od (Wd.NO P w d es))) := fun t xs e => by rw [upd_ne (ne_of e hd2 (by intro q; cases q))]; exact e
      refine Wz.loopN (fun i σ H' => ∃ y4 y5, σ = [some (.ref d), some (.ref ps), some (.ref D), some (.ref f), y4, y5, none] ∧ H' d = some (.frz od (Wd.NO P w d es)) ∧ (∀ a o, a ≠ d → a ≠ D → a ≠ f → H2 a = some o → H' a = some o) ∧
        ∃ sk fk, H' D = some (.dK sk) ∧ H' f = some (.dK fk) ∧ sk.length ≤ Ps.length + i ∧ fk.length ≤ i ∧ (∀ n : Int, (valV sk (.inl n)).isSome = (decide (∃ p ∈ Ps, ((Wk.numOf Tr p : Nat) : Int) = n) || decide (2 ≤ cnt es i n))) ∧ ∀ n : Int, (valV fk (.inl n)).isSome = decide (1 ≤ cnt es i n))
        ⟨_, _, rfl, upd_same, (fun a o h1 _ _ e => by rw [upd_ne h1]; exact e), kvs, [], by rw [upd_ne hdD.symm]; exact hD2, by rw [upd_ne hdf.symm]; exact hf2, by omega, Nat.le_refl _, fun n => by rw [hk n]; simp [cnt], fun n => by simp [cnt, valV_nil]⟩ (fun i σ H' _ h => by obtain ⟨_, _, _, h, _⟩ := h; exact h) ?_ ?_
      · rintro i e σ H3 he ⟨y4, y5, rfl, hd3, k3, sk, fk, hD3, hf3, lsk, lfk, hsk, hfk⟩
        obtain ⟨t, hb, ht⟩ := hkn e (List.mem_of_getElem? he)
        have hb3 : H3 e.2.1 = some (.tup [.int e.1.1, .ref t]) := k3 _ _ (ne_of hb hd2 (by intro q; cases q)) (ne_of hb hD2 (by intro q; cases q)) (ne_of hb hf2 (by intro q; cases q)) hb
        have hi : i < Tr.length := by rw [← le]; exact (List.getElem?_eq_some_iff.mp he).1
        have cs := cnt_succ he
        walk_at "wp"
        refine Wp.cut (fun σ' H' => σ' = [some (.ref d), some (.ref ps), some (.ref D), some (.ref f), some (.int e.1.1), some (.ref t), none] ∧ H' d = some (.frz od (Wd.NO P w d es)) ∧ (∀ a o, a ≠ d → a ≠ D → a ≠ f → H2 a = some o → H' a = some o) ∧
          ∃ sk', H' D = some (.dK sk') ∧ H' f = some (.dK fk) ∧ sk'.length ≤ Ps.length + (i + 1) ∧ ∀ n : Int, (valV sk' (.inl n)).isSome = (decide (∃ p ∈ Ps, ((Wk.numOf Tr p : Nat) : Int) = n) || decide (2 ≤ cnt es (i + 1) n))) ?_ ?_
        · walk_at "wp"
          refine ⟨f, _, rfl, DGet.k (k := .inl e.1.1) hf3, ?_⟩
          rw [hfk]
          walk_at "wp"
          refine ite_ (fun c => ?_) (fun c => ?_)
          · walk_at "wp"
            refine ⟨D, _, rfl, DPut.k (k := .inl e.1.1) hD3 (small (by omega)), ?_⟩
            walk_at "wp"
            refine ⟨rfl, by rw [upd_ne hdD]; exact hd3, (fun a o h1 h2 h3 h => by rw [upd_ne h2]; exact k3 a o h1 h2 h3 h), _, upd_same, by rw [upd_ne hDf.symm]; exact hf3, ?_, ?_⟩
            · have := length_putK sk (.inl e.1.1) (V.bl true); omega
            · intro n
              rw [valV_put]
              by_cases cn : n = e.1.1
              · subst cn
                rw [if_pos rfl]
                symm
                show (_ || decide (2 ≤ cnt es (i + 1) e.1.1)) = true
                rw [cs, if_pos rfl, decide_eq_true (show 2 ≤ cnt es i e.1.1 + 1 by omega), Bool.or_true]
              · rw [if_neg (fun q => cn (Sum.inl.inj q)), hsk n, cs n, if_neg (fun q => cn q.symm), Nat.add_zero]
          · walk_at "wp"
            refine ⟨rfl, hd3, k3, sk, hD3, hf3, by omega, fun n => ?_⟩
            rw [hsk n, cs n]
            congr 1
            refine decide_eq_decide.mpr ?_
            by_cases cn : e.1.1 = n
            · subst cn
              rw [if_pos rfl]
              omega
            · rw [if_neg cn]
              omega
        · rintro σ' H4 ⟨rfl, hd4, k4, sk', hD4, hf4, lsk', hsk'⟩
          walk_at "wp"
          refine ⟨f, _, rfl, DPut.k (k := .inl e.1.1) hf4 (small (by omega)), ?_⟩
          walk_at "wp"
          refine ⟨by rw [upd_ne hdf]; exact hd4, (fun a o h1 h2 h3 h => by rw [upd_ne h3]; exact k4 a o h1 h2 h3 h), sk', _, by rw [upd_ne hDf]; exact hD4, upd_same, lsk', ?_, hsk', fun n => ?_⟩
          · have := length_putK fk (.inl e.1.1) (V.bl true); omega
          · rw [valV_put, cs n]
            by_cases cn : n = e.1.1
            · subst cn
              rw [if_pos rfl, if_pos rfl]
              symm
              show decide _ = true
              rw [decide_eq_true_eq]
              omega
            · rw [if_neg (fun q => cn (Sum.inl.inj q)), hfk n, if_neg (fun q => cn q.symm), Nat.add_zero]
      · rintro σ H3 ⟨y4, y5, rfl, hd3, k3, sk, fk, hD3, hf3, lsk, lfk, hsk, hfk⟩
        refine ⟨hd3, ?_⟩
        walk_at "wp"
        refine q D sk _ hD (by rw [upd_ne hdD.symm]; exact hD3) (fun q hq => ?_) ?_
        · rw [hsk, cnt_all tok ek hq]
          unfold Wy.stB
          congr 1
          refine decide_eq_decide.mpr ⟨fun ⟨p, hp, e⟩ => ?_, fun hp => ⟨q, hp, rfl⟩⟩
          have := Wk.numOf_inj (pin p hp) hq (by omega)
          rw [← this]
          exact hp
        · intro a o ha
          have ha2 := s2 _ _ ha
          by_cases c : a = d
          · subst c
            rw [upd_same]
            rw [hd2] at ha2
            exact ha2
          · rw [upd_ne c]
            exact k3 a o c (ne_of_none ha hD) (ne_of_none ha hfH) ha2

end
end K10

namespace K10
open PySem PySem.Spec PyProof.Rows L2 Wp Wq Wr Wb
local macro_rules | `(tactic| walk_at "ne") => `(tactic| first
  | assumption
  | (refine Ne.symm ?_; assumption)
  | exact ne_of_none (by assumption) (by assumption)
  | exact (ne_of_none (by assumption) (by assumption)).symm
  | exact ne_of (by assumption) (by assumption) (by intro q; cases q))
local macro_rules | `(tactic| walk_at "hp") => `(tactic| first
  | assumption
  | exact upd_same
  | (refine (upd_ne ?_).trans ?_; (walk_at "ne"); (walk_at "hp")))
local macro_rules | `(tactic| walk_at "sq") => `(tactic| first
  | assumption
  | exact SqL.of (by walk_at "hp")
  | exact SqT.of (by walk_at "hp"))
local macro_rules | `(tactic| walk_at "kind") => `(tactic| first
  | assumption
  | exact Kind.int _
  | exact Kind.str _
  | exact Kind.bl _
  | exact Kind.non
  | exact Kind.tup (by walk_at "hp")
  | exact Kind.lst (by walk_at "hp")
  | exact Kind.dK (by walk_at "hp"))
local macro_rules | `(tactic| walk_at "w1") => `(tactic| first
  | (with_reducible refine Wp.seq ?_)
  | (with_reducible refine Wp.nx_mk ?_)
  | (with_reducible refine Wp.rt_mk ?_)
  | (with_reducible refine Wp.bk_mk ?_)
  | (with_reducible refine Wp.ct_mk ?_)
  | (with_reducible refine Wp.next ?_)
  | (with_reducible refine Wp.asg ?_)
  | ((with_reducible refine' Wp.gname ?e ?_); (case e => (try dsimp only [List.set, L2.wipe, List.map_cons, List.map_nil]); (try exact rfl)))
  | (with_reducible refine Wp.gsub ?_)
  | (with_reducible refine Wp.ret ?_)
  | (with_reducible refine Wp.retN ?_)
  | (with_reducible refine Wp.drop ?_)
  | (with_reducible refine Wp.dput ?_)
  | (with_reducible refine Wp.ifs ?_)
  | ((with_reducible refine' Wp.var ?h ?_); (case h => exact rfl))
  | (with_reducible refine Wp.con ?_)
  | (with_reducible refine Wp.op ?_)
  | (with_reducible refine Wp.un ?_)
  | (with_reducible refine Wp.cb ?_)
  | (with_reducible refine Wp.anil ?_)
  | (with_reducible refine Wp.acons ?_)
  | (with_reducible refine Wp.call ?_)
  | (with_reducible refine Wp.test ?_)
  | (with_reducible refine Wp.tb_ ?_)
  | (with_reducible refine Wp.and_ ?_)
  | (with_reducible refine Wp.or_ ?_)
  | (with_reducible refine Wp.not_ ?_)
  | (with_reducible refine Wp.andV ?_)
  | (with_reducible refine Wp.orV ?_)
  | (with_reducible refine Wp.notV ?_)
  | (with_reducible refine Wp.rI0_ ?_)
  | (with_reducible refine Wp.rU_ ?_)
  | ((with_reducible refine Wp.rEq_ ?k ?_); (case k => exact rfl))
  | ((with_reducible refine Wp.rNe_ ?k ?_); (case k => exact rfl))
  | (with_reducible refine Wp.gcons ?_)
  | (with_reducible refine Wp.gnil ?_)
  | ((with_reducible refine' Wp.gtup ?h ?e ?_); (case h => walk_at "sq"); (case e => exact rfl))
  | (with_reducible refine Wp.sl ?_)
  | (with_reducible refine Wp.part ?_)
  | (with_reducible refine Wp.nopart ?_)
  | (with_reducible refine Wp.ifE ?_)
  | (with_reducible refine Wp.bm0 ?_)
  | (with_reducible refine Wp.bm ?_)
  | (with_reducible refine Wp.lcR1 ?_)
  | (with_reducible refine Wp.lcR2 ?_)
  | (with_reducible refine Wp.lcL ?_)
  | (with_reducible refine Wp.chain ?_)
  | (with_reducible refine Wp.lc2V ?_)
  | (with_reducible refine Wp.piL ?_)
  | (with_reducible refine Wp.yes ?_)
  | (with_reducible refine Wp.dinI ?_)
  | (with_reducible refine Wp.dninI ?_)
  | (with_reducible refine Wp.dget ?_)
  | ((with_reducible refine' ⟨?k, ?_⟩); (case k => show L2.wipe _ _ = L2.wipe _ _; exact rfl))
  | (with_reducible refine Wp.forR1 ?_)
  | (with_reducible refine Wp.forR2 ?_)
  | (with_reducible refine Wp.forL ?_)
  | (with_reducible refine Wp.forT ?_)
  | ((with_reducible refine' ⟨?k, ?_⟩); (case k => exact Wp.tyvL (by walk_at "hp")))
  | ((with_reducible refine' Wp.rev_ ?k ?_); (case k => walk_at "hp"))
  | ((with_reducible refine' Wp.isi ?k ?h ?_); (case k => walk_at "kind"); (case h => decide))
  | ((with_reducible refine' Wp.typ ?k ?_); (case k => walk_at "kind"))
  | (with_reducible refine Wp.slS ?k ?_; (case k => assumption))
  | (with_reducible refine iteT ?_)
  | (with_reducible refine iteF ?_)
  | (with_reducible refine Wz.par ?_)
  | (with_reducible refine Wz.forN ?_)
  | (with_reducible refine Wz.dcL ?_)
  | (with_reducible refine Wz.forZ ?_)
  | (with_reducible refine Wz.lcR3 ?_)
  | (with_reducible refine Wc.revL ?_)
  | (with_reducible refine Wd.nm ?_)
  | (with_reducible refine Wd.nget ?_)
  | ((with_reducible refine Wd.tnew ?_); intro p hp)
  | (with_reducible refine Wd.pikn ?_)
  | (with_reducible refine Wt.m1 ?_)
  | (with_reducible refine Wt.m0 ?_)
  | ((with_reducible refine' ⟨?k, ?_⟩); (case k => show ∃ a, _ = V.str a; exact ⟨_, rfl⟩))
  | (with_reducible refine Wt.js_cons ?_)
  | (with_reducible refine Wt.fmt_ ?_)
  | (with_reducible refine Wp.pcons ?_)
  | (with_reducible refine Wp.pnil ?_)
  | ((with_reducible refine' Wp.iteBnT ?h ?_); (case h => show isB _ _ = false; decide))
  | ((with_reducible refine' Wp.iteBnF ?h ?_); (case h => show isB _ _ = true; decide))
  | ((with_reducible refine' Wp.iteBt ?h ?_); (case h => show isB _ _ = true; decide))
  | ((with_reducible refine' Wp.iteBf ?h ?_); (case h => show isB _ _ = false; decide))
  | (with_reducible refine Wp.iteT' ?_)
  | (with_reducible refine Wp.iteF' ?_)
  | (with_reducible refine Wp.rNT_ ?_)
  | ((with_reducible refine Wp.lst ?_))
  | ((with_reducible refine Wp.tup ?_))
  | ((with_reducible refine' Wp.ixL ?h ?e ?_); (case h => walk_at "sq"); (case e => exact rfl))
  | ((with_reducible refine' Wp.ixT ?h ?e ?_); (case h => walk_at "sq"); (case e => exact rfl))
  | ((with_reducible refine' Wp.setL ?h ?e ?_); (case h => walk_at "hp"); (case e => exact rfl))
  | ((with_reducible refine Wp.rI_ ?k ?_); (case k => first | (show (0:Int) < _; omega) | (show CPow _ _; refine' ⟨?_, ?_, ?_⟩ <;> omega) | (show CDiv _ _; refine' ⟨?_, ?_⟩ <;> omega) | (show CMul _ _; refine' Or.inl ⟨?_, ?_⟩ <;> omega) | (show CMul _ _; refine' Or.inr ⟨?_, ?_⟩ <;> first | omega | decide) | (show CDivW _ _; refine' wide_div (b := 240) ?_ ?_ ?_ ?_ <;> first | omega | decide)))
  | ((with_reducible refine ⟨?k, ?_⟩); (case k => first | exact Nat.zero_le _ | (exact Nat.le_of_ble_eq_true rfl)); intro p hp)
  | ((with_reducible refine' ⟨_, _, rfl, .inl ?k, ?_⟩); (case k => walk_at "sq"))
  | ((with_reducible refine' ⟨_, _, rfl, .inr ?k, ?_⟩); (case k => walk_at "sq"))
  | (with_reducible refine ⟨_, rfl, ?_⟩)
  | (with_reducible refine ⟨_, _, rfl, rfl, ?_⟩)
  | (with_reducible refine ⟨_, _, rfl, ?_⟩))
local macro_rules | `(tactic| walk_at "wp") => `(tactic| repeat (walk_at "w1"))

section
variable {P : Program} {w : World} {K : PySem.W.Frag} {mg : Str → Option Value} {base : Heap}
theorem cut_mid {xs : List V} {n m : Nat} (h : n ≤ m) (hm : m ≤ xs.length) : cutV xs (some (n : Int)) (some (m : Int)) = (xs.drop n).take (m - n) := by
  unfold cutV
  rw [show HT.sIx xs.length 0 (some (n : Int)) = min n xs.length from HT.sIx_nat .., show HT.sIx xs.length xs.length (some (m : Int)) = min m xs.length from HT.sIx_nat .., Nat.min_eq_left hm, Nat.min_eq_left (by omega)]
def spLay : Sp := fun vs H Q _ => ∃ (pc pl l r e : Addr) (T L : List (List W)) (p : List W) (us xs : List V) (kvs : List (Key × V)) (st : List W → Bool) (s : Nat) (H0 : Hp), vs = [.ref pc, .ref pl, .ref l, .ref r, .ref e] ∧
  H pc = some (.lst xs) ∧ Pieces [pc] H xs (Wg.piecesOf st s L) ∧ Wy.Dist H0 H xs ∧ H pl = some (.dK kvs) ∧ Wy.Places T L kvs ∧ H l = some (.lst us) ∧ Pile H us p ∧ H r = some (.lst (Wy.pathV T p)) ∧ H e = some (.lst ((Wg.es st s p).map fun h : Nat => V.int h)) ∧
  (l ≠ pc ∧ r ≠ pc ∧ e ≠ pc) ∧ Wg.LOk st s L ∧ (∀ q ∈ L, q ∈ T) ∧ Wk.TOk T ∧ Wy.Within T p ∧ p.length ≤ 400 ∧ T.length ≤ 30000 ∧ Same H0 H ∧
  ∀ xs' kvs' H', H' pc = some (.lst xs') → Pieces [pc] H' xs' (Wg.piecesOf st s (Wg.layL st s L p)) → Wy.Dist H0 H' xs' → H' pl = some (.dK kvs') → Wy.Places T (Wg.layL st s L p) kvs' → Ks [pc, pl] H H' → Q .non H'
theorem ok_lay (T : Txt P w K mg) : FnOk P w K mg base CX0 1 T.f_lay T.fd_lay ["pieces", "places", "pile", "path", "edges"] spLay := by
  refine T.F_lay.ok sc_lay (fun vs H Q E h => ?_) (fun cdv A outer s H vs Q E hr h => ?_)
  · obtain ⟨pc, pl, l, r, e, _, _, _, _, _, _, _, _, _, rfl, _⟩ := h
    rfl
  · obtain ⟨pc, pl, l, r, e, Tr, L, p, us, xs, kvs, st, sz, H0, rfl, hpc, PS0, DI0, hpl, PL0, hl, hp, hr0, he0, ⟨nl, nr, ne⟩, lok, lin, tok, wi, l400, lT, s00, q⟩ := h
    have pcpl : pc ≠ pl := ne_of hpc hpl (by intro q; cases q)
    have elen := Wg.es_len (st := st) (s := sz) (p := p)
    have hEl : (Wg.es st sz p).length ≤ 401 := by
      have := Wy.E_len (st := st) (s := sz) (p := p) p.length
      unfold Wg.es
      omega
    have lL : L.length ≤ 30000 := by
      have := lok.nd.length_le_of_subset lin
      omega
    have atE : ∀ {k : Nat}, k ≤ Wg.top st sz p → ((Wg.es st sz p).map fun h : Nat => V.int h)[k]? = some (V.int (Wg.hi st sz p k : Nat)) := by
      intro k hk
      rw [List.getElem?_map, List.getElem?_eq_getElem (by rw [elen]; omega)]
      unfold Wg.hi
      rw [List.getD_eq_getElem?_getD, List.getElem?_eq_getElem (by rw [elen]; omega)]
      rfl
    have atP : ∀ {k : Nat}, k ≤ Wg.top st sz p → (Wy.pathV Tr p)[Wg.hi st sz p k]? = some (V.int ((Wk.numOf Tr (Wg.cut st sz p k) : Nat) : Int)) := fun {k} hk => Wy.pathV_at (Wg.hi_le hk)
    have inT : ∀ {k : Nat}, Wg.cut st sz p k = [] ∨ Wg.cut st sz p k ∈ Tr := fun {k} => wi _
    refine ⟨_, (pss_cons (ps_setLc (i := 6) (own := [("k", 5)]) rfl sc_lay.nd rfl rfl (sw_true rfl rfl rfl (by decide +kernel)) (pi_range3 (by rfl) T.n_range (pa_cons (pe_op op_sub (pe_callB call_len_seq (by rfl) T.n_len (by decide +kernel) (pa_cons (pv 4) pa_nil)) pe_int) (pa_cons pe_int (pa_cons (pe_un un_neg pe_int) pa_nil)))) (blkOk_by (N := ["pieces", "places", "pile", "path", "edges", "k", "fresh", "low", "high"]) (sc := defScope s_lay) (by decide +kernel)) (fun _ _ _ _ _ => pg_name (i := 5) sc_lay.nd rfl (Or.inl rfl)) (fun _ _ _ _ _ => pts_one (pt_cmp (pc_dnotin (hu_of hr) (pe_ix (show IxR _ (rIxL K) from ix_list) (pv 3) (pe_ix (show IxR _ (rIxL K) from ix_list) (pv 4) (pv 5) (fun _ _ => rfl)) (fun _ _ => rfl)) (pv 1)))) (fun _ _ _ _ _ => (pv 5)))
      (pss_cons (ps_for PassesOwn.never rfl (pi_list (pv 6)) (pg_name (i := 5) sc_lay.nd rfl (.inl rfl)) (pss_one (ps_dput (hu_of hr) (pv 1) (pe_ix ix_list (pv 3) (pe_ix ix_list (pv 4) (pv 5) (fun _ _ => rfl)) (fun _ _ => rfl)) (pe_op op_sub (pe_callB call_lenD (by rfl) T.n_len (by decide +kernel) (pa_cons (pv 1) pa_nil)) pe_int) rfl)))
      (pss_one (ps_for PassesOwn.never rfl (pi_list (pv 6)) (pg_name (i := 5) sc_lay.nd rfl (.inl rfl)) (pss_cons (ps_par (i := 7) (j := 8) (by rfl) sc_lay.nd rfl rfl (by decide) rfl rfl (pa_cons (pe_ix ix_list (pv 4) (pe_op op_sub (pv 5) pe_int) (fun _ _ => rfl)) (pa_cons (pe_ix ix_list (pv 4) (pv 5) (fun _ _ => rfl)) pa_nil)) (by rfl))
      (pss_one (ps_expr (pe_bm PySem.F.plainAttrs_list PySem.F.slot_list_append PySem.F.type_list_append mt_append (pv 0) (pa_cons (pe_tup (pa_cons (pe_dget (hu_of hr) (pv 1) (pe_ix ix_list (pv 3) (pv 7) (fun _ _ => rfl)) (fun _ _ => rfl)) (pa_cons (pe_slice sl_list (pv 2) (po_some (pv 7)) (po_some (pv 8))) pa_nil))) pa_nil))))))))), ?_⟩
    rw [show L2.start ["pieces", "places", "pile", "path", "edges", "k", "fresh", "low", "high"] [.ref pc, .ref pl, .ref l, .ref r, .ref e] = [some (.ref pc), some (.ref pl), some (.ref l), some (.ref r), some (.ref e), none, none, none, none] from rfl]
    try dsimp only [cxOf]
    walk_at "wp"
    rw [List.length_map, elen]
    have rg : RgC ((Wg.top st sz p : Nat) : Int) 0 (-1) (Wg.top st sz p) := by
      have := RgC.neg (i := ((Wg.top st sz p : Nat) : Int)) (j := 0) (by omega) (by omega) (by decide) (by decide)
      rw [show (((Wg.top st sz p : Nat) : Int) - 0).toNat = Wg.top st sz p by omega] at this
      exact this
    refine ⟨((Wg.top st sz p : Nat) : Int), 0, -1, Wg.top st sz p, by rw [show (((Wg.top st sz p + 1 : Nat) : Int) - 1) = ((Wg.top st sz p : Nat) : Int) by omega], rg, fun D hD => ?_⟩
    refine Wz.loopCc (fun j H' => Same H H' ∧ H' D = some (.lst ((((List.range j).map fun i => Wg.top st sz p - i).filter fun k => decide (Wg.cut st sz p k ∉ L)).map fun k : Nat => V.int k))) ⟨same_new hD, upd_same⟩ ?_ ?_
    · rintro j H1 hj ⟨s1, hD1⟩
      have hk : Wg.top st sz p - j ≤ Wg.top st sz p := by omega
      rw [show (((Wg.top st sz p : Nat) : Int) + (j : Nat) * (-1)) = ((Wg.top st sz p - j : Nat) : Int) by omega]
      have snoc : ((List.range (j + 1)).map fun i => Wg.top st sz p - i).filter (fun k => decide (Wg.cut st sz p k ∉ L)) = ((List.range j).map fun i => Wg.top st sz p - i).filter (fun k => decide (Wg.cut st sz p k ∉ L)) ++ (if Wg.cut st sz p (Wg.top st sz p - j) ∉ L then [Wg.top st sz p - j] else []) := by
        rw [List.range_succ, List.map_append, List.filter_append]
        congr 1
        rw [List.map_cons, List.map_nil]
        by_cases c : Wg.cut st sz p (Wg.top st sz p - j) ∉ L
        · rw [if_pos c]; simp [c]
        · rw [if_neg c]; simp [c]
      walk_at "wp"
      refine ixL (SqL.of (s1 _ _ he0)) (atI_nat (atE hk)) ?_
      walk_at "wp"
      refine ixL (SqL.of (s1 _ _ hr0)) (atI_nat (atP hk)) ?_
      walk_at "wp"
      refine ⟨pl, _, rfl, DGet.k (k := .inl ((Wk.numOf Tr (Wg.cut st sz p (Wg.top st sz p - j)) : Nat) : Int)) (s1 _ _ hpl), ?_⟩
      rw [PL0.2 _ inT]
      have cn := Wg.cut_ne (st := st) (s := sz) (p := p) (k := Wg.top st sz p - j) (by omega) hk
      by_cases c : Wg.cut st sz p (Wg.top st sz p - j) ∈ L
      · rw [if_pos (.inr c)]
        walk_at "wp"
        refine iteBf rfl ?_
        refine ⟨s1, ?_⟩
        rw [snoc, if_neg (fun h => h c), List.append_nil]
        exact hD1
      · rw [if_neg (fun h => h.elim cn c)]
        walk_at "wp"
        refine iteBt rfl ?_
        walk_at "wp"
        refine ⟨_, hD1, ?_, ?_, ?_⟩
        · rw [List.length_map]
          refine small (Nat.lt_of_le_of_lt (List.length_filter_le _ _) ?_)
          rw [List.length_map, List.length_range]
          omega
        · intro a o ha
          rw [upd_ne (ne_of_none ha hD)]
          exact s1 _ _ ha
        · rw [upd_same, snoc, if_pos c, List.map_append] <;> rfl
    · rintro H1 ⟨s1, hD1⟩
      have eF : ((List.range (Wg.top st sz p)).map fun i => Wg.top st sz p - i).filter (fun k => decide (Wg.cut st sz p k ∉ L)) = Wg.freshK st sz L p := rfl
      rw [eF] at hD1
      have Fk : ∀ {j k : Nat}, (Wg.freshK st sz L p)[j]? = some k → 1 ≤ k ∧ k ≤ Wg.top st sz p := by
        intro j k h
        have m := List.mem_of_getElem? h
        unfold Wg.freshK at m
        obtain ⟨i, hi, rfl⟩ := List.mem_map.mp (List.mem_filter.mp m).1
        have := List.mem_range.mp hi
        omega
      have lF : (Wg.freshK st sz L p).length ≤ 400 := by
        unfold Wg.freshK
        refine Nat.le_trans (List.length_filter_le _ _) ?_
        rw [List.length_map, List.length_range]
        omega
      have ndF : (L ++ (Wg.freshK st sz L p).map (Wg.cut st sz p)).Nodup := (Wg.lay_ok lok p).nd
      have inF : ∀ x ∈ L ++ (Wg.freshK st sz L p).map (Wg.cut st sz p), x ∈ Tr := by
        intro x hx
        rcases (Wg.mem_lay lok).mp hx with m | ⟨k, k1, k2, rfl⟩
        · exact lin x m
        · exact inT.resolve_left (Wg.cut_ne k1 k2)
      have hDpl : D ≠ pl := (ne_of_none hpl hD).symm
      have hDpc : D ≠ pc := (ne_of_none hpc hD).symm
      have lok' := Wg.lay_ok lok p
      have plist := Wg.pieces_lay (p := p) lok
      walk_at "wp"
      refine ⟨⟨_, SqL.of hD1⟩, loopL (xs := (Wg.freshK st sz L p).map fun k : Nat => V.int k) (fun j σ H' => ∃ y, σ = [some (.ref pc), some (.ref pl), some (.ref l), some (.ref r), some (.ref e), y, some (.ref D), none, none] ∧ (∀ a o, a ≠ pl → H1 a = some o → H' a = some o) ∧ Tk H1 H' ∧
        ∃ kvs', H' pl = some (.dK kvs') ∧ Wy.Places Tr (L ++ ((Wg.freshK st sz L p).take j).map (Wg.cut st sz p)) kvs') ⟨_, rfl, fun _ _ _ h => h, Tk.refl, kvs, s1 _ _ hpl, by rw [List.take_zero, List.map_nil, List.append_nil]; exact PL0⟩ (fun j σ H' _ h => by obtain ⟨_, _, h, _⟩ := h; exact SqL.of (h _ _ hDpl hD1)) ?_ ?_⟩
      · rintro j x σ H2 hx ⟨y, rfl, k2, tk2, kvs', hpl2, PL2⟩
        rw [List.getElem?_map] at hx
        cases hk : (Wg.freshK st sz L p)[j]? with
        | none => rw [hk] at hx; cases hx
        | some k =>
          rw [hk] at hx
          cases hx
          obtain ⟨k1, kt⟩ := Fk hk
          have epl : e ≠ pl := ne_of he0 hpl (by intro q; cases q)
          have rpl : r ≠ pl := ne_of hr0 hpl (by intro q; cases q)
          have tak : (Wg.freshK st sz L p).take (j + 1) = (Wg.freshK st sz L p).take j ++ [k] := by rw [List.take_add_one, hk] <;> rfl
          have nin : Wg.cut st sz p k ∉ L ++ ((Wg.freshK st sz L p).take j).map (Wg.cut st sz p) := by
            have e1 : L ++ (Wg.freshK st sz L p).map (Wg.cut st sz p) = (L ++ ((Wg.freshK st sz L p).take j).map (Wg.cut st sz p)) ++ ((Wg.freshK st sz L p).drop j).map (Wg.cut st sz p) := by
              rw [List.append_assoc, ← List.map_append, List.take_append_drop]
            rw [e1, List.nodup_append] at ndF
            intro m
            refine ndF.2.2 _ m _ (List.mem_map.mpr ⟨k, ?_, rfl⟩) rfl
            refine List.mem_of_getElem? (i := 0) ?_
            rw [List.getElem?_drop, Nat.add_zero]
            exact hk
          have sub : ∀ x ∈ L ++ ((Wg.freshK st sz L p).take j).map (Wg.cut st sz p), x ∈ Tr := by
            intro x hx
            refine inF x ?_
            rcases List.mem_append.mp hx with m | m
            · exact List.mem_append_left _ m
            · obtain ⟨k', hk', rfl⟩ := List.mem_map.mp m
              exact List.mem_append_right _ (List.mem_map.mpr ⟨k', List.mem_of_mem_take hk', rfl⟩)
          have lk : kvs'.length < sizeLine := by
            rw [PL2.1, List.length_append, List.length_map, List.length_take]
            exact small (by omega)
          walk_at "wp"
          refine ⟨pl, kvs', rfl, hpl2, ?_⟩
          walk_at "wp"
          refine ixL (SqL.of (k2 _ _ epl (s1 _ _ he0))) (atI_nat (atE kt)) ?_
          walk_at "wp"
          refine ixL (SqL.of (k2 _ _ rpl (s1 _ _ hr0))) (atI_nat (atP kt)) ?_
          walk_at "wp"
          refine ⟨pl, _, rfl, DPut.k (k := .inl ((Wk.numOf Tr (Wg.cut st sz p k) : Nat) : Int)) hpl2 lk, ?_⟩
          walk_at "wp"
          refine ⟨fun a o na ha => by rw [upd_ne na]; exact k2 a o na ha, tk2.trans (Tk.dK hpl2), _, upd_same, ?_⟩
          rw [tak, List.map_append, ← List.append_assoc]
          exact PL2.put (inF _ (List.mem_append_right _ (List.mem_map.mpr ⟨k, List.mem_of_getElem? hk, rfl⟩))) tok sub nin
      · rintro σ H2 ⟨y, rfl, k2, tk2, kvs', hpl2, PL2⟩
        rw [List.length_map, List.take_length] at PL2
        have PLF : Wy.Places Tr (Wg.layL st sz L p) kvs' := PL2
        have npl : ∀ {a : Addr} {bs : List V}, H a = some (.lst bs) → a ≠ pl := fun h => ne_of h hpl (by intro q; cases q)
        have kp12 : ∀ a o, a ≠ pl → H a = some o → H2 a = some o := fun a o na ha => k2 a o na (s1 _ _ ha)
        have tk12 : Tk H H2 := (Same.tk s1).trans tk2
        have ks12 : Ks [pc, pl] H H2 := ⟨fun a o na ha => kp12 a o (fun q => na (by rw [q]; simp)) ha, tk12⟩
        have ks12' : Ks [pl] H H2 := ⟨fun a o na ha => kp12 a o (fun q => na (by rw [q]; simp)) ha, tk12⟩
        have hpc2 := kp12 _ _ pcpl hpc
        have PS2 : Pieces [pc] H2 xs (Wg.piecesOf st sz L) := by
          refine Paired.mapP PS0 fun v y hy => ?_
          obtain ⟨t, ll, vs, ev, h1, h2, h3, h4⟩ := hy
          exact ⟨t, ll, vs, ev, tk12 _ _ h1, kp12 _ _ (npl h2) h2, h3.keep tk12, h4⟩
        have DI2 := DI0.keep PS0 tk12
        have hD2 := k2 _ _ hDpl hD1
        have lxs : xs.length = L.length := by rw [PS0.len]; unfold Wg.piecesOf; rw [List.length_map]
        walk_at "wp"
        refine ⟨⟨_, SqL.of hD2⟩, loopL (xs := (Wg.freshK st sz L p).map fun k : Nat => V.int k) (fun j σ H' => ∃ y5 y7 y8 xs', σ = [some (.ref pc), some (.ref pl), some (.ref l), some (.ref r), some (.ref e), y5, some (.ref D), y7, y8] ∧ Ks [pc] H2 H' ∧
          H' pc = some (.lst xs') ∧ Pieces [pc] H' xs' (Wg.piecesOf st sz L ++ ((Wg.freshK st sz L p).take j).map (Wg.newPc st sz (Wg.layL st sz L p) p)) ∧ Wy.Dist H0 H' xs') ⟨_, _, _, xs, rfl, Ks.refl, hpc2, by rw [List.take_zero, List.map_nil, List.append_nil]; exact PS2, DI2⟩ (fun j σ H' _ h => by obtain ⟨_, _, _, _, _, h, _⟩ := h; exact SqL.of (h.keep _ _ (fun q => hDpc (List.mem_singleton.mp q)) hD2)) ?_ ?_⟩
        · rintro j x σ H3 hx ⟨y5, y7, y8, xs', rfl, k3, hpc3, PS3, DI3⟩
          rw [List.getElem?_map] at hx
          cases hk : (Wg.freshK st sz L p)[j]? with
          | none => rw [hk] at hx; cases hx
          | some k =>
            rw [hk] at hx
            cases hx
            obtain ⟨k1, kt⟩ := Fk hk
            have tak : (Wg.freshK st sz L p).take (j + 1) = (Wg.freshK st sz L p).take j ++ [k] := by rw [List.take_add_one, hk] <;> rfl
            have kp3 : ∀ {a : Addr} {o : HO}, a ≠ pl → a ≠ pc → H a = some o → H3 a = some o := fun h1 h2 h => k3.keep _ _ (fun q => h2 (List.mem_singleton.mp q)) (kp12 _ _ h1 h)
            have he3 := kp3 (npl he0) ne he0
            have hr3 := kp3 (npl hr0) nr hr0
            have hl3 := kp3 (npl hl) nl hl
            have hp3 := hp.keep (tk12.trans k3.tk)
            have hpl3 : H3 pl = some (.dK kvs') := k3.keep _ _ (fun q => pcpl (List.mem_singleton.mp q).symm) hpl2
            have ek1 : ((k : Nat) : Int) - 1 = ((k - 1 : Nat) : Int) := by omega
            have hlt := Wg.hi_lt (st := st) (s := sz) (p := p) (show k - 1 < k by omega) kt
            have hle := Wg.hi_le (st := st) (s := sz) (p := p) kt
            walk_at "wp"
            rw [ek1]
            refine ixL (SqL.of he3) (atI_nat (atE (show k - 1 ≤ _ by omega))) ?_
            walk_at "wp"
            refine ixL (SqL.of he3) (atI_nat (atE kt)) ?_
            walk_at "wp"
            refine ixL (SqL.of hr3) (atI_nat (atP (show k - 1 ≤ _ by omega))) ?_
            have inL : Wg.cut st sz p (k - 1) = [] ∨ Wg.cut st sz p (k - 1) ∈ Wg.layL st sz L p := by
              by_cases c : k = 1
              · left; rw [c]; exact Wg.cut_zero
              · right; exact (Wg.mem_lay lok).mpr (.inr ⟨k - 1, by omega, by omega, rfl⟩)
            have hget : valV kvs' (.inl ((Wk.numOf Tr (Wg.cut st sz p (k - 1)) : Nat) : Int)) = some (.int (Wg.place (Wg.layL st sz L p) (Wg.cut st sz p (k - 1)))) := by
              rw [PLF.2 _ inT, if_pos inL]
            refine ⟨pl, V.int (Wg.place (Wg.layL st sz L p) (Wg.cut st sz p (k - 1))), rfl, by rw [← hget]; exact DGet.k (k := .inl ((Wk.numOf Tr (Wg.cut st sz p (k - 1)) : Nat) : Int)) hpl3, ?_⟩
            walk_at "wp"
            refine slL (SqL.of hl3) fun g hg => ?_
            rw [cut_mid (Nat.le_of_lt hlt) (by rw [hp3.len]; exact hle)]
            have sg := same_new (o := .lst ((us.drop (Wg.hi st sz p (k - 1))).take (Wg.hi st sz p k - Wg.hi st sz p (k - 1)))) hg
            walk_at "wp"
            rename_i t ht
            have stt := same_new (o := .tup [V.int (Wg.place (Wg.layL st sz L p) (Wg.cut st sz p (k - 1))), .ref g]) ht
            have ss := sg.trans stt
            have lxs' : xs'.length < sizeLine := by
              rw [PS3.len, List.length_append, List.length_map]
              unfold Wg.piecesOf
              rw [List.length_map, List.length_take]
              exact small (by omega)
            refine app_ (ss _ _ hpc3) lxs' ?_
            walk_at "wp"
            have gpc : g ≠ pc := (ne_of_none hpc3 hg).symm
            have ku := Ks.upd (S := [pc]) (o := .lst (xs' ++ [.ref t])) (ss _ _ hpc3) List.mem_cons_self
            have isp : IsPc [pc] (upd (upd H3 g (.lst ((us.drop (Wg.hi st sz p (k - 1))).take (Wg.hi st sz p k - Wg.hi st sz p (k - 1))))) t (.tup [V.int (Wg.place (Wg.layL st sz L p) (Wg.cut st sz p (k - 1))), .ref g])) (.ref t) (Wg.newPc st sz (Wg.layL st sz L p) p k) :=
              ⟨t, g, _, rfl, upd_same, stt _ _ upd_same, ((hp3.drop _).take _).keep (Same.tk ss), fun q => gpc (List.mem_singleton.mp q)⟩
            have gH0 : H0 g = none := by
              cases e : H0 g with
              | none => rfl
              | some o =>
                have h1 := s00 _ _ e
                by_cases c1 : g = pl
                · rw [c1, hpl3] at hg; cases hg
                · have := kp3 c1 gpc h1
                  rw [hg] at this
                  cases this
            have DI4 : Wy.Dist H0 (upd (upd H3 g (.lst ((us.drop (Wg.hi st sz p (k - 1))).take (Wg.hi st sz p k - Wg.hi st sz p (k - 1))))) t (.tup [V.int (Wg.place (Wg.layL st sz L p) (Wg.cut st sz p (k - 1))), .ref g])) (xs' ++ [.ref t]) := by
              refine (DI3.keep PS3 (Same.tk ss)).app (PS3.keep (Ks.same ss)) upd_same gH0 fun i ti li v hi h1 => ?_
              obtain ⟨y, _, t', l', vs', ev, g1, g2, _⟩ := pair_at1 PS3 hi
              cases ev
              have := ss _ _ g1
              rw [h1] at this
              cases this
              exact ne_of_none g2 hg
            have PS4 : Pieces [pc] (upd (upd H3 g (.lst ((us.drop (Wg.hi st sz p (k - 1))).take (Wg.hi st sz p k - Wg.hi st sz p (k - 1))))) t (.tup [V.int (Wg.place (Wg.layL st sz L p) (Wg.cut st sz p (k - 1))), .ref g])) (xs' ++ [.ref t]) (Wg.piecesOf st sz L ++ ((Wg.freshK st sz L p).take (j + 1)).map (Wg.newPc st sz (Wg.layL st sz L p) p)) := by
              rw [tak, List.map_append, ← List.append_assoc]
              exact pair_app (PS3.keep (Ks.same ss)) (.cons isp .nil)
            exact ⟨_, _, _, _, rfl, k3.trans ((Ks.same ss).trans ku), upd_same, PS4.keep ku, DI4.keep PS4 ku.tk⟩
        · rintro σ H3 ⟨y5, y7, y8, xs', rfl, k3, hpc3, PS3, DI3⟩
          rw [List.length_map, List.take_length, ← plist] at PS3
          walk_at "wp"
          exact q xs' kvs' H3 hpc3 PS3 DI3 (k3.keep _ _ (fun q => pcpl (List.mem_singleton.mp q).symm) hpl2) PLF (ks12.trans (k3.mono (by simp)))

end
end K10

namespace K10
open PySem PySem.Spec PyProof.Rows L2 Wp Wq Wr Wb
local macro_rules | `(tactic| walk_at "ne") => `(tactic| first
  | assumption
  | (refine Ne.symm ?_; assumption)
  | exact ne_of_none (by assumption) (by assumption)
  | exact (ne_of_none (by assumption) (by assumption)).symm
  | exact ne_of (by assumption) (by assumption) (by intro q; cases q))
local macro_rules | `(tactic| walk_at "hp") => `(tactic| first
  | assumption
  | exact upd_same
  | (refine (upd_ne ?_).trans ?_; (walk_at "ne"); (walk_at "hp")))
local macro_rules | `(tactic| walk_at "sq") => `(tactic| first
  | assumption
  | exact SqL.of (by walk_at "hp")
  | exact SqT.of (by walk_at "hp"))
local macro_rules | `(tactic| walk_at "kind") => `(tactic| first
  | assumption
  | exact Kind.int _
  | exact Kind.str _
  | exact Kind.bl _
  | exact Kind.non
  | exact Kind.tup (by walk_at "hp")
  | exact Kind.lst (by walk_at "hp")
  | exact Kind.dK (by walk_at "hp"))
local macro_rules | `(tactic| walk_at "w1") => `(tactic| first
  | (with_reducible refine Wp.seq ?_)
  | (with_reducible refine Wp.nx_mk ?_)
  | (with_reducible refine Wp.rt_mk ?_)
  | (with_reducible refine Wp.bk_mk ?_)
  | (with_reducible refine Wp.ct_mk ?_)
  | (with_reducible refine Wp.next ?_)
  | (with_reducible refine Wp.asg ?_)
  | ((with_reducible refine' Wp.gname ?e ?_); (case e => (try dsimp only [List.set, L2.wipe, List.map_cons, List.map_nil]); (try exact rfl)))
  | (with_reducible refine Wp.gsub ?_)
  | (with_reducible refine Wp.ret ?_)
  | (with_reducible refine Wp.retN ?_)
  | (with_reducible refine Wp.drop ?_)
  | (with_reducible refine Wp.dput ?_)
  | (with_reducible refine Wp.ifs ?_)
  | ((with_reducible refine' Wp.var ?h ?_); (case h => exact rfl))
  | (with_reducible refine Wp.con ?_)
  | (with_reducible refine Wp.op ?_)
  | (with_reducible refine Wp.un ?_)
  | (with_reducible refine Wp.cb ?_)
  | (with_reducible refine Wp.anil ?_)
  | (with_reducible refine Wp.acons ?_)
  | (with_reducible refine Wp.call ?_)
  | (with_reducible refine Wp.test ?_)
  | (with_reducible refine Wp.tb_ ?_)
  | (with_reducible refine Wp.and_ ?_)
  | (with_reducible refine Wp.or_ ?_)
  | (with_reducible refine Wp.not_ ?_)
  | (with_reducible refine Wp.andV ?_)
  | (with_reducible refine Wp.orV ?_)
  | (with_reducible refine Wp.notV ?_)
  | (with_reducible refine Wp.rI0_ ?_)
  | (with_reducible refine Wp.rU_ ?_)
  | ((with_reducible refine Wp.rEq_ ?k ?_); (case k => exact rfl))
  | ((with_reducible refine Wp.rNe_ ?k ?_); (case k => exact rfl))
  | (with_reducible refine Wp.gcons ?_)
  | (with_reducible refine Wp.gnil ?_)
  | ((with_reducible refine' Wp.gtup ?h ?e ?_); (case h => walk_at "sq"); (case e => exact rfl))
  | (with_reducible refine Wp.sl ?_)
  | (with_reducible refine Wp.part ?_)
  | (with_reducible refine Wp.nopart ?_)
  | (with_reducible refine Wp.ifE ?_)
  | (with_reducible refine Wp.bm0 ?_)
  | (with_reducible refine Wp.bm ?_)
  | (with_reducible refine Wp.lcR1 ?_)
  | (with_reducible refine Wp.lcR2 ?_)
  | (with_reducible refine Wp.lcL ?_)
  | (with_reducible refine Wp.chain ?_)
  | (with_reducible refine Wp.lc2V ?_)
  | (with_reducible refine Wp.piL ?_)
  | (with_reducible refine Wp.yes ?_)
  | (with_reducible refine Wp.dinI ?_)
  | (with_reducible refine Wp.dninI ?_)
  | (with_reducible refine Wp.dget ?_)
  | ((with_reducible refine' ⟨?k, ?_⟩); (case k => show L2.wipe _ _ = L2.wipe _ _; exact rfl))
  | (with_reducible refine Wp.forR1 ?_)
  | (with_reducible refine Wp.forR2 ?_)
  | (with_reducible refine Wp.forL ?_)
  | (with_reducible refine Wp.forT ?_)
  | ((with_reducible refine' ⟨?k, ?_⟩); (case k => exact Wp.tyvL (by walk_at "hp")))
  | ((with_reducible refine' Wp.rev_ ?k ?_); (case k => walk_at "hp"))
  | ((with_reducible refine' Wp.isi ?k ?h ?_); (case k => walk_at "kind"); (case h => decide))
  | ((with_reducible refine' Wp.typ ?k ?_); (case k => walk_at "kind"))
  | (with_reducible refine Wp.slS ?k ?_; (case k => assumption))
  | (with_reducible refine iteT ?_)
  | (with_reducible refine iteF ?_)
  | (with_reducible refine Wz.par ?_)
  | (with_reducible refine Wz.forN ?_)
  | (with_reducible refine Wz.dcL ?_)
  | (with_reducible refine Wz.forZ ?_)
  | (with_reducible refine Wz.lcR3 ?_)
  | (with_reducible refine Wc.revL ?_)
  | (with_reducible refine Wd.nm ?_)
  | (with_reducible refine Wd.nget ?_)
  | ((with_reducible refine Wd.tnew ?_); intro p hp)
  | (with_reducible refine Wd.pikn ?_)
  | (with_reducible refine Wt.m1 ?_)
  | (with_reducible refine Wt.m0 ?_)
  | ((with_reducible refine' ⟨?k, ?_⟩); (case k => show ∃ a, _ = V.str a; exact ⟨_, rfl⟩))
  | (with_reducible refine Wt.js_cons ?_)
  | (with_reducible refine Wt.fmt_ ?_)
  | (with_reducible refine Wp.pcons ?_)
  | (with_reducible refine Wp.pnil ?_)
  | ((with_reducible refine' Wp.iteBnT ?h ?_); (case h => show isB _ _ = false; decide))
  | ((with_reducible refine' Wp.iteBnF ?h ?_); (case h => show isB _ _ = true; decide))
  | ((with_reducible refine' Wp.iteBt ?h ?_); (case h => show isB _ _ = true; decide))
  | ((with_reducible refine' Wp.iteBf ?h ?_); (case h => show isB _ _ = false; decide))
  | (with_reducible refine Wp.iteT' ?_)
  | (with_reducible refine Wp.iteF' ?_)
  | (with_reducible refine Wp.rNT_ ?_)
  | ((with_reducible refine Wp.lst ?_))
  | ((with_reducible refine Wp.tup ?_))
  | ((with_reducible refine' Wp.ixL ?h ?e ?_); (case h => walk_at "sq"); (case e => exact rfl))
  | ((with_reducible refine' Wp.ixT ?h ?e ?_); (case h => walk_at "sq"); (case e => exact rfl))
  | ((with_reducible refine' Wp.setL ?h ?e ?_); (case h => walk_at "hp"); (case e => exact rfl))
  | ((with_reducible refine Wp.rI_ ?k ?_); (case k => first | (show (0:Int) < _; omega) | (show CPow _ _; refine' ⟨?_, ?_, ?_⟩ <;> omega) | (show CDiv _ _; refine' ⟨?_, ?_⟩ <;> omega) | (show CMul _ _; refine' Or.inl ⟨?_, ?_⟩ <;> omega) | (show CMul _ _; refine' Or.inr ⟨?_, ?_⟩ <;> first | omega | decide) | (show CDivW _ _; refine' wide_div (b := 240) ?_ ?_ ?_ ?_ <;> first | omega | decide)))
  | ((with_reducible refine ⟨?k, ?_⟩); (case k => first | exact Nat.zero_le _ | (exact Nat.le_of_ble_eq_true rfl)); intro p hp)
  | ((with_reducible refine' ⟨_, _, rfl, .inl ?k, ?_⟩); (case k => walk_at "sq"))
  | ((with_reducible refine' ⟨_, _, rfl, .inr ?k, ?_⟩); (case k => walk_at "sq"))
  | (with_reducible refine ⟨_, rfl, ?_⟩)
  | (with_reducible refine ⟨_, _, rfl, rfl, ?_⟩)
  | (with_reducible refine ⟨_, _, rfl, ?_⟩))
local macro_rules | `(tactic| walk_at "wp") => `(tactic| repeat (walk_at "w1"))

section
variable {P : Program} {w : World} {K : PySem.W.Frag} {mg : Str → Option Value} {base : Heap}
def spTight : Sp := fun vs H Q _ => ∃ (s : Nat) (a : Addr) (ys : List V) (Ps : List (List W)), vs = [.int s, .ref a] ∧ 2 ≤ s ∧ s ≤ 64 ∧ H a = some (.lst ys) ∧ Lists [] H ys Ps ∧ Ps.length ≤ 61 ∧ (∀ q ∈ Ps, q.length ≤ 400) ∧
  ∀ (t p q : Addr) (xs : List V) (H' : Hp), H t = none → H p = none → H q = none → H' t = some (.tup [.ref p, .ref q]) → H' p = some (.lst xs) → Pieces [p, q] H' xs (Wy.tPap s Ps).1 → Wy.Dist H H' xs → H' q = some (.lst ((Wy.tPap s Ps).2.map V.int)) → p ≠ q → Same H H' → Q (.ref t) H'
theorem ok_tight (T : Txt P w K mg) : FnOk P w K mg base CX0 3 T.f_tight T.fd_tight ["size", "piles"] spTight := by
  have G_check_size := ok_check_size (base := base) T
  have G_beginnings_of := ok_beginnings_of (base := base) T
  have G_path_of := ok_path_of (base := base) T
  have G_stops_of := ok_stops_of (base := base) T
  have G_edges_of := ok_edges_of (base := base) T
  have G_lay := ok_lay (base := base) T
  refine T.F_tight.ok sc_tight (fun vs H Q E h => ?_) (fun cdv A outer s H vs Q E hr h => ?_)
  · obtain ⟨s, a, ys, Ps, rfl, _⟩ := h
    rfl
  · obtain ⟨sz, a, ys, Ps, rfl, s2, s64, ha, L0, l61, l400, q⟩ := h
    have ly := L0.len
    have tok := Wk.trie_ok Ps
    have win : ∀ p ∈ Ps, Wy.Within (Wk.trie Ps) p := fun p hp => Wy.within_trie hp
    have lT : (Wk.trie Ps).length ≤ 30000 := by
      have h1 := Wk.trie_size (ps := Ps) (T := []) (m := 400) l400
      have h3 : (Wk.trie Ps).length ≤ [].length + Ps.length * 400 := h1
      have h4 : Ps.length * 400 ≤ 61 * 400 := Nat.mul_le_mul_right _ l61
      rw [List.length_nil] at h3
      omega
    refine ⟨_, (pss_cons (ps_expr (pe_call G_check_size (hr.mono (by decide)) (by rfl) T.g_check_size T.F_check_size.kp T.b_check_size .nil pass0 (pa_cons (pv 0) pa_nil)))
      (pss_cons (ps_set (i := 2) sc_tight.nd rfl (.inr rfl) (pe_call G_beginnings_of (hr.mono (by decide)) (by rfl) T.g_beginnings_of T.F_beginnings_of.kp T.b_beginnings_of .nil pass0 (pa_cons (pv 1) pa_nil)))
      (pss_cons (ps_setLc (i := 4) (own := [("pile", 3)]) rfl sc_tight.nd rfl rfl (sw_true rfl rfl rfl (by decide +kernel)) (pi_list (pv 1)) (blkOk_by (N := ["size", "piles", "numbers", "pile", "paths", "stops", "pieces", "places", "path"]) (sc := defScope s_tight) (by decide +kernel)) (fun _ _ _ _ _ => pg_name (i := 3) sc_tight.nd rfl (Or.inl rfl)) (fun _ _ _ _ _ => pts_nil) (fun _ _ _ _ _ => (pe_call G_path_of (hr.mono (by decide)) (by rfl) T.g_path_of T.F_path_of.kp T.b_path_of .nil pass0 (pa_cons (pv 2) (pa_cons (pv 3) pa_nil)))))
      (pss_cons (ps_set (i := 5) sc_tight.nd rfl (.inl rfl) (pe_call G_stops_of (hr.mono (by decide)) (by rfl) T.g_stops_of T.F_stops_of.kp T.b_stops_of .nil pass0 (pa_cons (pv 2) (pa_cons (pv 4) pa_nil))))
      (pss_cons (ps_set (i := 6) sc_tight.nd rfl (.inl rfl) (pe_lst pa_nil))
      (pss_cons (ps_set (i := 7) sc_tight.nd rfl (.inr rfl) (pe_disp (pps_cons pe_int (pe_glob (v := .int (-1)) (by rfl) T.c_NOTHING ⟨_, rfl⟩) pps_nil) (by rfl) (by rfl) (fun z => by cases z) (by decide)))
      (pss_cons (ps_for PassesOwn.never rfl (pi_zip (by rfl) T.n_zip (pa_cons (pv 1) (pa_cons (pv 4) pa_nil))) (pg_tup (by rfl) (pgs_cons (pg_name (i := 3) sc_tight.nd rfl (.inl rfl)) (pgs_cons (pg_name (i := 8) sc_tight.nd rfl (.inl rfl)) pgs_nil))) (pss_one (ps_expr (pe_call G_lay (hr.mono (by decide)) (by rfl) T.g_lay T.F_lay.kp T.b_lay .nil pass0 (pa_cons (pv 6) (pa_cons (pv 7) (pa_cons (pv 3) (pa_cons (pv 8) (pa_cons (pe_call G_edges_of (hr.mono (by decide)) (by rfl) T.g_edges_of T.F_edges_of.kp T.b_edges_of .nil pass0 (pa_cons (pv 0) (pa_cons (pv 8) (pa_cons (pv 5) pa_nil)))) pa_nil)))))))))
      (pss_one (ps_ret (pe_tup (pa_cons (pv 6) (pa_cons (pe_lc (own := [("path", 8)]) rfl sc_tight.nd (pi_list (pv 4)) (blkOk_by (N := ["size", "piles", "numbers", "pile", "paths", "stops", "pieces", "places", "path"]) (sc := defScope s_tight) (by decide +kernel)) (fun _ _ _ _ _ => pg_name (i := 8) sc_tight.nd rfl (Or.inl rfl)) (fun _ _ _ _ _ => pts_nil) (fun _ _ _ _ _ => (pe_dget (hu_of hr) (pv 7) (pe_ix (show IxR _ (rIxL K) from ix_list) (pv 8) (pe_un un_neg pe_int) (fun _ _ => rfl)) (fun _ _ => rfl)))) pa_nil)))))))))))), ?_⟩
    rw [show L2.start ["size", "piles", "numbers", "pile", "paths", "stops", "pieces", "places", "path"] [.int sz, .ref a] = [some (.int sz), some (.ref a), none, none, none, none, none, none, none] from rfl]
    try dsimp only [cxOf]
    walk_at "wp"
    refine ⟨_, rfl, by omega, by omega, ?_⟩
    walk_at "wp"
    refine ⟨a, ys, Ps, rfl, ha, L0, l61, l400, fun d H1 hd nd s1 => ?_⟩
    walk_at "wp"
    have ha1 := s1 _ _ ha
    refine ⟨⟨ys, SqL.of ha1⟩, fun D hD => ?_⟩
    refine loopCL (xs := ys) (fun j H' => Same H1 H' ∧ ∃ acc, H' D = some (.lst acc) ∧ Paired (fun v p => ∃ r, v = V.ref r ∧ H' r = some (.lst (Wy.pathV (Wk.trie Ps) p)) ∧ r ≠ D) acc (Ps.take j)) ⟨same_new hD, [], upd_same, .nil⟩ (fun j H' _ h => SqL.of (h.1 _ _ ha1)) ?_ ?_
    · rintro j x H2 hx ⟨s2', acc, hD2, PA⟩
      obtain ⟨p, hp, l, us, rfl, hl, pp, _⟩ := pair_at1 L0 hx
      have hpm := List.mem_of_getElem? hp
      have hj : j < Ps.length := (List.getElem?_eq_some_iff.mp hp).1
      have ss := s1.trans s2'
      walk_at "wp"
      refine ⟨d, l, _, p, us, rfl, nd.same s2', ss _ _ hl, pp.keep (Same.tk ss), tok, win p hpm, l400 p hpm, fun r H3 hr3 hr3' s3 => ?_⟩
      have rD : r ≠ D := (ne_of_none hD2 hr3).symm
      have el : acc.length = (Ps.take j).length := Paired.length PA
      refine ⟨acc, s3 _ _ hD2, by rw [el, List.length_take]; exact small (by omega), fun b o hb => ?_, _, upd_same, ?_⟩
      · rw [upd_ne (ne_of_none hb hD)]
        exact s3 _ _ (s2' _ _ hb)
      · rw [List.take_add_one, hp]
        refine pair_app (Paired.mapP PA fun v y h => ?_) (.cons ⟨r, rfl, by rw [upd_ne rD]; exact hr3', rD⟩ .nil)
        obtain ⟨r', e, h1, h2⟩ := h
        exact ⟨r', e, by rw [upd_ne h2]; exact s3 _ _ h1, h2⟩
    · rintro H2 ⟨s2', acc, hD2, PA⟩
      rw [ly, List.take_length] at PA
      have s02 := s1.trans s2'
      have PA2 : Paired (Wy.IsPath (Wk.trie Ps) H2) acc Ps := Paired.mapP PA fun v y h => by
        obtain ⟨r, e, h1, _⟩ := h
        exact ⟨r, e, h1⟩
      walk_at "wp"
      refine ⟨d, D, Wk.trie Ps, Ps, acc, rfl, nd.same s2', hD2, PA2, tok, fun p hp => by have := win p hp p.length; rw [List.take_length] at this; exact this, l61, lT, fun sd skv H3 hsd hsd3 hst s3 => ?_⟩
      walk_at "wp"
      rename_i pc hpc
      intro pl hpl
      refine ⟨upd_same, [(.inl 0, .int (-1))], rfl, by decide, ?_⟩
      rw [upd_upd, show mergeK [] [((.inl 0 : Key), V.int (-1))] = [(.inl 0, V.int (-1))] from rfl]
      have s34 := (same_new (o := .lst []) hpc).trans (same_new (o := .dK [((.inl 0 : Key), V.int (-1))]) hpl)
      have pcpl : pc ≠ pl := ne_of_none upd_same hpl
      have hpc4 : upd (upd H3 pc (.lst [])) pl (.dK [((.inl 0 : Key), V.int (-1))]) pc = some (.lst []) := by rw [upd_ne pcpl]; exact upd_same
      have hpl4 : upd (upd H3 pc (.lst [])) pl (.dK [((.inl 0 : Key), V.int (-1))]) pl = some (.dK [((.inl 0 : Key), V.int (-1))]) := upd_same
      have s04 : Same H _ := s02.trans (s3.trans s34)
      have hpcH : H pc = none := by
        cases e : H pc with
        | none => rfl
        | some o => exact absurd ((s02.trans s3) _ _ e) (by rw [hpc]; exact fun h => nomatch h)
      have hplH : H pl = none := by
        cases e : H pl with
        | none => rfl
        | some o => exact absurd (((s02.trans s3).trans (same_new (o := .lst []) hpc)) _ _ e) (by rw [hpl]; exact fun h => nomatch h)
      have s24 := s3.trans s34
      have h3pl : H3 pl = none := by rw [upd_ne pcpl.symm] at hpl; exact hpl
      have pcof : ∀ {a : Addr} {o : HO}, H3 a = some o → a ≠ pc ∧ a ≠ pl := fun h => ⟨ne_of_none h hpc, ne_of_none h h3pl⟩
      generalize upd (upd H3 pc (.lst [])) pl (.dK [((.inl 0 : Key), V.int (-1))]) = H4 at s34 hpc4 hpl4 s04 s24
      have ha4 := s04 _ _ ha
      have hD4 := s24 _ _ hD2
      walk_at "wp"
      refine ⟨a, D, ys, acc, rfl, SqL.of ha4, SqL.of hD4, ?_⟩
      have lacc : acc.length = Ps.length := Paired.length PA
      have napc : a ≠ pc ∧ a ≠ pl := pcof ((s02.trans s3) _ _ ha)
      have nDpc : D ≠ pc ∧ D ≠ pl := pcof (s3 _ _ hD2)
      have nsd : sd ≠ pc ∧ sd ≠ pl := pcof hsd3
      have lok : ∀ j, Wg.LOk (Wy.stT Ps) sz (Wg.tightL (Wy.stT Ps) sz (Ps.take j) []) := fun j => Wg.tight_ok Wg.LOk.nil
      have lin : ∀ j, ∀ q ∈ Wg.tightL (Wy.stT Ps) sz (Ps.take j) [], q ∈ Wk.trie Ps := fun j => Wy.tight_in Wg.LOk.nil (fun _ h => nomatch h) fun p hp => win p (List.mem_of_mem_take hp)
      refine Wz.loopZ (xs := ys) (ys := acc) (fun i σ H' => ∃ y3 y8 xs kvs, σ = [some (.int sz), some (.ref a), some (.ref d), y3, some (.ref D), some (.ref sd), some (.ref pc), some (.ref pl), y8] ∧ Ks [pc, pl] H4 H' ∧ H' pc = some (.lst xs) ∧ H' pl = some (.dK kvs) ∧
        Pieces [pc] H' xs (Wg.piecesOf (Wy.stT Ps) sz (Wg.tightL (Wy.stT Ps) sz (Ps.take i) [])) ∧ Wy.Dist H H' xs ∧ Wy.Places (Wk.trie Ps) (Wg.tightL (Wy.stT Ps) sz (Ps.take i) []) kvs) (by omega)
        ⟨_, _, [], _, rfl, Ks.refl, hpc4, hpl4, by rw [List.take_zero]; exact .nil, Wy.Dist.nil, by rw [List.take_zero]; exact Wy.Places.new tok⟩ (fun i σ H' _ h => ?_) ?_ ?_
      · obtain ⟨_, _, _, _, _, k, _⟩ := h
        exact ⟨SqL.of (k.keep _ _ (by simp [napc.1, napc.2]) ha4), SqL.of (k.keep _ _ (by simp [nDpc.1, nDpc.2]) hD4)⟩
      · rintro i x y t0 σ H5 hx hy ⟨y3, y8, xs, kvs, rfl, k5, hpc5, hpl5, PS5, DI5, PL5⟩ ht0
        obtain ⟨p, hp, l, us, rfl, hl, pp, _⟩ := pair_at1 L0 hx
        obtain ⟨p', hp', r, rfl, hr2⟩ := pair_at1 PA2 hy
        have ep : p' = p := Option.some.inj (hp'.symm.trans hp)
        subst ep
        have hpm := List.mem_of_getElem? hp
        have hr3 := s3 _ _ hr2
        have nr := pcof hr3
        have hl3 := (s02.trans s3) _ _ hl
        have nl := pcof hl3
        have st0 := same_new (o := .tup [.ref l, .ref r]) ht0
        have k6 : Ks [pc, pl] H4 (upd H5 t0 (.tup [.ref l, .ref r])) := k5.trans (Ks.same st0)
        have hpc6 := st0 _ _ hpc5
        have hpl6 := st0 _ _ hpl5
        have PS6 := PS5.keep (Ks.same st0)
        have DI6 := DI5.keep PS5 (Same.tk st0)
        have htt : upd H5 t0 (.tup [.ref l, .ref r]) t0 = some (.tup [.ref l, .ref r]) := upd_same
        generalize upd H5 t0 (.tup [.ref l, .ref r]) = H6 at k6 hpc6 hpl6 PS6 DI6 htt
        have kk : ∀ {a : Addr} {o : HO}, a ≠ pc ∧ a ≠ pl → H4 a = some o → H6 a = some o := fun n h => k6.keep _ _ (by simp [n.1, n.2]) h
        have hl6 := kk nl (s04 _ _ hl)
        have hr6 := kk nr (s34 _ _ hr3)
        have hsd6 := kk nsd (s34 _ _ hsd3)
        have pp6 := pp.keep ((Same.tk s04).trans k6.tk)
        have sH6 : Same H H6 := fun b o hb => k6.keep _ _ (by
          intro q
          rcases List.mem_cons.mp q with e | e
          · rw [e, hpcH] at hb; cases hb
          · rw [List.mem_singleton.mp e, hplH] at hb; cases hb) (s04 _ _ hb)
        walk_at "wp"
        refine ⟨sz, r, sd, Wk.trie Ps, p', Wy.stT Ps, skv, rfl, hr6, hsd6, fun h h1 h2 => ?_, l400 p' hpm, fun e H7 he he7 s7 => ?_⟩
        · rw [hst _ (win p' hpm h)]
          rfl
        walk_at "wp"
        have tak : Wg.tightL (Wy.stT Ps) sz (Ps.take (i + 1)) [] = Wg.layL (Wy.stT Ps) sz (Wg.tightL (Wy.stT Ps) sz (Ps.take i) []) p' := by
          rw [List.take_add_one, hp]
          exact Wy.tight_snoc
        have sH7 := sH6.trans s7
        refine ⟨pc, pl, l, r, e, Wk.trie Ps, Wg.tightL (Wy.stT Ps) sz (Ps.take i) [], p', us, xs, kvs, Wy.stT Ps, sz, H, rfl, s7 _ _ hpc6, PS6.keep (Ks.same s7), DI6.keep PS6 (Same.tk s7), s7 _ _ hpl6, PL5, s7 _ _ hl6, pp6.keep (Same.tk s7), s7 _ _ hr6, he7, ⟨nl.1, nr.1, (ne_of_none hpc6 he).symm⟩, lok i, lin i, tok, win p' hpm, l400 p' hpm, lT, sH7, fun xs' kvs' H8 a1 a2 a3 a4 a5 a6 => ?_⟩
        walk_at "wp"
        rw [tak]
        exact ⟨_, _, xs', kvs', rfl, (k6.trans (Ks.same s7)).trans a6, a1, a4, a2, a3, a5⟩
      · rintro σ H5 ⟨y3, y8, xs, kvs, rfl, k5, hpc5, hpl5, PS5, DI5, PL5⟩
        rw [ly, List.take_length] at PS5 PL5
        have hD5 := k5.keep _ _ (by simp [nDpc.1, nDpc.2]) hD4
        have sH5 : Same H H5 := fun b o hb => k5.keep _ _ (by
          intro q
          rcases List.mem_cons.mp q with e | e
          · rw [e, hpcH] at hb; cases hb
          · rw [List.mem_singleton.mp e, hplH] at hb; cases hb) (s04 _ _ hb)
        walk_at "wp"
        refine ⟨⟨acc, SqL.of hD5⟩, fun F hF => ?_⟩
        have nFpc : F ≠ pc := (ne_of_none hpc5 hF).symm
        refine loopCL (xs := acc) (fun j H' => Same H5 H' ∧ H' F = some (.lst (((Ps.take j).map (Wg.place (Wy.tL sz Ps))).map V.int))) ⟨same_new hF, by rw [List.take_zero]; exact upd_same⟩ (fun j H' _ h => SqL.of (h.1 _ _ hD5)) ?_ ?_
        · rintro j x H6 hx ⟨s6, hF6⟩
          obtain ⟨p, hp, r, rfl, hr2⟩ := pair_at1 PA2 hx
          have hpm := List.mem_of_getElem? hp
          have hj : j < Ps.length := (List.getElem?_eq_some_iff.mp hp).1
          have hr3 := s3 _ _ hr2
          have nr := pcof hr3
          have hr6 := s6 _ _ (k5.keep _ _ (by simp [nr.1, nr.2]) (s34 _ _ hr3))
          have mem : p = [] ∨ p ∈ Wg.tightL (Wy.stT Ps) sz Ps [] := by
            by_cases c : p = []
            · exact .inl c
            · exact .inr (Wy.tight_mem Wg.LOk.nil hpm c (Wy.stB_pile hpm))
          have hget : valV kvs (.inl ((Wk.numOf (Wk.trie Ps) p : Nat) : Int)) = some (.int (Wg.place (Wy.tL sz Ps) p)) := by
            have wp := win p hpm p.length
            rw [List.take_length] at wp
            rw [PL5.2 p wp, if_pos mem]
            rfl
          walk_at "wp"
          refine ixL (SqL.of hr6) Wy.pathV_last ?_
          refine ⟨pl, V.int (Wg.place (Wy.tL sz Ps) p), rfl, by rw [← hget]; exact DGet.k (k := .inl ((Wk.numOf (Wk.trie Ps) p : Nat) : Int)) (s6 _ _ hpl5), ?_⟩
          refine ⟨_, hF6, ?_, fun b o hb => ?_, ?_⟩
          · rw [List.length_map, List.length_map, List.length_take]; exact small (by omega)
          · rw [upd_ne (ne_of_none hb hF)]
            exact s6 _ _ hb
          · rw [List.take_add_one, hp, upd_same, List.map_append, List.map_append] <;> rfl
        · rintro H6 ⟨s6, hF6⟩
          rw [lacc, List.take_length] at hF6
          walk_at "wp"
          rename_i t ht
          have stt := same_new (o := .tup [.ref pc, .ref F]) ht
          have s67 := s6.trans stt
          have fresh : ∀ {b : Addr} {HH : Hp}, Same H HH → HH b = none → H b = none := fun {b HH} s h => by
            cases e : H b with
            | none => rfl
            | some o => exact absurd (s _ _ e) (by rw [h]; exact fun q => nomatch q)
          have PSF : Pieces [pc, F] H5 xs (Wg.piecesOf (Wy.stT Ps) sz (Wg.tightL (Wy.stT Ps) sz Ps [])) := Paired.mapP PS5 fun v y hy => by
            obtain ⟨t1, l1, us1, ev, h1, h2, h3, h4⟩ := hy
            refine ⟨t1, l1, us1, ev, h1, h2, h3, fun q => ?_⟩
            rcases List.mem_cons.mp q with e | e
            · exact h4 (List.mem_singleton.mpr e)
            · rw [List.mem_singleton.mp e, hF] at h2
              cases h2
          exact q t pc F xs _ (fresh (sH5.trans s6) ht) hpcH (fresh sH5 hF) upd_same (s67 _ _ hpc5) (PSF.keep (Ks.same s67)) (DI5.keep PS5 (Same.tk s67)) (stt _ _ hF6) nFpc.symm (sH5.trans s67)

end
end K10

namespace K10
open PySem PySem.Spec PyProof.Rows L2 Wp Wq Wr Wn Wm Wb Wj
local macro_rules | `(tactic| walk_at "ne") => `(tactic| first
  | assumption
  | (refine Ne.symm ?_; assumption)
  | exact ne_of_none (by assumption) (by assumption)
  | exact (ne_of_none (by assumption) (by assumption)).symm
  | exact ne_of (by assumption) (by assumption) (by intro q; cases q))
local macro_rules | `(tactic| walk_at "hp") => `(tactic| first
  | assumption
  | exact upd_same
  | (refine (upd_ne ?_).trans ?_; (walk_at "ne"); (walk_at "hp")))
local macro_rules | `(tactic| walk_at "sq") => `(tactic| first
  | assumption
  | exact SqL.of (by walk_at "hp")
  | exact SqT.of (by walk_at "hp"))
local macro_rules | `(tactic| walk_at "kind") => `(tactic| first
  | assumption
  | exact Kind.int _
  | exact Kind.str _
  | exact Kind.bl _
  | exact Kind.non
  | exact Kind.tup (by walk_at "hp")
  | exact Kind.lst (by walk_at "hp")
  | exact Kind.dK (by walk_at "hp"))
local macro_rules | `(tactic| walk_at "w1") => `(tactic| first
  | (with_reducible refine Wp.seq ?_)
  | (with_reducible refine Wp.nx_mk ?_)
  | (with_reducible refine Wp.rt_mk ?_)
  | (with_reducible refine Wp.bk_mk ?_)
  | (with_reducible refine Wp.ct_mk ?_)
  | (with_reducible refine Wp.next ?_)
  | (with_reducible refine Wp.asg ?_)
  | ((with_reducible refine' Wp.gname ?e ?_); (case e => (try dsimp only [List.set, L2.wipe, List.map_cons, List.map_nil]); (try exact rfl)))
  | (with_reducible refine Wp.gsub ?_)
  | (with_reducible refine Wp.ret ?_)
  | (with_reducible refine Wp.retN ?_)
  | (with_reducible refine Wp.drop ?_)
  | (with_reducible refine Wp.dput ?_)
  | (with_reducible refine Wp.ifs ?_)
  | ((with_reducible refine' Wp.var ?h ?_); (case h => exact rfl))
  | (with_reducible refine Wp.con ?_)
  | (with_reducible refine Wp.op ?_)
  | (with_reducible refine Wp.un ?_)
  | (with_reducible refine Wp.cb ?_)
  | (with_reducible refine Wp.anil ?_)
  | (with_reducible refine Wp.acons ?_)
  | (with_reducible refine Wp.call ?_)
  | (with_reducible refine Wp.test ?_)
  | (with_reducible refine Wp.tb_ ?_)
  | (with_reducible refine Wp.and_ ?_)
  | (with_reducible refine Wp.or_ ?_)
  | (with_reducible refine Wp.not_ ?_)
  | (with_reducible refine Wp.andV ?_)
  | (with_reducible refine Wp.orV ?_)
  | (with_reducible refine Wp.notV ?_)
  | (with_reducible refine Wp.rI0_ ?_)
  | (with_reducible refine Wp.rU_ ?_)
  | ((with_reducible refine Wp.rEq_ ?k ?_); (case k => exact rfl))
  | ((with_reducible refine Wp.rNe_ ?k ?_); (case k => exact rfl))
  | (with_reducible refine Wp.gcons ?_)
  | (with_reducible refine Wp.gnil ?_)
  | ((with_reducible refine' Wp.gtup ?h ?e ?_); (case h => walk_at "sq"); (case e => exact rfl))
  | (with_reducible refine Wp.sl ?_)
  | (with_reducible refine Wp.part ?_)
  | (with_reducible refine Wp.nopart ?_)
  | (with_reducible refine Wp.ifE ?_)
  | (with_reducible refine Wp.bm0 ?_)
  | (with_reducible refine Wp.bm ?_)
  | (with_reducible refine Wp.lcR1 ?_)
  | (with_reducible refine Wp.lcR2 ?_)
  | (with_reducible refine Wp.lcL ?_)
  | (with_reducible refine Wp.chain ?_)
  | (with_reducible refine Wp.lc2V ?_)
  | (with_reducible refine Wp.piL ?_)
  | (with_reducible refine Wp.yes ?_)
  | (with_reducible refine Wp.dinI ?_)
  | (with_reducible refine Wp.dninI ?_)
  | (with_reducible refine Wp.dget ?_)
  | ((with_reducible refine' ⟨?k, ?_⟩); (case k => show L2.wipe _ _ = L2.wipe _ _; exact rfl))
  | (with_reducible refine Wp.forR1 ?_)
  | (with_reducible refine Wp.forR2 ?_)
  | (with_reducible refine Wp.forL ?_)
  | (with_reducible refine Wp.forT ?_)
  | ((with_reducible refine' ⟨?k, ?_⟩); (case k => exact Wp.tyvL (by walk_at "hp")))
  | ((with_reducible refine' Wp.rev_ ?k ?_); (case k => walk_at "hp"))
  | ((with_reducible refine' Wp.isi ?k ?h ?_); (case k => walk_at "kind"); (case h => decide))
  | ((with_reducible refine' Wp.typ ?k ?_); (case k => walk_at "kind"))
  | (with_reducible refine Wp.slS ?k ?_; (case k => assumption))
  | (with_reducible refine iteT ?_)
  | (with_reducible refine iteF ?_)
  | (with_reducible refine Wz.par ?_)
  | (with_reducible refine Wz.forN ?_)
  | (with_reducible refine Wz.dcL ?_)
  | (with_reducible refine Wz.forZ ?_)
  | (with_reducible refine Wz.lcR3 ?_)
  | (with_reducible refine Wc.revL ?_)
  | (with_reducible refine Wd.nm ?_)
  | (with_reducible refine Wd.nget ?_)
  | ((with_reducible refine Wd.tnew ?_); intro p hp)
  | (with_reducible refine Wd.pikn ?_)
  | (with_reducible refine Wt.m1 ?_)
  | (with_reducible refine Wt.m0 ?_)
  | ((with_reducible refine' ⟨?k, ?_⟩); (case k => show ∃ a, _ = V.str a; exact ⟨_, rfl⟩))
  | (with_reducible refine Wt.js_cons ?_)
  | (with_reducible refine Wt.fmt_ ?_)
  | (with_reducible refine Wp.pcons ?_)
  | (with_reducible refine Wp.pnil ?_)
  | ((with_reducible refine' Wp.iteBnT ?h ?_); (case h => show isB _ _ = false; decide))
  | ((with_reducible refine' Wp.iteBnF ?h ?_); (case h => show isB _ _ = true; decide))
  | ((with_reducible refine' Wp.iteBt ?h ?_); (case h => show isB _ _ = true; decide))
  | ((with_reducible refine' Wp.iteBf ?h ?_); (case h => show isB _ _ = false; decide))
  | (with_reducible refine Wp.iteT' ?_)
  | (with_reducible refine Wp.iteF' ?_)
  | (with_reducible refine Wp.rNT_ ?_)
  | ((with_reducible refine Wp.lst ?_))
  | ((with_reducible refine Wp.tup ?_))
  | ((with_reducible refine' Wp.ixL ?h ?e ?_); (case h => walk_at "sq"); (case e => exact rfl))
  | ((with_reducible refine' Wp.ixT ?h ?e ?_); (case h => walk_at "sq"); (case e => exact rfl))
  | ((with_reducible refine' Wp.setL ?h ?e ?_); (case h => walk_at "hp"); (case e => exact rfl))
  | ((with_reducible refine Wp.rI_ ?k ?_); (case k => first | (show (0:Int) < _; omega) | (show CPow _ _; refine' ⟨?_, ?_, ?_⟩ <;> omega) | (show CDiv _ _; refine' ⟨?_, ?_⟩ <;> omega) | (show CMul _ _; refine' Or.inl ⟨?_, ?_⟩ <;> omega) | (show CMul _ _; refine' Or.inr ⟨?_, ?_⟩ <;> first | omega | decide) | (show CDivW _ _; refine' wide_div (b := 240) ?_ ?_ ?_ ?_ <;> first | omega | decide)))
  | ((with_reducible refine ⟨?k, ?_⟩); (case k => first | exact Nat.zero_le _ | (exact Nat.le_of_ble_eq_true rfl)); intro p hp)
  | ((with_reducible refine' ⟨_, _, rfl, .inl ?k, ?_⟩); (case k => walk_at "sq"))
  | ((with_reducible refine' ⟨_, _, rfl, .inr ?k, ?_⟩); (case k => walk_at "sq"))
  | (with_reducible refine ⟨_, rfl, ?_⟩)
  | (with_reducible refine ⟨_, _, rfl, rfl, ?_⟩)
  | (with_reducible refine ⟨_, _, rfl, ?_⟩))
local macro_rules | `(tactic| walk_at "wp") => `(tactic| repeat (walk_at "w1"))

section
variable {P : Program} {w : World} {K : PySem.W.Frag} {mg : Str → Option Value} {base : Heap}
def spRight : Sp := fun vs H Q _ => ∃ (p q : Addr) (xs : List V) (s : Int) (Pp : Pap), vs = [.int s, .ref p, .ref q] ∧ H p = some (.lst xs) ∧ Pieces [] H xs Pp.1 ∧ H q = some (.lst (Pp.2.map V.int)) ∧ Pp.1.length ≤ 30000 ∧ Pp.2.length ≤ 90 ∧ ∀ H', Same H H' → Q (.bl (isPaperB s Pp)) H'
theorem ok_right (T : Txt P w K mg) : FnOk P w K mg base CX0 1 T.f_right T.fd_right ["size", "pieces", "tops"] spRight := by
  refine T.F_right.ok sc_right (fun vs H Q E h => ?_) (fun cdv A outer s H vs Q E hr h => ?_)
  · obtain ⟨p, q, xs, s, Pp, rfl, _⟩ := h
    rfl
  · obtain ⟨p, q, xs, s, Pp, rfl, hp, pc, hq, pl, tl, k⟩ := h
    have xlen := pc.len
    have kF : ¬ rightB s Pp → ∀ H', Same H H' → Q (.bl false) H' := fun h H' s' => by
      have e : isPaperB s Pp = false := by
        cases e : isPaperB s Pp with
        | false => rfl
        | true => exact absurd (paper_right.mp e) h
      rw [← e]
      exact k H' s'
    refine ⟨_, (pss_cons (ps_set (i := 3) sc_right.nd rfl (.inl rfl) (pe_callB call_len_seq (by rfl) T.n_len (by decide +kernel) (pa_cons (pv 1) pa_nil)))
      (pss_cons (ps_for PassesOwn.never rfl (pi_list (pv 1)) (pg_tup (by rfl) (pgs_cons (pg_name (i := 4) sc_right.nd rfl (.inl rfl)) (pgs_cons (pg_name (i := 5) sc_right.nd rfl (.inl rfl)) pgs_nil))) (pss_one (ps_if (PW.pt (pw_or (pt_cmpR op_lt (pv 4) (pe_un un_neg pe_int) (nomark _)) (pw_or (pt_cmpR op_ge (pv 4) (pv 3) (nomark _)) (pw_or (pt_cmpR op_lt (pe_callB call_len_seq (by rfl) T.n_len (by decide +kernel) (pa_cons (pv 5) pa_nil)) pe_int (nomark _)) (pw_or1 (pt_cmpR op_gt (pe_callB call_len_seq (by rfl) T.n_len (by decide +kernel) (pa_cons (pv 5) pa_nil)) (pv 0) (nomark _))))))) (pss_one (ps_ret pe_bl)) pss_nil)))
      (pss_cons (ps_set (i := 6) sc_right.nd rfl (.inr rfl) pe_dnewK)
      (pss_cons (ps_for PassesOwn.never rfl (pi_list (pv 2)) (pg_name (i := 7) sc_right.nd rfl (.inl rfl)) (pss_cons (ps_if (PW.pt (pw_or (pt_cmpR op_lt (pv 7) (pe_un un_neg pe_int) (nomark _)) (pw_or1 (pt_cmpR op_ge (pv 7) (pv 3) (nomark _))))) (pss_one (ps_ret pe_bl)) pss_nil)
      (pss_cons (ps_set (i := 8) sc_right.nd rfl (.inl rfl) (pe_lst (pa_cons (pv 7) pa_nil)))
      (pss_cons (ps_while PassesOwn.never (PW.pt (pw_and (pt_cmpR op_ne (pe_ix ix_list (pv 8) (pe_un un_neg pe_int) (fun _ _ => rfl)) (pe_un un_neg pe_int) (nomark _)) (pw_and1 (pt_cmpR op_le (pe_callB call_len_seq (by rfl) T.n_len (by decide +kernel) (pa_cons (pv 8) pa_nil)) (pv 3) (nomark _))))) (pss_one (ps_expr (pe_bm PySem.F.plainAttrs_list PySem.F.slot_list_append PySem.F.type_list_append mt_append (pv 8) (pa_cons (pe_ix ix_tup (pe_ix ix_list (pv 1) (pe_ix ix_list (pv 8) (pe_un un_neg pe_int) (fun _ _ => rfl)) (fun _ _ => rfl)) pe_int (fun _ _ => rfl)) pa_nil)))))
      (pss_cons (ps_if (pt_cmpR op_ne (pe_ix ix_list (pv 8) (pe_un un_neg pe_int) (fun _ _ => rfl)) (pe_un un_neg pe_int) (nomark _)) (pss_one (ps_ret pe_bl)) pss_nil)
      (pss_one (ps_for PassesOwn.never rfl (pi_list (pe_slice sl_list (pv 8) po_none (po_some (pe_un un_neg pe_int)))) (pg_name (i := 9) sc_right.nd rfl (.inl rfl)) (pss_one (ps_if (pt_cmp (pc_dnotin (hu_of hr) (pv 9) (pv 6))) (pss_one (ps_dput (hu_of hr) (pv 6) (pv 9) (pe_callB call_lenD (by rfl) T.n_len (by decide +kernel) (pa_cons (pv 6) pa_nil)) rfl)) pss_nil)))))))))
      (pss_one (ps_ret (pe_and (pe_cmpR (op_eqD hr.units) (pe_lock (pe_lc (own := [("at", 9)]) rfl sc_right.nd (pi_keys (pv 6)) (blkOk_by (N := ["size", "pieces", "tops", "many", "under", "worths", "came", "top", "row", "at"]) (sc := defScope s_right) (by decide +kernel)) (fun _ _ _ _ _ => pg_name (i := 9) sc_right.nd rfl (Or.inl rfl)) (fun _ _ _ _ _ => pts_one (pt_cmpR op_ne (pe_dget (hu_of hr) (pv 6) (pv 9) (fun _ _ => rfl)) (pv 9) (nomark _))) (fun _ _ _ _ _ => (pv 9)))) (pe_lst pa_nil) (nomark _)) (pe_one (pe_cmpR op_eq (pe_callB call_lenD (by rfl) T.n_len (by decide +kernel) (pa_cons (pv 6) pa_nil)) (pv 3) (nomark _)))))))))), ?_⟩
    rw [show L2.start ["size", "pieces", "tops", "many", "under", "worths", "came", "top", "row", "at"] [.int s, .ref p, .ref q] = [some (.int s), some (.ref p), some (.ref q), none, none, none, none, none, none, none] from rfl]
    try dsimp only [cxOf]
    walk_at "wp"
    rw [xlen]
    refine ⟨⟨_, SqL.of hp⟩, loopL (xs := xs) (fun i σ H' => H' = H ∧ ∃ y4 y5, σ = [some (.int s), some (.ref p), some (.ref q), some (.int (Pp.1.length : Nat)), y4, y5, none, none, none, none] ∧ ∀ (j : Nat) (pc : Pc), j < i → Pp.1[j]? = some pc → ¬ badPc Pp.1.length s pc)
      ⟨rfl, _, _, rfl, fun j _ h => absurd h (Nat.not_lt_zero _)⟩ (fun i σ H' _ ⟨e, _⟩ => by subst e; exact SqL.of hp) ?_ ?_⟩
    · rintro i x σ H1 hi ⟨rfl, y4, y5, rfl, hgood⟩
      obtain ⟨⟨u, ws⟩, hy, tx, lx, vsx, rfl, htx, hlx, px, _⟩ := pair_at1 pc hi
      have el : vsx.length = ws.length := px.len
      have bad : badPc Pp.1.length s (u, ws) → ∀ H', Same H1 H' → Q (.bl false) H' := fun b => kF fun r => r.1 _ (List.mem_of_getElem? hy) b
      have good : ¬ badPc Pp.1.length s (u, ws) → ∀ (j : Nat) (pc : Pc), j < i + 1 → Pp.1[j]? = some pc → ¬ badPc Pp.1.length s pc := fun g j pc hj hjp => by
        by_cases e : j = i
        · subst e
          rw [hy] at hjp
          cases hjp
          exact g
        · exact hgood j pc (by omega) hjp
      have same0 : Same H1 H1 := fun _ _ h => h
      walk_at "wp"
      refine ite_ (fun c => ?_) (fun c1 => ?_)
      · walk_at "wp"
        exact bad (.inl c) _ same0
      walk_at "wp"
      refine ite_ (fun c => ?_) (fun c2 => ?_)
      · walk_at "wp"
        exact bad (.inr (.inl c)) _ same0
      walk_at "wp"
      refine ite_ (fun c => ?_) (fun c3 => ?_)
      · walk_at "wp"
        exact bad (.inr (.inr (.inl (by rw [← el]; exact c)))) _ same0
      walk_at "wp"
      refine ite_ (fun c => ?_) (fun c4 => ?_)
      · walk_at "wp"
        exact bad (.inr (.inr (.inr (by rw [← el]; exact c)))) _ same0
      walk_at "wp"
      refine ⟨rfl, _, _, rfl, good fun b => ?_⟩
      rcases b with b | b | b | b
      · exact c1 b
      · exact c2 b
      · exact c3 (by rw [el]; exact b)
      · exact c4 (by rw [el]; exact b)
    rintro σ H1 ⟨rfl, y4, y5, rfl, hgood⟩
    have good1 : ∀ pc ∈ Pp.1, ¬ badPc Pp.1.length s pc := fun pc h => by
      obtain ⟨i, hi, e⟩ := List.getElem_of_mem h
      exact hgood i pc (by rw [xlen]; exact hi) (by rw [← e]; exact List.getElem?_eq_getElem hi)
    have ulen : (us Pp).length = Pp.1.length := us_len
    have hr : Wx.inR (us Pp) := by
      intro a ha
      obtain ⟨p, hp, rfl⟩ := List.mem_map.mp ha
      have := good1 p hp
      unfold badPc at this
      rw [us_len]
      omega
    have kG : Wx.rightGo (us Pp) [] Pp.2 = none → ∀ H', Same H1 H' → Q (.bl false) H' := fun e => kF fun r => by
      obtain ⟨o, ho, _⟩ := r.2
      rw [e] at ho
      cases ho
    walk_at "wp"
    intro d hd
    walk_at "wp"
    have sd := same_new (o := .dK []) hd
    refine ⟨⟨_, SqL.of (sd _ _ hq)⟩, loopL (xs := Pp.2.map V.int) (fun i σ H' => ∃ y4 y5 y7 y8 y9 o, σ = [some (.int s), some (.ref p), some (.ref q), some (.int (Pp.1.length : Nat)), y4, y5, some (.ref d), y7, y8, y9] ∧ Same H1 H' ∧ H' d = some (.dK (ents 0 o)) ∧ Wx.rightGo (us Pp) o (Pp.2.drop i) = Wx.rightGo (us Pp) [] Pp.2 ∧ o.Nodup ∧ ∀ a ∈ o, 0 ≤ a ∧ a < Pp.1.length)
      ⟨_, _, _, _, _, [], rfl, sd, upd_same, rfl, List.nodup_nil, (fun _ h => nomatch h)⟩ (fun i σ H' _ ⟨_, _, _, _, _, _, _, s, _⟩ => SqL.of (s _ _ hq)) ?_ ?_⟩
    · rintro i x σ H2 hi ⟨y4, y5, y7, y8, y9, o, rfl, s2, hd2, hg, nd, org⟩
      obtain ⟨t, hu, rfl⟩ : ∃ u, Pp.2[i]? = some u ∧ x = .int u := by
        rw [List.getElem?_map] at hi
        cases e : Pp.2[i]? with
        | none => rw [e] at hi; cases hi
        | some v => rw [e] at hi; exact ⟨v, rfl, (Option.some.inj hi).symm⟩
      have hdr : Pp.2.drop i = t :: Pp.2.drop (i + 1) := by
        obtain ⟨h1, h2⟩ := List.getElem?_eq_some_iff.mp hu
        rw [List.drop_eq_getElem_cons h1, h2]
      rw [hdr] at hg
      have hg' : (if t < -1 ∨ t ≥ (us Pp).length then none else if (Wx.rowM (us Pp) (us Pp).length t).getLast? ≠ some (-1) then none else Wx.rightGo (us Pp) (Wx.addM o (Wx.rowM (us Pp) (us Pp).length t).dropLast) (Pp.2.drop (i + 1))) = Wx.rightGo (us Pp) [] Pp.2 := hg
      rw [ulen] at hg'
      walk_at "wp"
      refine ite_ (fun c => ?_) (fun c1 => ?_)
      · rw [if_pos (Or.inl c)] at hg'
        walk_at "wp"
        exact kG hg'.symm _ s2
      walk_at "wp"
      refine ite_ (fun c => ?_) (fun c2 => ?_)
      · rw [if_pos (Or.inr c)] at hg'
        walk_at "wp"
        exact kG hg'.symm _ s2
      have t0 : -1 ≤ t := by omega
      have t1 : t < Pp.1.length := by omega
      rw [if_neg (by omega)] at hg'
      walk_at "wp"
      rename_i r hrr
      have s3 := s2.trans (same_new (o := .lst [.int t]) hrr)
      have hrd : r ≠ d := (ne_of_none hd2 hrr).symm
      have hrH1 : H1 r = none := s2.free hrr
      have hd3 := (same_new (o := .lst [V.int t]) hrr) _ _ hd2
      refine Wp.whileW (fun c σ H' => ∃ (pre : List Int) (a : Int), σ = [some (.int s), some (.ref p), some (.ref q), some (.int (Pp.1.length : Nat)), y4, y5, some (.ref d), some (.int t), some (.ref r), y9] ∧ c = Pp.1.length - pre.length ∧ pre.length ≤ Pp.1.length ∧ H' r = some (.lst ((pre ++ [a]).map V.int)) ∧
        H' d = some (.dK (ents 0 o)) ∧ Same H1 H' ∧ -1 ≤ a ∧ a < Pp.1.length ∧ (∀ x ∈ pre, 0 ≤ x ∧ x < (Pp.1.length : Int)) ∧ pre ++ Wx.rowM (us Pp) (Pp.1.length - pre.length) a = Wx.rowM (us Pp) Pp.1.length t) _
        ⟨[], t, rfl, rfl, Nat.zero_le _, upd_same, hd3, s3, t0, t1, (fun _ h => nomatch h), rfl⟩ ?_
      rintro c σ H4 ⟨pre, a, rfl, rfl, prel, hr4, hd4, s4, a0, a1, prr, erow⟩
      have hlen : ((pre ++ [a]).map V.int).length = pre.length + 1 := by rw [List.length_map, List.length_append] <;> rfl
      have after : (Pp.1.length - pre.length = 0 ∨ a = -1) → Wx.rowM (us Pp) Pp.1.length t = pre ++ [a] := fun h => by rw [← erow, row_stop h]
      walk_at "wp"
      refine ixL (SqL.of hr4) at_last ?_
      walk_at "wp"
      refine iteN (fun e => ?_) (fun e => ?_)
      · have an : a ≠ -1 := fun h => e (by rw [h] <;> rfl)
        walk_at "wp"
        rw [hlen]
        refine ite_ (fun c3 => ?_) (fun c3 => ?_)
        · have hlt : pre.length < Pp.1.length := by omega
          refine ⟨fun σ' H' => ∃ m', m' < Pp.1.length - pre.length ∧ ∃ (pre : List Int) (a : Int), σ' = [some (.int s), some (.ref p), some (.ref q), some (.int (Pp.1.length : Nat)), y4, y5, some (.ref d), some (.int t), some (.ref r), y9] ∧ m' = Pp.1.length - pre.length ∧ pre.length ≤ Pp.1.length ∧ H' r = some (.lst ((pre ++ [a]).map V.int)) ∧
            H' d = some (.dK (ents 0 o)) ∧ Same H1 H' ∧ -1 ≤ a ∧ a < Pp.1.length ∧ (∀ x ∈ pre, 0 ≤ x ∧ x < (Pp.1.length : Int)) ∧ pre ++ Wx.rowM (us Pp) (Pp.1.length - pre.length) a = Wx.rowM (us Pp) Pp.1.length t, fun _ _ h => h, ?_⟩
          have hax : a.toNat < Pp.1.length := by omega
          obtain ⟨⟨u, ws⟩, hpa⟩ : ∃ pa, Pp.1[a.toNat]? = some pa := ⟨_, List.getElem?_eq_getElem hax⟩
          obtain ⟨vx, hvx, tx, lx, vsx, rfl, htx0, hlx, px, _⟩ := pair_at pc hpa
          have htx := s4 _ _ htx0
          have ea : ((a.toNat : Nat) : Int) = a := by omega
          have hua : Wx.uAt (us Pp) a = u := by
            have := us_at hpa
            rw [ea] at this
            exact this
          have hur := hr u (List.mem_map.mpr ⟨_, List.mem_of_getElem? hpa, rfl⟩)
          rw [ulen] at hur
          walk_at "wp"
          refine ixL (SqL.of hr4) at_last ?_
          walk_at "wp"
          refine ixL (SqL.of (s4 _ _ hp)) (atI_of (show a = (a.toNat : Int) by omega) hvx) ?_
          walk_at "wp"
          refine app_ hr4 ?_ ?_
          · rw [hlen]; exact small (by omega)
          walk_at "wp"
          have el2 : (pre ++ [a]).length = pre.length + 1 := by rw [List.length_append] <;> rfl
          refine ⟨_, ?_, pre ++ [a], u, rfl, rfl, ?_, ?_, ?_, ?_, hur.1, hur.2, ?_, ?_⟩
          · rw [el2]; omega
          · rw [el2]; omega
          · rw [upd_same, List.map_append (l₁ := pre ++ [a])] <;> rfl
          · rw [upd_ne hrd.symm]; exact hd4
          · intro z w hz
            rw [upd_ne (ne_of_none hz hrH1)]
            exact s4 _ _ hz
          · intro x hx
            rcases List.mem_append.mp hx with hx | hx
            · exact prr x hx
            · rw [List.mem_singleton.mp hx]; omega
          · rw [← erow, el2, show Pp.1.length - pre.length = (Pp.1.length - (pre.length + 1)) + 1 by omega, Wx.row_cons an, hua, List.append_assoc] <;> rfl
        · have e2 := after (.inl (by omega))
          rw [e2, List.getLast?_concat, if_pos (fun h => an (Option.some.inj h))] at hg'
          walk_at "wp"
          refine ixL (SqL.of hr4) at_last ?_
          walk_at "wp"
          refine iteN (fun _ => ?_) (fun e => absurd (V.int.inj e) an)
          walk_at "wp"
          exact kG hg'.symm _ s4
      · have ae : a = -1 := V.int.inj e
        have e2 := after (.inr ae)
        subst ae
        rw [e2, List.getLast?_concat, if_neg (fun h => h rfl), List.dropLast_concat] at hg'
        walk_at "wp"
        refine ixL (SqL.of hr4) at_last ?_
        walk_at "wp"
        refine iteN (fun e => absurd rfl e) (fun _ => ?_)
        walk_at "wp"
        refine slL (SqL.of hr4) fun r2 hr2 => ?_
        have ecut : ∀ m : Int, m = -1 → cutV ((pre ++ [-1]).map V.int) none (some m) = pre.map V.int := fun m e => by rw [e]; exact cut_last
        rw [ecut _ (by rfl)]
        have s5 := s4.trans (same_new (o := .lst (pre.map V.int)) hr2)
        have hd5 := (same_new (o := .lst (pre.map V.int)) hr2) _ _ hd4
        have hdr2 : r2 ≠ d := (ne_of_none hd4 hr2).symm
        have hdH1 : H1 d = none := hd
        walk_at "wp"
        refine ⟨⟨_, SqL.of upd_same⟩, loopL (xs := pre.map V.int) (fun j σ H' => ∃ y9 o', σ = [some (.int s), some (.ref p), some (.ref q), some (.int (Pp.1.length : Nat)), y4, y5, some (.ref d), some (.int t), some (.ref r), y9] ∧ Same H1 H' ∧ H' r2 = some (.lst (pre.map V.int)) ∧ H' d = some (.dK (ents 0 o')) ∧ o' = Wx.addM o (pre.take j) ∧ o'.Nodup ∧ ∀ a ∈ o', 0 ≤ a ∧ a < Pp.1.length)
          ⟨_, _, rfl, s5, upd_same, hd5, rfl, nd, org⟩ (fun j σ H' _ ⟨_, _, _, _, h, _⟩ => SqL.of h) ?_ ?_⟩
        · rintro j x σ H6 hj ⟨y9', o', rfl, s6, hr6, hd6, eo, nd6, org6⟩
          obtain ⟨z, hz, rfl⟩ : ∃ u, pre[j]? = some u ∧ x = .int u := by
            rw [List.getElem?_map] at hj
            cases e : pre[j]? with
            | none => rw [e] at hj; cases hj
            | some v => rw [e] at hj; exact ⟨v, rfl, (Option.some.inj hj).symm⟩
          have zr := prr z (List.mem_of_getElem? hz)
          have est : Wx.addM o (pre.take (j + 1)) = if z ∈ o' then o' else o' ++ [z] := by
            rw [List.take_add_one, hz, eo]
            unfold Wx.addM
            rw [List.foldl_append] <;> rfl
          have olen : o'.length ≤ Pp.1.length := nodup_bound nd6 org6
          walk_at "wp"
          refine ⟨d, _, rfl, DGet.k (k := Sum.inl z) hd6, ?_⟩
          rw [ents_val]
          walk_at "wp"
          by_cases c : z ∈ o'
          · rw [if_pos c] at est ⊢
            walk_at "wp"
            exact ⟨_, _, rfl, s6, hr6, hd6, est.symm, nd6, org6⟩
          · rw [if_neg c] at est ⊢
            walk_at "wp"
            refine Wp.iteT' ?_
            walk_at "wp"
            refine ⟨d, _, rfl, hd6, ?_⟩
            walk_at "wp"
            refine ⟨d, _, rfl, DPut.k (k := Sum.inl z) hd6 ?_, ?_⟩
            · rw [ents_len]; exact small (by omega)
            rw [ents_len, ents_put c]
            walk_at "wp"
            refine ⟨_, o' ++ [z], rfl, ?_, ?_, upd_same, est.symm, ?_, ?_⟩
            · intro w v hw
              rw [upd_ne (ne_of_none hw hdH1)]
              exact s6 _ _ hw
            · rw [upd_ne hdr2]; exact hr6
            · rw [List.nodup_append]
              refine ⟨nd6, List.nodup_cons.mpr ⟨List.not_mem_nil, List.nodup_nil⟩, fun a ha b hb e => ?_⟩
              rw [List.mem_singleton.mp hb] at e
              exact c (e ▸ ha)
            · intro x hx
              rcases List.mem_append.mp hx with hx | hx
              · exact org6 x hx
              · rw [List.mem_singleton.mp hx]; exact zr
        · rintro σ H6 ⟨y9', o', rfl, s6, hr6, hd6, eo, nd6, org6⟩
          rw [List.length_map, List.take_of_length_le (Nat.le_refl _)] at eo
          rw [← eo] at hg'
          exact ⟨_, _, _, _, _, _, rfl, s6, hd6, hg', nd6, org6⟩
    · rintro σ H2 ⟨y4, y5, y7, y8, y9, o, rfl, s2, hd2, hg, nd, org⟩
      rw [List.length_map, List.drop_eq_nil_of_le (Nat.le_refl _)] at hg
      have hg' : Wx.rightGo (us Pp) [] Pp.2 = some o := hg.symm
      have olen : o.length ≤ Pp.1.length := nodup_bound nd org
      have kv : ∀ b : Bool, (b = true ↔ (stray o = [] ∧ o.length = Pp.1.length)) → ∀ H', Same H1 H' → Q (.bl b) H' := fun b hb H' s' => by
        have e : isPaperB s Pp = b := by
          cases b with
          | true => exact paper_right.mpr ⟨good1, o, hg', hb.mp rfl⟩
          | false =>
            cases e : isPaperB s Pp with
            | false => rfl
            | true =>
              obtain ⟨_, o2, h1, h2⟩ := paper_right.mp e
              rw [hg'] at h1
              cases h1
              exact absurd (hb.mpr h2) Bool.false_ne_true
        rw [← e]
        exact k H' s'
      walk_at "wp"
      refine Wx.lock_ hd2 fun od => ?_
      have sL : Same H1 (upd H2 d (.frz od (.dK (ents 0 o)))) := fun w v hw => by
        rw [upd_ne (ne_of_none hw hd)]
        exact s2 _ _ hw
      refine Wx.lcK ?_
      walk_at "wp"
      refine ⟨d, od, rfl, .inl ⟨_, upd_same, fun D hD => ?_⟩⟩
      have hDd : D ≠ d := fun e => by rw [e, upd_same] at hD; cases hD
      refine Wx.loopCK (fun i H' => Same H1 H' ∧ H' d = some (.frz od (.dK (ents 0 o))) ∧ H' D = some (.lst ((stray1 o (o.take i)).map V.int))) ⟨?_, ?_, upd_same⟩ (fun i H' _ ⟨_, h, _⟩ => h) ?_ ?_
      · exact sL.trans (same_new hD)
      · rw [upd_ne hDd.symm, upd_same]
      · rintro i ky v H6 hi ⟨s6, hd6, hD6⟩
        obtain ⟨z, hz, rfl⟩ := ents_at _ _ _ _ _ hi
        have zin := List.mem_of_getElem? hz
        have est : stray1 o (o.take (i + 1)) = if (o.idxOf z : Int) = z then stray1 o (o.take i) else stray1 o (o.take i) ++ [z] := by
          unfold stray1
          rw [List.take_add_one, hz, List.filter_append]
          by_cases c : (o.idxOf z : Int) = z
          · rw [if_pos c]
            show _ ++ List.filter _ [z] = _
            rw [List.filter_cons, if_neg (by simp [c]), List.filter_nil, List.append_nil]
          · rw [if_neg c]
            show _ ++ List.filter _ [z] = _
            rw [List.filter_cons, if_pos (by simp [c]), List.filter_nil]
        show gName 9 (.int z) _ H6 _
        walk_at "wp"
        refine ⟨d, .int (o.idxOf z : Nat), rfl, .inl ⟨_, Sum.inl z, .inr ⟨_, hd6⟩, rfl, by rw [ents_val, if_pos zin, Nat.zero_add]⟩, ?_⟩
        walk_at "wp"
        refine iteN (fun c => ?_) (fun c => ?_)
        · have c1 : ¬ (o.idxOf z : Int) = z := fun h => c (by rw [h])
          rw [if_neg c1] at est
          walk_at "wp"
          refine ⟨_, hD6, ?_, ?_, ?_, ?_⟩
          · have : (stray1 o (o.take i)).length ≤ o.length := by
              unfold stray1
              refine Nat.le_trans (List.length_filter_le _ _) ?_
              rw [List.length_take]
              omega
            rw [List.length_map]; exact small (by omega)
          · intro w v hw
            rw [upd_ne (fun e => by rw [e] at hw; have := sL.free hD; rw [hw] at this; cases this)]
            exact s6 _ _ hw
          · rw [upd_ne hDd.symm]; exact hd6
          · rw [upd_same, est, List.map_append] <;> rfl
        · have c1 : (o.idxOf z : Int) = z := V.int.inj c
          rw [if_pos c1] at est
          rw [est]
          exact ⟨s6, hd6, hD6⟩
      · rintro H6 ⟨s6, hd6, hD6⟩
        rw [ents_len, List.take_of_length_le (Nat.le_refl _)] at hD6
        have hst : stray1 o o = stray o := rfl
        rw [hst] at hD6
        refine ⟨hd6, ?_⟩
        have s7 : Same H1 (upd H6 d (.dK (ents 0 o))) := fun w v hw => by
          rw [upd_ne (ne_of_none hw hd)]
          exact s6 _ _ hw
        have hD7 : upd H6 d (.dK (ents 0 o)) D = some (.lst ((stray o).map V.int)) := by
          rw [upd_ne hDd]; exact hD6
        have hd7 : upd H6 d (.dK (ents 0 o)) d = some (.dK (ents 0 o)) := upd_same
        generalize upd H6 d (.dK (ents 0 o)) = H7 at s7 hD7 hd7
        walk_at "wp"
        rename_i e0 he0
        have s8 := same_new (o := .lst []) he0
        refine ⟨.list ((stray o).map PyData.int), .list [], .lst (SqL.of (s8 _ _ hD7)) (ints_dp _), .lst (SqL.of upd_same) .nil, ints_shaped _, ints_shaped [], ?_⟩
        rw [eqv_nil]
        have hd8 := s8 _ _ hd7
        have s18 := s7.trans s8
        walk_at "wp"
        refine ite_ (fun c => ?_) (fun c => ?_)
        · walk_at "wp"
          refine ⟨d, _, rfl, hd8, ?_⟩
          rw [ents_len]
          walk_at "wp"
          refine kv _ ?_ _ s18
          rw [decide_eq_true_eq]
          constructor
          · intro h
            have := V.int.inj h
            exact ⟨c, by omega⟩
          · rintro ⟨_, h⟩
            rw [h]
        · walk_at "wp"
          refine kv _ ?_ _ s18
          exact ⟨(fun h => nomatch h), fun h => absurd h.1 c⟩

end
end K10

namespace K10
open PySem PySem.Spec PyProof.Rows L2 Wp Wq Wr Wb
local macro_rules | `(tactic| walk_at "ne") => `(tactic| first
  | assumption
  | (refine Ne.symm ?_; assumption)
  | exact ne_of_none (by assumption) (by assumption)
  | exact (ne_of_none (by assumption) (by assumption)).symm
  | exact ne_of (by assumption) (by assumption) (by intro q; cases q))
local macro_rules | `(tactic| walk_at "hp") => `(tactic| first
  | assumption
  | exact upd_same
  | (refine (upd_ne ?_).trans ?_; (walk_at "ne"); (walk_at "hp")))
local macro_rules | `(tactic| walk_at "sq") => `(tactic| first
  | assumption
  | exact SqL.of (by walk_at "hp")
  | exact SqT.of (by walk_at "hp"))
local macro_rules | `(tactic| walk_at "kind") => `(tactic| first
  | assumption
  | exact Kind.int _
  | exact Kind.str _
  | exact Kind.bl _
  | exact Kind.non
  | exact Kind.tup (by walk_at "hp")
  | exact Kind.lst (by walk_at "hp")
  | exact Kind.dK (by walk_at "hp"))
local macro_rules | `(tactic| walk_at "w1") => `(tactic| first
  | (with_reducible refine Wp.seq ?_)
  | (with_reducible refine Wp.nx_mk ?_)
  | (with_reducible refine Wp.rt_mk ?_)
  | (with_reducible refine Wp.bk_mk ?_)
  | (with_reducible refine Wp.ct_mk ?_)
  | (with_reducible refine Wp.next ?_)
  | (with_reducible refine Wp.asg ?_)
  | ((with_reducible refine' Wp.gname ?e ?_); (case e => (try dsimp only [List.set, L2.wipe, List.map_cons, List.map_nil]); (try exact rfl)))
  | (with_reducible refine Wp.gsub ?_)
  | (with_reducible refine Wp.ret ?_)
  | (with_reducible refine Wp.retN ?_)
  | (with_reducible refine Wp.drop ?_)
  | (with_reducible refine Wp.dput ?_)
  | (with_reducible refine Wp.ifs ?_)
  | ((with_reducible refine' Wp.var ?h ?_); (case h => exact rfl))
  | (with_reducible refine Wp.con ?_)
  | (with_reducible refine Wp.op ?_)
  | (with_reducible refine Wp.un ?_)
  | (with_reducible refine Wp.cb ?_)
  | (with_reducible refine Wp.anil ?_)
  | (with_reducible refine Wp.acons ?_)
  | (with_reducible refine Wp.call ?_)
  | (with_reducible refine Wp.test ?_)
  | (with_reducible refine Wp.tb_ ?_)
  | (with_reducible refine Wp.and_ ?_)
  | (with_reducible refine Wp.or_ ?_)
  | (with_reducible refine Wp.not_ ?_)
  | (with_reducible refine Wp.andV ?_)
  | (with_reducible refine Wp.orV ?_)
  | (with_reducible refine Wp.notV ?_)
  | (with_reducible refine Wp.rI0_ ?_)
  | (with_reducible refine Wp.rU_ ?_)
  | ((with_reducible refine Wp.rEq_ ?k ?_); (case k => exact rfl))
  | ((with_reducible refine Wp.rNe_ ?k ?_); (case k => exact rfl))
  | (with_reducible refine Wp.gcons ?_)
  | (with_reducible refine Wp.gnil ?_)
  | ((with_reducible refine' Wp.gtup ?h ?e ?_); (case h => walk_at "sq"); (case e => exact rfl))
  | (with_reducible refine Wp.sl ?_)
  | (with_reducible refine Wp.part ?_)
  | (with_reducible refine Wp.nopart ?_)
  | (with_reducible refine Wp.ifE ?_)
  | (with_reducible refine Wp.bm0 ?_)
  | (with_reducible refine Wp.bm ?_)
  | (with_reducible refine Wp.lcR1 ?_)
  | (with_reducible refine Wp.lcR2 ?_)
  | (with_reducible refine Wp.lcL ?_)
  | (with_reducible refine Wp.chain ?_)
  | (with_reducible refine Wp.lc2V ?_)
  | (with_reducible refine Wp.piL ?_)
  | (with_reducible refine Wp.yes ?_)
  | (with_reducible refine Wp.dinI ?_)
  | (with_reducible refine Wp.dninI ?_)
  | (with_reducible refine Wp.dget ?_)
  | ((with_reducible refine' ⟨?k, ?_⟩); (case k => show L2.wipe _ _ = L2.wipe _ _; exact rfl))
  | (with_reducible refine Wp.forR1 ?_)
  | (with_reducible refine Wp.forR2 ?_)
  | (with_reducible refine Wp.forL ?_)
  | (with_reducible refine Wp.forT ?_)
  | ((with_reducible refine' ⟨?k, ?_⟩); (case k => exact Wp.tyvL (by walk_at "hp")))
  | ((with_reducible refine' Wp.rev_ ?k ?_); (case k => walk_at "hp"))
  | ((with_reducible refine' Wp.isi ?k ?h ?_); (case k => walk_at "kind"); (case h => decide))
  | ((with_reducible refine' Wp.typ ?k ?_); (case k => walk_at "kind"))
  | (with_reducible refine Wp.slS ?k ?_; (case k => assumption))
  | (with_reducible refine iteT ?_)
  | (with_reducible refine iteF ?_)
  | (with_reducible refine Wz.par ?_)
  | (with_reducible refine Wz.forN ?_)
  | (with_reducible refine Wz.dcL ?_)
  | (with_reducible refine Wz.forZ ?_)
  | (with_reducible refine Wz.lcR3 ?_)
  | (with_reducible refine Wc.revL ?_)
  | (with_reducible refine Wd.nm ?_)
  | (with_reducible refine Wd.nget ?_)
  | ((with_reducible refine Wd.tnew ?_); intro p hp)
  | (with_reducible refine Wd.pikn ?_)
  | (with_reducible refine Wt.m1 ?_)
  | (with_reducible refine Wt.m0 ?_)
  | ((with_reducible refine' ⟨?k, ?_⟩); (case k => show ∃ a, _ = V.str a; exact ⟨_, rfl⟩))
  | (with_reducible refine Wt.js_cons ?_)
  | (with_reducible refine Wt.fmt_ ?_)
  | (with_reducible refine Wp.pcons ?_)
  | (with_reducible refine Wp.pnil ?_)
  | ((with_reducible refine' Wp.iteBnT ?h ?_); (case h => show isB _ _ = false; decide))
  | ((with_reducible refine' Wp.iteBnF ?h ?_); (case h => show isB _ _ = true; decide))
  | ((with_reducible refine' Wp.iteBt ?h ?_); (case h => show isB _ _ = true; decide))
  | ((with_reducible refine' Wp.iteBf ?h ?_); (case h => show isB _ _ = false; decide))
  | (with_reducible refine Wp.iteT' ?_)
  | (with_reducible refine Wp.iteF' ?_)
  | (with_reducible refine Wp.rNT_ ?_)
  | ((with_reducible refine Wp.lst ?_))
  | ((with_reducible refine Wp.tup ?_))
  | ((with_reducible refine' Wp.ixL ?h ?e ?_); (case h => walk_at "sq"); (case e => exact rfl))
  | ((with_reducible refine' Wp.ixT ?h ?e ?_); (case h => walk_at "sq"); (case e => exact rfl))
  | ((with_reducible refine' Wp.setL ?h ?e ?_); (case h => walk_at "hp"); (case e => exact rfl))
  | ((with_reducible refine Wp.rI_ ?k ?_); (case k => first | (show (0:Int) < _; omega) | (show CPow _ _; refine' ⟨?_, ?_, ?_⟩ <;> omega) | (show CDiv _ _; refine' ⟨?_, ?_⟩ <;> omega) | (show CMul _ _; refine' Or.inl ⟨?_, ?_⟩ <;> omega) | (show CMul _ _; refine' Or.inr ⟨?_, ?_⟩ <;> first | omega | decide) | (show CDivW _ _; refine' wide_div (b := 240) ?_ ?_ ?_ ?_ <;> first | omega | decide)))
  | ((with_reducible refine ⟨?k, ?_⟩); (case k => first | exact Nat.zero_le _ | (exact Nat.le_of_ble_eq_true rfl)); intro p hp)
  | ((with_reducible refine' ⟨_, _, rfl, .inl ?k, ?_⟩); (case k => walk_at "sq"))
  | ((with_reducible refine' ⟨_, _, rfl, .inr ?k, ?_⟩); (case k => walk_at "sq"))
  | (with_reducible refine ⟨_, rfl, ?_⟩)
  | (with_reducible refine ⟨_, _, rfl, rfl, ?_⟩)
  | (with_reducible refine ⟨_, _, rfl, ?_⟩))
local macro_rules | `(tactic| walk_at "wp") => `(tactic| repeat (walk_at "w1"))

/-- a top's way down, and the piles on it -/
def Way (R : List Pc) (n : Nat) (as : List Int) (F : Nat → List W) : Prop := as.length = n ∧ F n = [] ∧ ∀ k, k < n → ∃ a ws, as[k]? = some a ∧ 0 ≤ a ∧ R[a.toNat]? = some (as.getD (k + 1) (-1), ws) ∧ F k = F (k + 1) ++ ws
theorem way_of {R : List Pc} {n : Nat} {top : Int} {pile : List W} (h : Wo.OpensN R n top pile) : ∃ as F, Way R n as F ∧ as.getD 0 (-1) = top ∧ F 0 = pile := by
  induction h with
  | nil => exact ⟨[], fun _ => [], ⟨rfl, rfl, fun k hk => by omega⟩, rfl, rfl⟩
  | @cons n i u ws q hR h0 t ih =>
    obtain ⟨as, F, ⟨l, f0, st⟩, e1, e2⟩ := ih
    refine ⟨i :: as, fun k => match k with | 0 => q ++ ws | k + 1 => F k, ⟨by rw [List.length_cons, l], f0, fun k hk => ?_⟩, rfl, rfl⟩
    cases k with
    | zero =>
      refine ⟨i, ws, rfl, h0, ?_, ?_⟩
      · rw [show (i :: as).getD (0 + 1) (-1) = as.getD 0 (-1) from rfl, e1]
        exact hR
      · show q ++ ws = F 0 ++ ws
        rw [e2]
    | succ k =>
      obtain ⟨a, ws', h1, h2, h3, h4⟩ := st k (by omega)
      exact ⟨a, ws', h1, h2, h3, h4⟩
section
variable {P : Program} {w : World} {K : PySem.W.Frag} {mg : Str → Option Value} {base : Heap}
def spWorthsAll : Sp := fun vs H Q _ => ∃ (l : Addr) (us : List V) (ws : List W), vs = [.ref l] ∧ H l = some (.lst us) ∧ Pile H us ws ∧ Q (.bl true) H
theorem ok_worths_all (T : Txt P w K mg) : FnOk P w K mg base CX0 2 T.f_worths_all T.fd_worths_all ["found"] spWorthsAll := by
  have G_whole := ok_whole (base := base) T
  refine T.F_worths_all.ok sc_worths_all (fun vs H Q E h => ?_) (fun cdv A outer s H vs Q E hr h => ?_)
  · obtain ⟨l, us, ws, rfl, _⟩ := h
    rfl
  · obtain ⟨l, us, ws, rfl, hl, hp, q⟩ := h
    refine ⟨_, (pss_cons (ps_if (pt_not (pt_val (pe_callB call_isi (by rfl) T.n_isinstance (by decide +kernel) (pa_cons (pv 0) (pa_cons (pe_bltn (v := .ty "list") (by rfl) T.n_list (by decide +kernel) rfl) pa_nil))))) (pss_one (ps_ret pe_bl)) pss_nil)
      (pss_cons (ps_for PassesOwn.never rfl (pi_list (pv 0)) (pg_name (i := 1) sc_worths_all.nd rfl (.inl rfl)) (pss_cons (ps_if (PW.pt (pw_or (pt_not (pt_val (pe_callB call_isi (by rfl) T.n_isinstance (by decide +kernel) (pa_cons (pv 1) (pa_cons (pe_bltn (v := .ty "tuple") (by rfl) T.n_tuple (by decide +kernel) rfl) pa_nil))))) (pw_or (pt_cmpR op_ne (pe_callB call_len_seq (by rfl) T.n_len (by decide +kernel) (pa_cons (pv 1) pa_nil)) pe_int (nomark _)) (pw_or1 (pt_not (pt_val (pe_callB call_isi (by rfl) T.n_isinstance (by decide +kernel) (pa_cons (pe_ix ix_tup (pv 1) pe_int (fun _ _ => rfl)) (pa_cons (pe_bltn (v := .ty "str") (by rfl) T.n_str (by decide +kernel) rfl) pa_nil))))))))) (pss_one (ps_ret pe_bl)) pss_nil)
      (pss_one (ps_if (pt_not (pt_val (pe_call G_whole (hr.mono (by decide)) (by rfl) T.g_whole T.F_whole.kp T.b_whole .nil pass0 (pa_cons (pe_ix ix_tup (pv 1) pe_int (fun _ _ => rfl)) pa_nil)))) (pss_one (ps_ret pe_bl)) pss_nil))))
      (pss_one (ps_ret pe_bl)))), ?_⟩
    rw [show L2.start ["found", "worth"] [.ref l] = [some (.ref l), none] from rfl]
    try dsimp only [cxOf]
    walk_at "wp"
    refine ⟨⟨us, SqL.of hl⟩, loopL (xs := us) (fun i σ H' => H' = H ∧ ∃ y, σ = [some (.ref l), y]) ⟨rfl, _, rfl⟩ (fun i σ H' _ h => h.1 ▸ SqL.of hl) ?_ ?_⟩
    · rintro i x σ H' hx ⟨rfl, y, rfl⟩
      obtain ⟨z, hz, t, rfl, ht⟩ := hp.get hx
      walk_at "wp"
      refine iteN (fun e => absurd rfl e) (fun _ => ?_)
      walk_at "wp"
      refine ⟨_, _, rfl, .int _, ?_⟩
      walk_at "wp"
      refine iteN (fun e => absurd rfl e) (fun _ => ?_)
      walk_at "wp"
      exact ⟨rfl, _, rfl⟩
    · rintro σ H' ⟨rfl, y, rfl⟩
      walk_at "wp"
      exact q
def spForm : Sp := fun vs H Q _ => ∃ (t p q : Addr) (xs : List V) (R : List Pc) (tops : List Int), vs = [.ref t] ∧ H t = some (.tup [.ref p, .ref q]) ∧ H p = some (.lst xs) ∧ Pieces [] H xs R ∧ H q = some (.lst (tops.map V.int)) ∧ ∀ H', Same H H' → Q (.bl true) H'
theorem ok_form (T : Txt P w K mg) : FnOk P w K mg base CX0 3 T.f_form T.fd_form ["found"] spForm := by
  have G_whole := ok_whole (base := base) T
  have G_worths_all := ok_worths_all (base := base) T
  refine T.F_form.ok sc_form (fun vs H Q E h => ?_) (fun cdv A outer s H vs Q E hr h => ?_)
  · obtain ⟨t, p, q, xs, R, tops, rfl, _⟩ := h
    rfl
  · obtain ⟨t, p, q, xs, R, tops, rfl, ht, hp, PS, hq, k⟩ := h
    refine ⟨_, (pss_cons (ps_if (PW.pt (pw_or (pt_not (pt_val (pe_callB call_isi (by rfl) T.n_isinstance (by decide +kernel) (pa_cons (pv 0) (pa_cons (pe_bltn (v := .ty "tuple") (by rfl) T.n_tuple (by decide +kernel) rfl) pa_nil))))) (pw_or1 (pt_cmpR op_ne (pe_callB call_len_seq (by rfl) T.n_len (by decide +kernel) (pa_cons (pv 0) pa_nil)) pe_int (nomark _))))) (pss_one (ps_ret pe_bl)) pss_nil)
      (pss_cons (ps_if (PW.pt (pw_or (pt_not (pt_val (pe_callB call_isi (by rfl) T.n_isinstance (by decide +kernel) (pa_cons (pe_ix ix_tup (pv 0) pe_int (fun _ _ => rfl)) (pa_cons (pe_bltn (v := .ty "list") (by rfl) T.n_list (by decide +kernel) rfl) pa_nil))))) (pw_or1 (pt_not (pt_val (pe_callB call_isi (by rfl) T.n_isinstance (by decide +kernel) (pa_cons (pe_ix ix_tup (pv 0) pe_int (fun _ _ => rfl)) (pa_cons (pe_bltn (v := .ty "list") (by rfl) T.n_list (by decide +kernel) rfl) pa_nil)))))))) (pss_one (ps_ret pe_bl)) pss_nil)
      (pss_cons (ps_for PassesOwn.never rfl (pi_list (pe_ix ix_tup (pv 0) pe_int (fun _ _ => rfl))) (pg_name (i := 1) sc_form.nd rfl (.inl rfl)) (pss_cons (ps_if (PW.pt (pw_or (pt_not (pt_val (pe_callB call_isi (by rfl) T.n_isinstance (by decide +kernel) (pa_cons (pv 1) (pa_cons (pe_bltn (v := .ty "tuple") (by rfl) T.n_tuple (by decide +kernel) rfl) pa_nil))))) (pw_or (pt_cmpR op_ne (pe_callB call_len_seq (by rfl) T.n_len (by decide +kernel) (pa_cons (pv 1) pa_nil)) pe_int (nomark _)) (pw_or1 (pt_not (pt_val (pe_call G_whole (hr.mono (by decide)) (by rfl) T.g_whole T.F_whole.kp T.b_whole .nil pass0 (pa_cons (pe_ix ix_tup (pv 1) pe_int (fun _ _ => rfl)) pa_nil)))))))) (pss_one (ps_ret pe_bl)) pss_nil)
      (pss_one (ps_if (pt_not (pt_val (pe_call G_worths_all (hr.mono (by decide)) (by rfl) T.g_worths_all T.F_worths_all.kp T.b_worths_all .nil pass0 (pa_cons (pe_ix ix_tup (pv 1) pe_int (fun _ _ => rfl)) pa_nil)))) (pss_one (ps_ret pe_bl)) pss_nil))))
      (pss_one (ps_ret (pe_cmpR (op_eqD hr.units) (pe_lc (own := [("top", 2)]) rfl sc_form.nd (pi_list (pe_ix ix_tup (pv 0) pe_int (fun _ _ => rfl))) (blkOk_by (N := ["found", "piece", "top"]) (sc := defScope s_form) (by decide +kernel)) (fun _ _ _ _ _ => pg_name (i := 2) sc_form.nd rfl (Or.inl rfl)) (fun _ _ _ _ _ => pts_one (pt_not (pt_val (pe_call G_whole (hr.mono (by decide)) (by rfl) T.g_whole T.F_whole.kp T.b_whole .nil pass0 (pa_cons (pv 2) pa_nil))))) (fun _ _ _ _ _ => (pv 2))) (pe_lst pa_nil) (nomark _))))))), ?_⟩
    rw [show L2.start ["found", "piece", "top"] [.ref t] = [some (.ref t), none, none] from rfl]
    try dsimp only [cxOf]
    walk_at "wp"
    refine iteN (fun e => absurd rfl e) (fun _ => ?_)
    walk_at "wp"
    refine ⟨⟨xs, SqL.of hp⟩, loopL (xs := xs) (fun i σ H' => H' = H ∧ ∃ y, σ = [some (.ref t), y, none]) ⟨rfl, _, rfl⟩ (fun i σ H' _ h => h.1 ▸ SqL.of hp) ?_ ?_⟩
    · rintro i x σ H' hx ⟨rfl, y, rfl⟩
      obtain ⟨pc, hpc, tt, l, us, rfl, h1, h2, h3, _⟩ := pair_at1 PS hx
      walk_at "wp"
      refine iteN (fun e => absurd rfl e) (fun _ => ?_)
      walk_at "wp"
      refine ⟨_, _, rfl, .int _, ?_⟩
      walk_at "wp"
      refine iteN (fun e => absurd rfl e) (fun _ => ?_)
      walk_at "wp"
      refine ⟨l, us, pc.2, rfl, h2, h3, ?_⟩
      walk_at "wp"
      exact ⟨rfl, _, rfl⟩
    · rintro σ H' ⟨rfl, y, rfl⟩
      walk_at "wp"
      refine ⟨⟨_, SqL.of hq⟩, fun D hD => ?_⟩
      refine loopCL (xs := tops.map V.int) (fun j H1 => Same H' H1 ∧ H1 D = some (.lst [])) ⟨same_new hD, upd_same⟩ (fun j H1 _ h => SqL.of (h.1 _ _ hq)) ?_ ?_
      · rintro j x H1 hx ⟨s1, hD1⟩
        rw [List.getElem?_map] at hx
        cases hn : tops[j]? with
        | none => rw [hn] at hx; cases hx
        | some m =>
          rw [hn] at hx
          cases hx
          walk_at "wp"
          refine ⟨_, _, rfl, .int _, ?_⟩
          walk_at "wp"
          refine iteBf (by decide) ?_
          exact ⟨s1, hD1⟩
      · rintro H1 ⟨s1, hD1⟩
        walk_at "wp"
        rename_i e he
        have se := same_new (o := .lst []) he
        have d1 : Dp K (upd H1 e (.lst [])) (.ref D) (.list []) := .lst (SqL.of (se _ _ hD1)) .nil
        have d2 : Dp K (upd H1 e (.lst [])) (.ref e) (.list []) := .lst (SqL.of upd_same) .nil
        exact eqD d1 d2 (by decide +kernel) (by decide +kernel) (k _ (s1.trans se))
def spOpen : Sp := fun vs H Q _ => ∃ (p : Addr) (top : Int) (xs : List V) (R : List Pc) (n : Nat) (pile : List W), vs = [.ref p, .int top] ∧ H p = some (.lst xs) ∧ Pieces [] H xs R ∧ Wo.OpensN R n top pile ∧ n ≤ 1000 ∧ pile.length ≤ 1000 ∧
  ∀ l us H', H l = none → H' l = some (.lst us) → Pile H' us pile → Same H H' → Q (.ref l) H'
theorem ok_open (T : Txt P w K mg) : FnOk P w K mg base CX0 1 T.f_open T.fd_open ["pieces", "top"] spOpen := by
  refine T.F_open.ok sc_open (fun vs H Q E h => ?_) (fun cdv A outer s H vs Q E hr h => ?_)
  · obtain ⟨p, top, xs, R, n, pile, rfl, _⟩ := h
    rfl
  · obtain ⟨p, top, xs, R, n, pile, rfl, hp, PS, op, n900, l900, k⟩ := h
    obtain ⟨as, F, ⟨la, Fn, st⟩, e0, F0⟩ := way_of op
    have Flen : ∀ j, j ≤ n → (F j).length ≤ 1000 := by
      intro j
      induction j with
      | zero => intro _; rw [F0]; exact l900
      | succ j ih =>
        intro hj
        obtain ⟨a, ws, _, _, _, e⟩ := st j (by omega)
        have := ih (by omega)
        rw [e, List.length_append] at this
        omega
    refine ⟨_, (pss_cons (ps_set (i := 2) sc_open.nd rfl (.inl rfl) (pe_lst pa_nil))
      (pss_cons (ps_set (i := 3) sc_open.nd rfl (.inl rfl) (pv 1))
      (pss_cons (ps_while PassesOwn.never (pt_cmpR op_ne (pv 3) (pe_un un_neg pe_int) (nomark _)) (pss_cons (ps_expr (pe_bm PySem.F.plainAttrs_list PySem.F.slot_list_append PySem.F.type_list_append mt_append (pv 2) (pa_cons (pv 3) pa_nil)))
      (pss_one (ps_set (i := 3) sc_open.nd rfl (.inl rfl) (pe_ix ix_tup (pe_ix ix_list (pv 0) (pv 3) (fun _ _ => rfl)) pe_int (fun _ _ => rfl))))))
      (pss_cons (ps_set (i := 4) sc_open.nd rfl (.inl rfl) (pe_lst pa_nil))
      (pss_cons (ps_for PassesOwn.never rfl (pi_list (pe_revL (pv 2))) (pg_name (i := 3) sc_open.nd rfl (.inl rfl)) (pss_one (ps_set (i := 4) sc_open.nd rfl (.inl rfl) (pe_op op_cat (pv 4) (pe_ix ix_tup (pe_ix ix_list (pv 0) (pv 3) (fun _ _ => rfl)) pe_int (fun _ _ => rfl))))))
      (pss_one (ps_ret (pv 4)))))))), ?_⟩
    rw [show L2.start ["pieces", "top", "row", "at", "pile"] [.ref p, .int top] = [some (.ref p), some (.int top), none, none, none] from rfl]
    try dsimp only [cxOf]
    walk_at "wp"
    rename_i r hr0
    have s0 := same_new (o := .lst []) hr0
    refine whileW (fun m σ H' => ∃ j : Nat, j ≤ n ∧ m = n - j ∧ σ = [some (.ref p), some (.int top), some (.ref r), some (.int (as.getD j (-1))), none] ∧ Same H H' ∧ H' r = some (.lst ((as.take j).map V.int))) n ⟨0, Nat.zero_le _, rfl, by rw [e0], s0, by rw [List.take_zero]; exact upd_same⟩ ?_
    rintro m σ H1 ⟨j, hj, rfl, rfl, s1, hr1⟩
    walk_at "wp"
    refine iteN (fun c => ?_) (fun c => ?_)
    · have hjn : j < n := by
        by_cases e : j = n
        · exact absurd (by rw [e, List.getD_eq_getElem?_getD, List.getElem?_eq_none (by omega)]; rfl) c
        · omega
      obtain ⟨a, ws, ha, a0, hR, eF⟩ := st j hjn
      have eg : as.getD j (-1) = a := by rw [List.getD_eq_getElem?_getD, ha] <;> rfl
      obtain ⟨x, hx, t, l, us, rfl, h1, h2, h3, _⟩ := pair_at PS hR
      have tak : as.take (j + 1) = as.take j ++ [a] := by rw [List.take_add_one, ha] <;> rfl
      rw [eg]
      refine ⟨fun σ' H2 => σ' = [some (.ref p), some (.int top), some (.ref r), some (.int (as.getD (j + 1) (-1))), none] ∧ Same H H2 ∧ H2 r = some (.lst ((as.take (j + 1)).map V.int)), ?_, ?_⟩
      · rintro σ' H2 ⟨rfl, s2, hr2⟩
        exact ⟨n - (j + 1), by omega, j + 1, by omega, rfl, rfl, s2, hr2⟩
      · walk_at "wp"
        refine app_ hr1 (by rw [List.length_map, List.length_take]; exact small (by omega)) ?_
        have rp : p ≠ r := ne_of_none hp hr0
        have k2 : ∀ b o, b ≠ r → H1 b = some o → upd H1 r (.lst ((as.take j).map V.int ++ [V.int a])) b = some o := fun b o nb hb => by rw [upd_ne nb]; exact hb
        have tr : t ≠ r := fun e => by
          rw [e] at h1
          rw [h1] at hr0
          cases hr0
        have hp2 := k2 _ _ rp (s1 _ _ hp)
        have ht2 := k2 _ _ tr (s1 _ _ h1)
        walk_at "wp"
        refine ixL (SqL.of hp2) (atI_of (n := a.toNat) (by omega) hx) ?_
        walk_at "wp"
        refine ⟨rfl, fun b o hb => ?_, ?_⟩
        · rw [upd_ne (ne_of_none hb hr0)]
          exact s1 _ _ hb
        · rw [tak, List.map_append]
          exact upd_same
    · have hjn : j = n := by
        by_cases e : j = n
        · exact e
        · obtain ⟨a, ws, ha, a0, _⟩ := st j (by omega)
          have eg : as.getD j (-1) = a := by rw [List.getD_eq_getElem?_getD, ha] <;> rfl
          rw [eg] at c
          have := V.int.inj c
          omega
      subst hjn
      rw [← la, List.take_length] at hr1
      walk_at "wp"
      rename_i g hg
      have s2 := s1.trans (same_new (o := .lst []) hg)
      have hr2 := (same_new (o := .lst []) hg) _ _ hr1
      refine ⟨r, _, rfl, SqL.of hr2, fun v hv => ?_⟩
      have s3 := s2.trans (same_new (o := .lst (as.map V.int).reverse) hv)
      walk_at "wp"
      refine ⟨⟨_, SqL.of upd_same⟩, loopL (xs := (as.map V.int).reverse) (fun i σ H' => ∃ y pl us, σ = [some (.ref p), some (.int top), some (.ref r), y, some (.ref pl)] ∧ Same H H' ∧ Same (upd (upd H1 g (.lst [])) v (.lst (as.map V.int).reverse)) H' ∧ H pl = none ∧ H' pl = some (.lst us) ∧ Pile H' us (F (as.length - i)))
        ⟨_, g, [], rfl, s3, (fun _ _ h => h), ?_, (same_new hv) _ _ upd_same, ?_⟩ (fun i σ H' _ h => by obtain ⟨_, _, _, _, _, h, _⟩ := h; exact SqL.of (h _ _ upd_same)) ?_ ?_⟩
      · cases e : H g with
        | none => rfl
        | some o => exact absurd (s1 _ _ e) (by rw [hg]; exact fun h => nomatch h)
      · rw [Nat.sub_zero, la, Fn]
        exact Pile.nil
      · rintro i x σ H' hx ⟨y, pl, us, rfl, s4, s5, plH, hpl, pp⟩
        have hi : i < as.length := by
          have := (List.getElem?_eq_some_iff.mp hx).1
          rw [List.length_reverse, List.length_map] at this
          exact this
        rw [List.getElem?_reverse (by rw [List.length_map]; exact hi), List.length_map, List.getElem?_map] at hx
        obtain ⟨a, ws, ha, a0, hR, eF⟩ := st (as.length - 1 - i) (by omega)
        rw [ha] at hx
        cases hx
        obtain ⟨x, hx, t, l, vs, rfl, h1, h2, h3, _⟩ := pair_at PS hR
        rw [show as.length - 1 - i + 1 = as.length - i by omega] at eF
        have e2 : F (as.length - (i + 1)) = F (as.length - i) ++ ws := by
          rw [show as.length - (i + 1) = as.length - 1 - i by omega]
          exact eF
        have ht4 := s4 _ _ h1
        have lf := Flen (as.length - (i + 1)) (by omega)
        rw [e2, List.length_append] at lf
        walk_at "wp"
        refine ixL (SqL.of (s4 _ _ hp)) (atI_of (n := a.toNat) (by omega) hx) ?_
        walk_at "wp"
        have l3 : vs.length = ws.length := h3.len
        refine cat_ hpl (s4 _ _ h2) (by rw [pp.len, l3]; have := small (n := 100000) (by decide); omega) fun nl hnl => ?_
        have s6 := same_new (o := .lst (us ++ vs)) hnl
        walk_at "wp"
        refine ⟨_, nl, _, rfl, s4.trans s6, s5.trans s6, ?_, upd_same, ?_⟩
        · cases e : H nl with
          | none => rfl
          | some o => exact absurd (s4 _ _ e) (by rw [hnl]; exact fun h => nomatch h)
        · rw [e2]
          exact (pp.app (h3.keep (Same.tk s4))).keep (Same.tk s6)
      · rintro σ H' ⟨y, pl, us, rfl, s4, s5, plH, hpl, pp⟩
        rw [List.length_reverse, List.length_map, Nat.sub_self, F0] at pp
        walk_at "wp"
        exact k pl us H' plH hpl pp s4
end
end K10

namespace K10
open PySem PySem.Spec PyProof.Rows L2 Wp Wq Wr Wb
local macro_rules | `(tactic| walk_at "ne") => `(tactic| first
  | assumption
  | (refine Ne.symm ?_; assumption)
  | exact ne_of_none (by assumption) (by assumption)
  | exact (ne_of_none (by assumption) (by assumption)).symm
  | exact ne_of (by assumption) (by assumption) (by intro q; cases q))
local macro_rules | `(tactic| walk_at "hp") => `(tactic| first
  | assumption
  | exact upd_same
  | (refine (upd_ne ?_).trans ?_; (walk_at "ne"); (walk_at "hp")))
local macro_rules | `(tactic| walk_at "sq") => `(tactic| first
  | assumption
  | exact SqL.of (by walk_at "hp")
  | exact SqT.of (by walk_at "hp"))
local macro_rules | `(tactic| walk_at "kind") => `(tactic| first
  | assumption
  | exact Kind.int _
  | exact Kind.str _
  | exact Kind.bl _
  | exact Kind.non
  | exact Kind.tup (by walk_at "hp")
  | exact Kind.lst (by walk_at "hp")
  | exact Kind.dK (by walk_at "hp"))
local macro_rules | `(tactic| walk_at "w1") => `(tactic| first
  | (with_reducible refine Wp.seq ?_)
  | (with_reducible refine Wp.nx_mk ?_)
  | (with_reducible refine Wp.rt_mk ?_)
  | (with_reducible refine Wp.bk_mk ?_)
  | (with_reducible refine Wp.ct_mk ?_)
  | (with_reducible refine Wp.next ?_)
  | (with_reducible refine Wp.asg ?_)
  | ((with_reducible refine' Wp.gname ?e ?_); (case e => (try dsimp only [List.set, L2.wipe, List.map_cons, List.map_nil]); (try exact rfl)))
  | (with_reducible refine Wp.gsub ?_)
  | (with_reducible refine Wp.ret ?_)
  | (with_reducible refine Wp.retN ?_)
  | (with_reducible refine Wp.drop ?_)
  | (with_reducible refine Wp.dput ?_)
  | (with_reducible refine Wp.ifs ?_)
  | ((with_reducible refine' Wp.var ?h ?_); (case h => exact rfl))
  | (with_reducible refine Wp.con ?_)
  | (with_reducible refine Wp.op ?_)
  | (with_reducible refine Wp.un ?_)
  | (with_reducible refine Wp.cb ?_)
  | (with_reducible refine Wp.anil ?_)
  | (with_reducible refine Wp.acons ?_)
  | (with_reducible refine Wp.call ?_)
  | (with_reducible refine Wp.test ?_)
  | (with_reducible refine Wp.tb_ ?_)
  | (with_reducible refine Wp.and_ ?_)
  | (with_reducible refine Wp.or_ ?_)
  | (with_reducible refine Wp.not_ ?_)
  | (with_reducible refine Wp.andV ?_)
  | (with_reducible refine Wp.orV ?_)
  | (with_reducible refine Wp.notV ?_)
  | (with_reducible refine Wp.rI0_ ?_)
  | (with_reducible refine Wp.rU_ ?_)
  | ((with_reducible refine Wp.rEq_ ?k ?_); (case k => exact rfl))
  | ((with_reducible refine Wp.rNe_ ?k ?_); (case k => exact rfl))
  | (with_reducible refine Wp.gcons ?_)
  | (with_reducible refine Wp.gnil ?_)
  | ((with_reducible refine' Wp.gtup ?h ?e ?_); (case h => walk_at "sq"); (case e => exact rfl))
  | (with_reducible refine Wp.sl ?_)
  | (with_reducible refine Wp.part ?_)
  | (with_reducible refine Wp.nopart ?_)
  | (with_reducible refine Wp.ifE ?_)
  | (with_reducible refine Wp.bm0 ?_)
  | (with_reducible refine Wp.bm ?_)
  | (with_reducible refine Wp.lcR1 ?_)
  | (with_reducible refine Wp.lcR2 ?_)
  | (with_reducible refine Wp.lcL ?_)
  | (with_reducible refine Wp.chain ?_)
  | (with_reducible refine Wp.lc2V ?_)
  | (with_reducible refine Wp.piL ?_)
  | (with_reducible refine Wp.yes ?_)
  | (with_reducible refine Wp.dinI ?_)
  | (with_reducible refine Wp.dninI ?_)
  | (with_reducible refine Wp.dget ?_)
  | ((with_reducible refine' ⟨?k, ?_⟩); (case k => show L2.wipe _ _ = L2.wipe _ _; exact rfl))
  | (with_reducible refine Wp.forR1 ?_)
  | (with_reducible refine Wp.forR2 ?_)
  | (with_reducible refine Wp.forL ?_)
  | (with_reducible refine Wp.forT ?_)
  | ((with_reducible refine' ⟨?k, ?_⟩); (case k => exact Wp.tyvL (by walk_at "hp")))
  | ((with_reducible refine' Wp.rev_ ?k ?_); (case k => walk_at "hp"))
  | ((with_reducible refine' Wp.isi ?k ?h ?_); (case k => walk_at "kind"); (case h => decide))
  | ((with_reducible refine' Wp.typ ?k ?_); (case k => walk_at "kind"))
  | (with_reducible refine Wp.slS ?k ?_; (case k => assumption))
  | (with_reducible refine iteT ?_)
  | (with_reducible refine iteF ?_)
  | (with_reducible refine Wz.par ?_)
  | (with_reducible refine Wz.forN ?_)
  | (with_reducible refine Wz.dcL ?_)
  | (with_reducible refine Wz.forZ ?_)
  | (with_reducible refine Wz.lcR3 ?_)
  | (with_reducible refine Wc.revL ?_)
  | (with_reducible refine Wd.nm ?_)
  | (with_reducible refine Wd.nget ?_)
  | ((with_reducible refine Wd.tnew ?_); intro p hp)
  | (with_reducible refine Wd.pikn ?_)
  | (with_reducible refine Wt.m1 ?_)
  | (with_reducible refine Wt.m0 ?_)
  | ((with_reducible refine' ⟨?k, ?_⟩); (case k => show ∃ a, _ = V.str a; exact ⟨_, rfl⟩))
  | (with_reducible refine Wt.js_cons ?_)
  | (with_reducible refine Wt.fmt_ ?_)
  | (with_reducible refine Wp.pcons ?_)
  | (with_reducible refine Wp.pnil ?_)
  | ((with_reducible refine' Wp.iteBnT ?h ?_); (case h => show isB _ _ = false; decide))
  | ((with_reducible refine' Wp.iteBnF ?h ?_); (case h => show isB _ _ = true; decide))
  | ((with_reducible refine' Wp.iteBt ?h ?_); (case h => show isB _ _ = true; decide))
  | ((with_reducible refine' Wp.iteBf ?h ?_); (case h => show isB _ _ = false; decide))
  | (with_reducible refine Wp.iteT' ?_)
  | (with_reducible refine Wp.iteF' ?_)
  | (with_reducible refine Wp.rNT_ ?_)
  | ((with_reducible refine Wp.lst ?_))
  | ((with_reducible refine Wp.tup ?_))
  | ((with_reducible refine' Wp.ixL ?h ?e ?_); (case h => walk_at "sq"); (case e => exact rfl))
  | ((with_reducible refine' Wp.ixT ?h ?e ?_); (case h => walk_at "sq"); (case e => exact rfl))
  | ((with_reducible refine' Wp.setL ?h ?e ?_); (case h => walk_at "hp"); (case e => exact rfl))
  | ((with_reducible refine Wp.rI_ ?k ?_); (case k => first | (show (0:Int) < _; omega) | (show CPow _ _; refine' ⟨?_, ?_, ?_⟩ <;> omega) | (show CDiv _ _; refine' ⟨?_, ?_⟩ <;> omega) | (show CMul _ _; refine' Or.inl ⟨?_, ?_⟩ <;> omega) | (show CMul _ _; refine' Or.inr ⟨?_, ?_⟩ <;> first | omega | decide) | (show CDivW _ _; refine' wide_div (b := 240) ?_ ?_ ?_ ?_ <;> first | omega | decide)))
  | ((with_reducible refine ⟨?k, ?_⟩); (case k => first | exact Nat.zero_le _ | (exact Nat.le_of_ble_eq_true rfl)); intro p hp)
  | ((with_reducible refine' ⟨_, _, rfl, .inl ?k, ?_⟩); (case k => walk_at "sq"))
  | ((with_reducible refine' ⟨_, _, rfl, .inr ?k, ?_⟩); (case k => walk_at "sq"))
  | (with_reducible refine ⟨_, rfl, ?_⟩)
  | (with_reducible refine ⟨_, _, rfl, rfl, ?_⟩)
  | (with_reducible refine ⟨_, _, rfl, ?_⟩))
local macro_rules | `(tactic| walk_at "wp") => `(tactic| repeat (walk_at "w1"))

theorem OpensN_len {R : List Pc} {n : Nat} {i : Int} {q : List W} (h : Wo.OpensN R n i q) : True := trivial
/-- each piece's list -/
theorem lists_at {S : List Addr} {H : Hp} {xs : List V} {R : List Pc} (h : Pieces S H xs R) : ∃ ls : List Addr, ls.length = R.length ∧ ∀ (i : Nat) (pc : Pc) (l : Addr), R[i]? = some pc → ls[i]? = some l → ∃ t vs, xs[i]? = some (.ref t) ∧ H t = some (.tup [.int pc.1, .ref l]) ∧ H l = some (.lst vs) ∧ Pile H vs pc.2 ∧ l ∉ S := by
  unfold Pieces at h
  induction h with
  | nil => exact ⟨[], rfl, fun i pc l h => by cases i <;> cases h⟩
  | @cons v p l1 l2 r t ih =>
    obtain ⟨ls, e, q⟩ := ih
    obtain ⟨tt, l, vs, rfl, h1, h2, h3, h4⟩ := r
    refine ⟨l :: ls, by rw [List.length_cons, List.length_cons, e], fun i pc l' hi hl => ?_⟩
    cases i with
    | zero =>
      cases hi
      cases hl
      exact ⟨tt, vs, rfl, h1, h2, h3, h4⟩
    | succ i => exact q i pc l' hi hl
theorem lists_new {S : List Addr} {H : Hp} {ys : List V} {Ps : List (List W)} (h : Lists [] H ys Ps) (n : ∀ a ∈ S, H a = none) : Lists S H ys Ps := Paired.mapP h fun v p hv => by
  obtain ⟨l, vs, e, h1, h2, _⟩ := hv
  exact ⟨l, vs, e, h1, h2, fun q => by rw [n l q] at h1; cases h1⟩
theorem ks_same {S : List Addr} {H0 H H' : Hp} (s : Same H0 H) (k : Ks S H H') (n : ∀ a ∈ S, H0 a = none) : Same H0 H' := k.toSame s n
def at7 : W := ("at", 7)
def addTo (b : Bool) (ws : List W) : List W := if b = true then ws ++ [at7] else ws
def ModAt (xs : List V) (R : List Pc) (ls : List Addr) (j : Nat) (H : Hp) : Prop := ∀ (i : Nat) (pc : Pc) (l : Addr), R[i]? = some pc → ls[i]? = some l → ∃ t vs, xs[i]? = some (.ref t) ∧ H t = some (.tup [.int pc.1, .ref l]) ∧ H l = some (.lst vs) ∧ Pile H vs (addTo (decide (i < j)) pc.2)
section
variable {P : Program} {w : World} {K : PySem.W.Frag} {mg : Str → Option Value} {base : Heap}
def spGood : Sp := fun vs H Q _ => ∃ (s : Nat) (a : Addr) (ys : List V) (Ps : List (List W)), vs = [.int s, .ref a] ∧ 2 ≤ s ∧ s ≤ 64 ∧ H a = some (.lst ys) ∧ Lists [] H ys Ps ∧ Wc.PsOk Ps ∧ Ps.length ≤ 61 ∧ ∀ H', Same H H' → Q (.bl true) H'
theorem ok_good (T : Txt P w K mg) : FnOk P w K mg base CX0 4 T.f_good T.fd_good ["size", "piles"] spGood := by
  have G_tight := ok_tight (base := base) T
  have G_form := ok_form (base := base) T
  have G_right := ok_right (base := base) T
  have G_open := ok_open (base := base) T
  refine T.F_good.ok sc_good (fun vs H Q E h => ?_) (fun cdv A outer s H vs Q E hr h => ?_)
  · obtain ⟨s, a, ys, Ps, rfl, _⟩ := h
    rfl
  · obtain ⟨sz, a, ys, Ps, rfl, s2, s64, ha, L0, ok, l61, q⟩ := h
    have ly := L0.len
    have l400 : ∀ p ∈ Ps, p.length ≤ 400 := fun p hp => (ok p hp).1
    have lens := Wi.tl_len (s := sz) l61 l400
    have big := small (n := 100000) (by decide)
    refine ⟨_, (pss_cons (ps_setLc (i := 2) (own := [("pile", 10)]) rfl sc_good.nd rfl rfl (sw_true rfl rfl rfl (by decide +kernel)) (pi_list (pv 1)) (blkOk_by (N := ["size", "piles", "handed", "found", "pieces", "tops", "k", "under", "worths", "copy", "pile"]) (sc := defScope s_good) (by decide +kernel)) (fun _ _ _ _ _ => pg_name (i := 10) sc_good.nd rfl (Or.inl rfl)) (fun _ _ _ _ _ => pts_nil) (fun _ _ _ _ _ => (pe_callTy (show CallR _ _ (Wp.rListS K) from Wp.call_listS) (by rfl) T.n_list (by decide +kernel) (pa_cons (pv 10) pa_nil))))
      (pss_cons (ps_set (i := 3) sc_good.nd rfl (.inl rfl) (pe_call G_tight (hr.mono (by decide)) (by rfl) T.g_tight T.F_tight.kp T.b_tight .nil pass0 (pa_cons (pv 0) (pa_cons (pv 2) pa_nil))))
      (pss_cons (ps_if (PW.pt (pw_or (pt_not (pt_val (pe_call G_form (hr.mono (by decide)) (by rfl) T.g_form T.F_form.kp T.b_form .nil pass0 (pa_cons (pv 3) pa_nil)))) (pw_or1 (pt_cmpR (op_neD hr.units) (pv 2) (pv 1) (nomark _))))) (pss_one (ps_ret pe_bl)) pss_nil)
      (pss_cons (ps_asg (pv 3) (pg_tup (by rfl) (pgs_cons (pg_name (i := 4) sc_good.nd rfl (.inl rfl)) (pgs_cons (pg_name (i := 5) sc_good.nd rfl (.inl rfl)) pgs_nil))))
      (pss_cons (ps_if (PW.pt (pw_or (pt_not (pt_val (pe_call G_right (hr.mono (by decide)) (by rfl) T.g_right T.F_right.kp T.b_right .nil pass0 (pa_cons (pv 0) (pa_cons (pv 4) (pa_cons (pv 5) pa_nil)))))) (pw_or1 (pt_cmpR op_ne (pe_callB call_len_seq (by rfl) T.n_len (by decide +kernel) (pa_cons (pv 5) pa_nil)) (pe_callB call_len_seq (by rfl) T.n_len (by decide +kernel) (pa_cons (pv 1) pa_nil)) (nomark _))))) (pss_one (ps_ret pe_bl)) pss_nil)
      (pss_cons (ps_for PassesOwn.never rfl (pi_range1 (by rfl) T.n_range (pa_cons (pe_callB call_len_seq (by rfl) T.n_len (by decide +kernel) (pa_cons (pv 1) pa_nil)) pa_nil)) (pg_name (i := 6) sc_good.nd rfl (.inl rfl)) (pss_one (ps_if (pt_cmpR (op_neD hr.units) (pe_call G_open (hr.mono (by decide)) (by rfl) T.g_open T.F_open.kp T.b_open .nil pass0 (pa_cons (pv 4) (pa_cons (pe_ix ix_list (pv 5) (pv 6) (fun _ _ => rfl)) pa_nil))) (pe_ix ix_list (pv 1) (pv 6) (fun _ _ => rfl)) (nomark _)) (pss_one (ps_ret pe_bl)) pss_nil)))
      (pss_cons (ps_set (i := 9) sc_good.nd rfl (.inl rfl) (pe_tup (pa_cons (pe_lc (own := [("under", 7), ("worths", 8)]) rfl sc_good.nd (pi_list (pv 4)) (blkOk_by (N := ["size", "piles", "handed", "found", "pieces", "tops", "k", "under", "worths", "copy", "pile"]) (sc := defScope s_good) (by decide +kernel)) (fun _ _ _ _ _ => (show PG _ _ (gTup K 2 _) from pg_tup (by rfl) (pgs_cons (pg_name (i := 7) sc_good.nd rfl (Or.inl rfl)) (pgs_cons (pg_name (i := 8) sc_good.nd rfl (Or.inl rfl)) pgs_nil)))) (fun _ _ _ _ _ => pts_nil) (fun _ _ _ _ _ => (pe_tup (pa_cons (pv 7) (pa_cons (pe_callTy (show CallR _ _ (Wp.rListS K) from Wp.call_listS) (by rfl) T.n_list (by decide +kernel) (pa_cons (pv 8) pa_nil)) pa_nil))))) (pa_cons (pe_callTy call_list_of (by rfl) T.n_list (by decide +kernel) (pa_cons (pv 5) pa_nil)) pa_nil))))
      (pss_cons (ps_for PassesOwn.never rfl (pi_list (pv 4)) (pg_tup (by rfl) (pgs_cons (pg_name (i := 7) sc_good.nd rfl (.inl rfl)) (pgs_cons (pg_name (i := 8) sc_good.nd rfl (.inl rfl)) pgs_nil))) (pss_one (ps_expr (pe_bm PySem.F.plainAttrs_list PySem.F.slot_list_append PySem.F.type_list_append mt_append (pv 8) (pa_cons (pe_tup (pa_cons pe_str (pa_cons pe_int pa_nil))) pa_nil)))))
      (pss_cons (ps_for PassesOwn.never rfl (pi_range1 (by rfl) T.n_range (pa_cons (pe_callB call_len_seq (by rfl) T.n_len (by decide +kernel) (pa_cons (pv 4) pa_nil)) pa_nil)) (pg_name (i := 6) sc_good.nd rfl (.inl rfl)) (pss_one (ps_if (pt_cmpR (op_neD hr.units) (pe_ix ix_tup (pe_ix ix_list (pv 4) (pv 6) (fun _ _ => rfl)) pe_int (fun _ _ => rfl)) (pe_op op_cat (pe_ix ix_tup (pe_ix ix_list (pe_ix ix_tup (pv 9) pe_int (fun _ _ => rfl)) (pv 6) (fun _ _ => rfl)) pe_int (fun _ _ => rfl)) (pe_lst (pa_cons (pe_tup (pa_cons pe_str (pa_cons pe_int pa_nil))) pa_nil))) (nomark _)) (pss_one (ps_ret pe_bl)) pss_nil)))
      (pss_cons (ps_expr (pe_bm PySem.F.plainAttrs_list PySem.F.slot_list_append PySem.F.type_list_append mt_append (pv 5) (pa_cons (pe_un un_neg pe_int) pa_nil)))
      (pss_one (ps_ret (pe_and (pe_cmpR op_eq (pe_callB call_len_seq (by rfl) T.n_len (by decide +kernel) (pa_cons (pv 4) pa_nil)) (pe_callB call_len_seq (by rfl) T.n_len (by decide +kernel) (pa_cons (pe_ix ix_tup (pv 9) pe_int (fun _ _ => rfl)) pa_nil)) (nomark _)) (pe_and (pe_cmpR (op_eqD hr.units) (pv 2) (pv 1) (nomark _)) (pe_one (pe_cmpR (op_eqD hr.units) (pe_call G_tight (hr.mono (by decide)) (by rfl) T.g_tight T.F_tight.kp T.b_tight .nil pass0 (pa_cons (pv 0) (pa_cons (pv 2) pa_nil))) (pv 9) (nomark _))))))))))))))))), ?_⟩
    rw [show L2.start ["size", "piles", "handed", "found", "pieces", "tops", "k", "under", "worths", "copy", "pile"] [.int sz, .ref a] = [some (.int sz), some (.ref a), none, none, none, none, none, none, none, none, none] from rfl]
    try dsimp only [cxOf]
    walk_at "wp"
    refine ⟨⟨ys, SqL.of ha⟩, fun hd hhd => ?_⟩
    refine loopCL (xs := ys) (fun k H' => Same H H' ∧ ∃ acc, H' hd = some (.lst acc) ∧ Lists [hd] H' acc (Ps.take k)) ⟨same_new hhd, [], upd_same, .nil⟩ (fun k H' _ h => SqL.of (h.1 _ _ ha)) ?_ ?_
    · rintro k x H1 hk ⟨s1, acc, hD1, LA⟩
      obtain ⟨pz, hpz, lx, vx, rfl, hlx, px, _⟩ := pair_at1 L0 hk
      walk_at "wp"
      have hlx1 := s1 _ _ hlx
      refine listS_ (SqL.of hlx1) fun nl hnl => ?_
      have tn := same_new (o := .lst vx) hnl
      have hDn : hd ≠ nl := ne_of_none hD1 hnl
      have kzs : k < ys.length := (List.getElem?_eq_some_iff.mp hk).1
      refine ⟨acc, tn _ _ hD1, ?_, ?_, _, upd_same, ?_⟩
      · rw [LA.len, List.length_take]; exact small (by omega)
      · intro c o hc
        rw [upd_ne (ne_of_none hc hhd)]
        exact tn _ _ (s1 _ _ hc)
      · have ku := Ks.upd (S := [hd]) (o := .lst (acc ++ [.ref nl])) (tn _ _ hD1) List.mem_cons_self
        have isl : IsLs [hd] (upd H1 nl (.lst vx)) (.ref nl) pz := ⟨nl, vx, rfl, upd_same, (px.keep (Same.tk s1)).keep (Same.tk tn), fun q => hDn (List.mem_singleton.mp q).symm⟩
        rw [List.take_add_one, hpz]
        exact pair_app ((LA.keep (Ks.same tn)).keep ku) (.cons (isl.keep ku) .nil)
    · rintro H1 ⟨s1, hs, hhd1, LA⟩
      rw [ly, List.take_length] at LA
      have LH := LA.less (S' := []) (by simp)
      walk_at "wp"
      refine ⟨sz, hd, hs, Ps, rfl, s2, s64, hhd1, LH, l61, l400, fun t p g xs H2 tn pn gn ht hp PS DI hg pg s12 => ?_⟩
      walk_at "wp"
      refine ⟨t, p, g, xs, _, _, rfl, ht, hp, PS.less (by simp), hg, fun H3 s3 => ?_⟩
      walk_at "wp"
      have s13 := s12.trans s3
      have s03 := s1.trans s13
      have dH := Wc.Lists.dp (K := K) (LH.keep (Ks.same s13)) (SqL.of (s13 _ _ hhd1))
      have dA := Wc.Lists.dp (K := K) (L0.keep (Ks.same s03)) (SqL.of (s03 _ _ ha))
      have sh := Wc.lDs_shaped ok
      refine neD dH dA sh (Wq.eq_self sh) ?_
      have ht3 := s3 _ _ ht
      walk_at "wp"
      refine ⟨p, g, xs, sz, Wy.tPap sz Ps, rfl, s3 _ _ hp, (PS.keep (Ks.same s3)).less (by simp), s3 _ _ hg, by omega, ?_, fun H4 s4 => ?_⟩
      · unfold Wy.tPap
        rw [List.length_map]
        omega
      rw [Wi.pap_right (by omega)]
      have s34 := s3.trans s4
      have hg4 := s34 _ _ hg
      have ha4 := (s03.trans s4) _ _ ha
      walk_at "wp"
      have lt : ((Wy.tPap sz Ps).2.map V.int).length = ys.length := by
        unfold Wy.tPap
        rw [List.length_map, List.length_map, ly]
      refine iteN (fun e => absurd (by rw [lt]) e) (fun _ => ?_)
      walk_at "wp"
      refine ⟨by omega, by omega, loopR (fun i σ H' => ∃ y, σ = [some (.int sz), some (.ref a), some (.ref hd), some (.ref t), some (.ref p), some (.ref g), y, none, none, none, none] ∧ Same H4 H') ⟨_, rfl, fun _ _ h => h⟩ ?_ ?_⟩
      · rintro i σ H5 hi ⟨y, rfl, s5⟩
        have hi2 : i < Ps.length := by omega
        obtain ⟨pl, hpl⟩ : ∃ pl, Ps[i]? = some pl := ⟨_, List.getElem?_eq_getElem hi2⟩
        obtain ⟨n, hn, op⟩ := Wi.opens_pile (s := sz) hpl
        have okp := ok pl (List.mem_of_getElem? hpl)
        have tp := Wi.tops_at (s := sz) hpl
        obtain ⟨x0, hx0, l0, v0, rfl, hl0, p0, _⟩ := pair_at L0 hpl
        have s25 := s34.trans s5
        have s05 := (s03.trans s4).trans s5
        rw [Int.zero_add]
        walk_at "wp"
        refine ixL (SqL.of (s5 _ _ hg4)) (atI_nat (by rw [List.getElem?_map, tp]; rfl)) ?_
        walk_at "wp"
        refine ⟨p, _, xs, _, n, pl, rfl, s25 _ _ hp, (PS.keep (Ks.same s25)).less (by simp), op, by omega, by omega, fun l us H6 hl hl6 pu s6 => ?_⟩
        walk_at "wp"
        refine ixL (SqL.of (s6 _ _ (s5 _ _ ha4))) (atI_nat hx0) ?_
        have s06 := s05.trans s6
        have d1 := pu.dp (K := K) (SqL.of hl6)
        have d2 := (p0.keep (Same.tk s06)).dp (K := K) (SqL.of (s06 _ _ hl0))
        have shp := wDs_shaped okp.2
        refine neD d1 d2 shp (Wq.eq_self shp) ?_
        walk_at "wp"
        exact s5.trans s6
      · rintro σ H5 ⟨y, rfl, s5⟩
        have s25 := s34.trans s5
        have hp5 := s25 _ _ hp
        have PS5 := PS.keep (Ks.same s25)
        walk_at "wp"
        obtain ⟨ls, lsl, lsa⟩ := lists_at PS
        have lsnew : ∀ (i : Nat) (l : Addr), ls[i]? = some l → H1 l = none := by
          intro i l hl
          have hi := (List.getElem?_eq_some_iff.mp hl).1
          obtain ⟨pc, hpc⟩ : ∃ pc, (Wy.tPap sz Ps).1[i]? = some pc := ⟨_, List.getElem?_eq_getElem (by omega)⟩
          obtain ⟨t', vs, h1, h2, _⟩ := lsa i pc l hpc hl
          exact DI.2 i t' l _ h1 h2
        have lsn : ∀ (i j : Nat) (l : Addr), ls[i]? = some l → ls[j]? = some l → i = j := by
          intro i j l hi hj
          refine Classical.byContradiction fun ne => ?_
          have hi' := (List.getElem?_eq_some_iff.mp hi).1
          have hj' := (List.getElem?_eq_some_iff.mp hj).1
          obtain ⟨pc, hpc⟩ : ∃ pc, (Wy.tPap sz Ps).1[i]? = some pc := ⟨_, List.getElem?_eq_getElem (by omega)⟩
          obtain ⟨pc', hpc'⟩ : ∃ pc, (Wy.tPap sz Ps).1[j]? = some pc := ⟨_, List.getElem?_eq_getElem (by omega)⟩
          obtain ⟨t1, vs1, a1, a2, _⟩ := lsa i pc l hpc hi
          obtain ⟨t2, vs2, b1, b2, _⟩ := lsa j pc' l hpc' hj
          exact DI.1 i j t1 t2 l l _ _ ne a1 b1 a2 b2 rfl
        have lsin : ∀ l ∈ ls, H1 l = none ∧ ∃ o, H2 l = some o := by
          intro l hl
          obtain ⟨i, hi⟩ := List.mem_iff_getElem?.mp hl
          refine ⟨lsnew i l hi, ?_⟩
          have hi' := (List.getElem?_eq_some_iff.mp hi).1
          obtain ⟨pc, hpc⟩ : ∃ pc, (Wy.tPap sz Ps).1[i]? = some pc := ⟨_, List.getElem?_eq_getElem (by omega)⟩
          obtain ⟨_, vs, _, _, h3, _⟩ := lsa i pc l hpc hi
          exact ⟨_, h3⟩
        have fresh2 : ∀ {b : Addr} {HH : Hp}, Same H2 HH → HH b = none → b ∉ ls := fun {b HH} s h m => by
          obtain ⟨o, ho⟩ := (lsin b m).2
          rw [s _ _ ho] at h
          cases h
        refine ⟨⟨xs, SqL.of hp5⟩, fun D hD => ?_⟩
        have Dls : D ∉ ls := fresh2 s25 hD
        refine loopCL (xs := xs) (fun j H' => Same H5 H' ∧ ∃ acc, H' D = some (.lst acc) ∧ Pieces (D :: g :: ls) H' acc ((Wy.tPap sz Ps).1.take j)) ⟨same_new hD, [], upd_same, .nil⟩ (fun j H' _ h => SqL.of (h.1 _ _ hp5)) ?_ ?_
        · rintro j x H6 hx ⟨s6, acc, hD6, LA⟩
          obtain ⟨pc, hpc, tt, l, vs, rfl, h1, h2, h3, _⟩ := pair_at1 PS5 hx
          have h16 := s6 _ _ h1
          have h26 := s6 _ _ h2
          walk_at "wp"
          refine listS_ (SqL.of h26) fun nl hnl => ?_
          have sn := same_new (o := .lst vs) hnl
          walk_at "wp"
          rename_i tc htc
          have stc := same_new (o := .tup [.int pc.1, .ref nl]) htc
          have ss := sn.trans stc
          have hDn : D ≠ nl := ne_of_none hD6 hnl
          have nls : nl ∉ ls := fresh2 (s25.trans s6) hnl
          have jl : j < (Wy.tPap sz Ps).1.length := (List.getElem?_eq_some_iff.mp hpc).1
          refine ⟨acc, ss _ _ hD6, ?_, ?_, _, upd_same, ?_⟩
          · rw [LA.len, List.length_take]; exact small (by omega)
          · intro c o hc
            rw [upd_ne (ne_of_none hc hD)]
            exact ss _ _ (s6 _ _ hc)
          · have nlg : nl ≠ g := (ne_of_none (s6 _ _ (s5 _ _ hg4)) hnl).symm
            have ku := Ks.upd (S := D :: g :: ls) (o := .lst (acc ++ [.ref tc])) (ss _ _ hD6) List.mem_cons_self
            have isp : IsPc (D :: g :: ls) (upd (upd H6 nl (.lst vs)) tc (.tup [.int pc.1, .ref nl])) (.ref tc) pc := ⟨tc, nl, vs, rfl, upd_same, stc _ _ upd_same, (h3.keep (Same.tk s6)).keep (Same.tk ss), fun q => (List.mem_cons.mp q).elim (fun e => hDn e.symm) fun q => (List.mem_cons.mp q).elim nlg nls⟩
            rw [List.take_add_one, hpc]
            exact pair_app ((LA.keep (Ks.same ss)).keep ku) (.cons (isp.keep ku) .nil)
        · rintro H6 ⟨s6, acc, hD6, LA⟩
          rw [PS5.len, List.take_length] at LA
          have lacc := LA.len
          have hg6 := s6 _ _ (s5 _ _ hg4)
          walk_at "wp"
          intro cq hcq
          have sq1 := same_new (o := .lst ((Wy.tPap sz Ps).2.map V.int)) hcq
          walk_at "wp"
          rename_i c hc
          have sc := same_new (o := .tup [.ref D, .ref cq]) hc
          have s67 := sq1.trans sc
          have cqls : cq ∉ ls := fresh2 (s25.trans s6) hcq
          have s27 := (s25.trans s6).trans s67
          have cpap : IsPap ls (upd (upd H6 cq (.lst ((Wy.tPap sz Ps).2.map V.int))) c (.tup [.ref D, .ref cq])) (.ref c) (Wy.tPap sz Ps) :=
            ⟨c, D, cq, acc, rfl, upd_same, s67 _ _ hD6, (LA.less (fun x hx => List.mem_cons_of_mem _ (List.mem_cons_of_mem _ hx))).keep (Ks.same s67), sc _ _ upd_same, Dls, cqls⟩
          have hcc : upd (upd H6 cq (.lst ((Wy.tPap sz Ps).2.map V.int))) c (.tup [.ref D, .ref cq]) c = some (.tup [.ref D, .ref cq]) := upd_same
          have hDc := s67 _ _ hD6
          have LA7 := (LA.less (S' := g :: ls) (fun x hx => List.mem_cons_of_mem _ hx)).keep (Ks.same s67)
          generalize upd (upd H6 cq (.lst ((Wy.tPap sz Ps).2.map V.int))) c (.tup [.ref D, .ref cq]) = H7 at s27 cpap hcc hDc LA7
          have hp7 := s27 _ _ hp
          have hg7 := s27 _ _ hg
          have pls : p ∉ ls := fun m => by
            obtain ⟨i, hi⟩ := List.mem_iff_getElem?.mp m
            have hi' := (List.getElem?_eq_some_iff.mp hi).1
            obtain ⟨pc, hpc⟩ : ∃ pc, (Wy.tPap sz Ps).1[i]? = some pc := ⟨_, List.getElem?_eq_getElem (by omega)⟩
            obtain ⟨_, _, _, _, _, _, n⟩ := lsa i pc p hpc hi
            exact n (by simp)
          have gls : g ∉ ls := fun m => by
            obtain ⟨i, hi⟩ := List.mem_iff_getElem?.mp m
            have hi' := (List.getElem?_eq_some_iff.mp hi).1
            obtain ⟨pc, hpc⟩ : ∃ pc, (Wy.tPap sz Ps).1[i]? = some pc := ⟨_, List.getElem?_eq_getElem (by omega)⟩
            obtain ⟨_, _, _, _, _, _, n⟩ := lsa i pc g hpc hi
            exact n (by simp)
          walk_at "wp"
          refine ⟨⟨xs, SqL.of hp7⟩, loopL (xs := xs) (fun j σ H' => ∃ y6 y7 y8, σ = [some (.int sz), some (.ref a), some (.ref hd), some (.ref t), some (.ref p), some (.ref g), y6, y7, y8, some (.ref c), none] ∧ Ks ls H7 H' ∧ ModAt xs (Wy.tPap sz Ps).1 ls j H') ⟨_, _, _, rfl, Ks.refl, ?_⟩ (fun j σ H' _ h => by obtain ⟨_, _, _, _, k, _⟩ := h; exact SqL.of (k.keep _ _ pls hp7)) ?_ ?_⟩
          · intro i pc l hi hl
            obtain ⟨t', vs, h1, h2, h3, h4, _⟩ := lsa i pc l hi hl
            exact ⟨t', vs, h1, s27 _ _ h2, s27 _ _ h3, h4.keep (Same.tk s27)⟩
          · rintro j x σ H8 hx ⟨y6, y7, y8, rfl, k8, md⟩
            obtain ⟨pc, hpc, _⟩ := pair_at1 PS5 hx
            have hj := (List.getElem?_eq_some_iff.mp hpc).1
            obtain ⟨l, hl⟩ : ∃ l, ls[j]? = some l := ⟨_, List.getElem?_eq_getElem (by omega)⟩
            obtain ⟨t', vs, h1, h2, h3, h4⟩ := md j pc l hpc hl
            rw [hx] at h1
            cases h1
            rw [decide_eq_false (by omega)] at h4
            have h4 : Pile H8 vs pc.2 := h4
            have lvs : vs.length < sizeLine := by
              have hw : pc.2.length ≤ 64 := by
                obtain ⟨q, hq, rfl⟩ := List.mem_map.mp (List.mem_of_getElem? hpc)
                obtain ⟨r, e1, e2, h5, h6⟩ := Wg.low_pre ((Wi.tok (s := sz) (Ps := Ps)).ic q hq)
                have h7 := h6 (by omega)
                have e3 : (Wg.pieceOf (Wy.stT Ps) sz (Wy.tL sz Ps) q).2 = r := e2
                rw [e3]
                omega
              rw [h4.len]
              exact small (by omega)
            walk_at "wp"
            rename_i tt htt
            have stt := same_new (o := .tup [.str "at", .int 7]) htt
            refine app_ (stt _ _ h3) lvs ?_
            have tl : t' ≠ l := ne_of h2 h3 (by intro q; cases q)
            have ku : Ks ls (upd H8 tt (.tup [.str "at", .int 7])) (upd (upd H8 tt (.tup [.str "at", .int 7])) l (.lst (vs ++ [.ref tt]))) := Ks.upd (stt _ _ h3) (List.mem_of_getElem? hl)
            have k89 := (Ks.same (S := ls) stt).trans ku
            have iw : IsW (upd H8 tt (.tup [.str "at", .int 7])) (.ref tt) at7 := ⟨tt, rfl, upd_same⟩
            walk_at "wp"
            refine ⟨_, _, _, rfl, k8.trans k89, fun i pc' l' hi hl' => ?_⟩
            obtain ⟨t1, vs1, g1, g2, g3, g4⟩ := md i pc' l' hi hl'
            by_cases e : i = j
            · subst e
              have e1 : pc' = pc := Option.some.inj (hi.symm.trans hpc)
              have e2 : l' = l := Option.some.inj (hl'.symm.trans hl)
              subst e1 e2
              rw [hx] at g1
              cases g1
              refine ⟨t', _, hx, k89.tk _ _ h2, upd_same, ?_⟩
              rw [decide_eq_true (by omega)]
              exact ((h4.keep (Same.tk stt)).app (Pile.one iw)).keep ku.tk
            · have nl : l' ≠ l := fun q => e (lsn i j l (q ▸ hl') hl)
              refine ⟨t1, vs1, g1, k89.tk _ _ g2, by rw [upd_ne nl]; exact stt _ _ g3, ?_⟩
              rw [show decide (i < j + 1) = decide (i < j) from decide_eq_decide.mpr (by omega)]
              exact g4.keep k89.tk
          · rintro σ H8 ⟨y6, y7, y8, rfl, k8, md⟩
            have hp8 := k8.keep _ _ pls hp7
            have cls : c ∉ ls := fun m => by
              obtain ⟨o, ho⟩ := (lsin c m).2
              have := s27 _ _ ho
              obtain ⟨i, hi⟩ := List.mem_iff_getElem?.mp m
              have hi' := (List.getElem?_eq_some_iff.mp hi).1
              obtain ⟨pc, hpc⟩ : ∃ pc, (Wy.tPap sz Ps).1[i]? = some pc := ⟨_, List.getElem?_eq_getElem (by omega)⟩
              obtain ⟨_, _, _, _, h3, _⟩ := lsa i pc c hpc hi
              rw [s27 _ _ h3] at hcc
              cases hcc
            have hc8 := k8.tk _ _ hcc
            have hD8 := k8.keep _ _ Dls hDc
            have LA8 := LA7.keep (k8.mono (fun x hx => List.mem_cons_of_mem _ hx))
            have lx : xs.length = (Wy.tPap sz Ps).1.length := PS5.len
            walk_at "wp"
            refine ⟨by omega, by omega, loopR (fun i σ H' => ∃ y6 y7 y8, σ = [some (.int sz), some (.ref a), some (.ref hd), some (.ref t), some (.ref p), some (.ref g), y6, y7, y8, some (.ref c), none] ∧ Same H8 H') ⟨_, _, _, rfl, fun _ _ h => h⟩ ?_ ?_⟩
            · rintro i σ H9 hi ⟨y6, y7, y8, rfl, s9⟩
              have hi2 : i < (Wy.tPap sz Ps).1.length := by omega
              obtain ⟨pc, hpc⟩ : ∃ pc, (Wy.tPap sz Ps).1[i]? = some pc := ⟨_, List.getElem?_eq_getElem hi2⟩
              obtain ⟨l, hl⟩ : ∃ l, ls[i]? = some l := ⟨_, List.getElem?_eq_getElem (by omega)⟩
              obtain ⟨t', vs, h1, h2, h3, h4⟩ := md i pc l hpc hl
              rw [decide_eq_true (by omega)] at h4
              have h4 : Pile H8 vs (pc.2 ++ [at7]) := h4
              obtain ⟨xc, hxc, tc, lc, vc, rfl, c1, c2, c3, _⟩ := pair_at LA8 hpc
              have wok : ∀ z ∈ pc.2, Wok z := Wi.piece_ok (fun q hq => (ok q hq).2) pc (List.mem_of_getElem? hpc)
              have wok7 : ∀ z ∈ pc.2 ++ [at7], Wok z := fun z hz => (List.mem_append.mp hz).elim (wok z) fun h => by
                rw [List.mem_singleton.mp h]
                show PyData.strOk ("at" : Str) = true
                decide +kernel
              have hw : pc.2.length ≤ 64 := by
                obtain ⟨q, hq, rfl⟩ := List.mem_map.mp (List.mem_of_getElem? hpc)
                obtain ⟨r, e1, e2, h5, h6⟩ := Wg.low_pre ((Wi.tok (s := sz) (Ps := Ps)).ic q hq)
                have h7 := h6 (by omega)
                have e3 : (Wg.pieceOf (Wy.stT Ps) sz (Wy.tL sz Ps) q).2 = r := e2
                rw [e3]
                omega
              have hp9 := s9 _ _ hp8
              have hc9 := s9 _ _ hc8
              have hD9 := s9 _ _ hD8
              have h29 := s9 _ _ h2
              have c19 := s9 _ _ c1
              rw [Int.zero_add]
              walk_at "wp"
              refine ixL (SqL.of hp9) (atI_nat h1) ?_
              walk_at "wp"
              refine ixL (SqL.of hD9) (atI_nat hxc) ?_
              walk_at "wp"
              rename_i t7 ht7 l7 hl7
              have s1' := same_new (o := .tup [.str "at", .int 7]) ht7
              have s2' := same_new (o := .lst [.ref t7]) hl7
              have ss := s1'.trans s2'
              have lv : vc.length = pc.2.length := c3.len
              refine cat_ (ss _ _ (s9 _ _ c2)) upd_same (by rw [lv]; show _ + 1 ≤ _; omega) fun l8 hl8 => ?_
              have s3' := same_new (o := .lst (vc ++ [.ref t7])) hl8
              have s93 := s9.trans (ss.trans s3')
              have iw : IsW (upd (upd (upd H9 t7 (.tup [.str "at", .int 7])) l7 (.lst [.ref t7])) l8 (.lst (vc ++ [.ref t7]))) (.ref t7) at7 := ⟨t7, rfl, s3' _ _ (s2' _ _ upd_same)⟩
              have d1 := (h4.keep (Same.tk s93)).dp (K := K) (SqL.of (s93 _ _ h3))
              have d2 := ((c3.keep (Same.tk s93)).app (Pile.one iw)).dp (K := K) (SqL.of upd_same)
              have shp := wDs_shaped wok7
              refine neD d1 d2 shp (Wq.eq_self shp) ?_
              walk_at "wp"
              exact ⟨_, _, _, rfl, s93⟩
            · rintro σ H9 ⟨y6, y7, y8, rfl, s9⟩
              have k79 : Ks ls H7 H9 := k8.trans (Ks.same s9)
              have hg9 := k79.keep _ _ gls hg7
              have hp9 := s9 _ _ hp8
              have lg : ((Wy.tPap sz Ps).2.map V.int).length < sizeLine := by
                unfold Wy.tPap
                rw [List.length_map, List.length_map]
                exact small (by omega)
              walk_at "wp"
              refine app_ hg9 lg ?_
              have kg : Ks (g :: ls) H9 (upd H9 g (.lst ((Wy.tPap sz Ps).2.map V.int ++ [.int (-1)]))) := Ks.upd hg9 List.mem_cons_self
              have kall : Ks (g :: ls) H7 (upd H9 g (.lst ((Wy.tPap sz Ps).2.map V.int ++ [.int (-1)]))) := (k79.mono (fun x hx => List.mem_cons_of_mem _ hx)).trans kg
              have newS : ∀ x ∈ g :: ls, H1 x = none := fun x hx => (List.mem_cons.mp hx).elim (fun e => by rw [e]; exact gn) fun m => (lsin x m).1
              have s17 : Same H1 H7 := s12.trans s27
              have s1A : Same H1 (upd H9 g (.lst ((Wy.tPap sz Ps).2.map V.int ++ [.int (-1)]))) := kall.toSame s17 newS
              have pgS : p ∉ g :: ls := fun m => (List.mem_cons.mp m).elim pg pls
              have DgS : D ∉ g :: ls := fun m => (List.mem_cons.mp m).elim (fun e => by
                have := s25 _ _ hg
                rw [← e, hD] at this
                cases this) Dls
              have hpA := kall.keep _ _ pgS hp7
              have hcA := kall.tk _ _ hcc
              have hDA := kall.keep _ _ DgS hDc
              have cpapA : IsPap [] (upd H9 g (.lst ((Wy.tPap sz Ps).2.map V.int ++ [.int (-1)]))) (.ref c) (Wy.tPap sz Ps) := by
                obtain ⟨c', p', q', xs', e1, e2, e3, e4, e5, e6, e7⟩ := cpap
                cases e1
                rw [hcc] at e2
                cases e2
                rw [hDc] at e3
                cases e3
                have qg : cq ≠ g := fun e => by
                  have := s6 _ _ (s5 _ _ hg4)
                  rw [← e, hcq] at this
                  cases this
                exact ⟨c, D, cq, acc, rfl, hcA, hDA, (LA7.keep kall).less (by simp), kall.keep _ _ (fun m => (List.mem_cons.mp m).elim qg e7) e5, by simp, by simp⟩
              generalize upd H9 g (.lst ((Wy.tPap sz Ps).2.map V.int ++ [.int (-1)])) = HA at kall s1A hpA hcA hDA cpapA
              have s0A := s1.trans s1A
              walk_at "wp"
              refine ite_ (fun _ => ?_) (fun c => absurd (by rw [lx, lacc]) c)
              have dHA := Wc.Lists.dp (K := K) (LH.keep (Ks.same s1A)) (SqL.of (s1A _ _ hhd1))
              have dAA := Wc.Lists.dp (K := K) (L0.keep (Ks.same s0A)) (SqL.of (s0A _ _ ha))
              walk_at "wp"
              refine eqD dHA dAA sh (Wq.eq_self sh) ?_
              walk_at "wp"
              refine ⟨sz, hd, hs, Ps, rfl, s2, s64, s1A _ _ hhd1, LH.keep (Ks.same s1A), l61, l400, fun t2 p2 g2 xs2 HB tn2 pn2 gn2 ht2 hp2 PS2 DI2 hg2 pg2 sB => ?_⟩
              walk_at "wp"
              have pap2 : IsPap [] HB (.ref t2) (Wy.tPap sz Ps) := ⟨t2, p2, g2, xs2, rfl, ht2, hp2, PS2.less (by simp), hg2, by simp, by simp⟩
              have papc := cpapA.keep (Ks.same sB)
              have shp := papD_shaped (P := Wy.tPap sz Ps) (Wi.piece_ok (fun q hq => (ok q hq).2))
              exact eqD pap2.dp papc.dp shp (Wq.eq_self shp) (q _ (s0A.trans sB))
end
end K10

namespace K10
open PySem PySem.Spec PyProof.Rows L2 Wp Wq Wr Wb
local macro_rules | `(tactic| walk_at "ne") => `(tactic| first
  | assumption
  | (refine Ne.symm ?_; assumption)
  | exact ne_of_none (by assumption) (by assumption)
  | exact (ne_of_none (by assumption) (by assumption)).symm
  | exact ne_of (by assumption) (by assumption) (by intro q; cases q))
local macro_rules | `(tactic| walk_at "hp") => `(tactic| first
  | assumption
  | exact upd_same
  | (refine (upd_ne ?_).trans ?_; (walk_at "ne"); (walk_at "hp")))
local macro_rules | `(tactic| walk_at "sq") => `(tactic| first
  | assumption
  | exact SqL.of (by walk_at "hp")
  | exact SqT.of (by walk_at "hp"))
local macro_rules | `(tactic| walk_at "kind") => `(tactic| first
  | assumption
  | exact Kind.int _
  | exact Kind.str _
  | exact Kind.bl _
  | exact Kind.non
  | exact Kind.tup (by walk_at "hp")
  | exact Kind.lst (by walk_at "hp")
  | exact Kind.dK (by walk_at "hp"))
local macro_rules | `(tactic| walk_at "w1") => `(tactic| first
  | (with_reducible refine Wp.seq ?_)
  | (with_reducible refine Wp.nx_mk ?_)
  | (with_reducible refine Wp.rt_mk ?_)
  | (with_reducible refine Wp.bk_mk ?_)
  | (with_reducible refine Wp.ct_mk ?_)
  | (with_reducible refine Wp.next ?_)
  | (with_reducible refine Wp.asg ?_)
  | ((with_reducible refine' Wp.gname ?e ?_); (case e => (try dsimp only [List.set, L2.wipe, List.map_cons, List.map_nil]); (try exact rfl)))
  | (with_reducible refine Wp.gsub ?_)
  | (with_reducible refine Wp.ret ?_)
  | (with_reducible refine Wp.retN ?_)
  | (with_reducible refine Wp.drop ?_)
  | (with_reducible refine Wp.dput ?_)
  | (with_reducible refine Wp.ifs ?_)
  | ((with_reducible refine' Wp.var ?h ?_); (case h => exact rfl))
  | (with_reducible refine Wp.con ?_)
  | (with_reducible refine Wp.op ?_)
  | (with_reducible refine Wp.un ?_)
  | (with_reducible refine Wp.cb ?_)
  | (with_reducible refine Wp.anil ?_)
  | (with_reducible refine Wp.acons ?_)
  | (with_reducible refine Wp.call ?_)
  | (with_reducible refine Wp.test ?_)
  | (with_reducible refine Wp.tb_ ?_)
  | (with_reducible refine Wp.and_ ?_)
  | (with_reducible refine Wp.or_ ?_)
  | (with_reducible refine Wp.not_ ?_)
  | (with_reducible refine Wp.andV ?_)
  | (with_reducible refine Wp.orV ?_)
  | (with_reducible refine Wp.notV ?_)
  | (with_reducible refine Wp.rI0_ ?_)
  | (with_reducible refine Wp.rU_ ?_)
  | ((with_reducible refine Wp.rEq_ ?k ?_); (case k => exact rfl))
  | ((with_reducible refine Wp.rNe_ ?k ?_); (case k => exact rfl))
  | (with_reducible refine Wp.gcons ?_)
  | (with_reducible refine Wp.gnil ?_)
  | ((with_reducible refine' Wp.gtup ?h ?e ?_); (case h => walk_at "sq"); (case e => exact rfl))
  | (with_reducible refine Wp.sl ?_)
  | (with_reducible refine Wp.part ?_)
  | (with_reducible refine Wp.nopart ?_)
  | (with_reducible refine Wp.ifE ?_)
  | (with_reducible refine Wp.bm0 ?_)
  | (with_reducible refine Wp.bm ?_)
  | (with_reducible refine Wp.lcR1 ?_)
  | (with_reducible refine Wp.lcR2 ?_)
  | (with_reducible refine Wp.lcL ?_)
  | (with_reducible refine Wp.chain ?_)
  | (with_reducible refine Wp.lc2V ?_)
  | (with_reducible refine Wp.piL ?_)
  | (with_reducible refine Wp.yes ?_)
  | (with_reducible refine Wp.dinI ?_)
  | (with_reducible refine Wp.dninI ?_)
  | (with_reducible refine Wp.dget ?_)
  | ((with_reducible refine' ⟨?k, ?_⟩); (case k => show L2.wipe _ _ = L2.wipe _ _; exact rfl))
  | (with_reducible refine Wp.forR1 ?_)
  | (with_reducible refine Wp.forR2 ?_)
  | (with_reducible refine Wp.forL ?_)
  | (with_reducible refine Wp.forT ?_)
  | ((with_reducible refine' ⟨?k, ?_⟩); (case k => exact Wp.tyvL (by walk_at "hp")))
  | ((with_reducible refine' Wp.rev_ ?k ?_); (case k => walk_at "hp"))
  | ((with_reducible refine' Wp.isi ?k ?h ?_); (case k => walk_at "kind"); (case h => decide))
  | ((with_reducible refine' Wp.typ ?k ?_); (case k => walk_at "kind"))
  | (with_reducible refine Wp.slS ?k ?_; (case k => assumption))
  | (with_reducible refine iteT ?_)
  | (with_reducible refine iteF ?_)
  | (with_reducible refine Wz.par ?_)
  | (with_reducible refine Wz.forN ?_)
  | (with_reducible refine Wz.dcL ?_)
  | (with_reducible refine Wz.forZ ?_)
  | (with_reducible refine Wz.lcR3 ?_)
  | (with_reducible refine Wc.revL ?_)
  | (with_reducible refine Wd.nm ?_)
  | (with_reducible refine Wd.nget ?_)
  | ((with_reducible refine Wd.tnew ?_); intro p hp)
  | (with_reducible refine Wd.pikn ?_)
  | (with_reducible refine Wt.m1 ?_)
  | (with_reducible refine Wt.m0 ?_)
  | ((with_reducible refine' ⟨?k, ?_⟩); (case k => show ∃ a, _ = V.str a; exact ⟨_, rfl⟩))
  | (with_reducible refine Wt.js_cons ?_)
  | (with_reducible refine Wt.fmt_ ?_)
  | (with_reducible refine Wp.pcons ?_)
  | (with_reducible refine Wp.pnil ?_)
  | ((with_reducible refine' Wp.iteBnT ?h ?_); (case h => show isB _ _ = false; decide))
  | ((with_reducible refine' Wp.iteBnF ?h ?_); (case h => show isB _ _ = true; decide))
  | ((with_reducible refine' Wp.iteBt ?h ?_); (case h => show isB _ _ = true; decide))
  | ((with_reducible refine' Wp.iteBf ?h ?_); (case h => show isB _ _ = false; decide))
  | (with_reducible refine Wp.iteT' ?_)
  | (with_reducible refine Wp.iteF' ?_)
  | (with_reducible refine Wp.rNT_ ?_)
  | ((with_reducible refine Wp.lst ?_))
  | ((with_reducible refine Wp.tup ?_))
  | ((with_reducible refine' Wp.ixL ?h ?e ?_); (case h => walk_at "sq"); (case e => exact rfl))
  | ((with_reducible refine' Wp.ixT ?h ?e ?_); (case h => walk_at "sq"); (case e => exact rfl))
  | ((with_reducible refine' Wp.setL ?h ?e ?_); (case h => walk_at "hp"); (case e => exact rfl))
  | ((with_reducible refine Wp.rI_ ?k ?_); (case k => first | (show (0:Int) < _; omega) | (show CPow _ _; refine' ⟨?_, ?_, ?_⟩ <;> omega) | (show CDiv _ _; refine' ⟨?_, ?_⟩ <;> omega) | (show CMul _ _; refine' Or.inl ⟨?_, ?_⟩ <;> omega) | (show CMul _ _; refine' Or.inr ⟨?_, ?_⟩ <;> first | omega | decide) | (show CDivW _ _; refine' wide_div (b := 240) ?_ ?_ ?_ ?_ <;> first | omega | decide)))
  | ((with_reducible refine ⟨?k, ?_⟩); (case k => first | exact Nat.zero_le _ | (exact Nat.le_of_ble_eq_true rfl)); intro p hp)
  | ((with_reducible refine' ⟨_, _, rfl, .inl ?k, ?_⟩); (case k => walk_at "sq"))
  | ((with_reducible refine' ⟨_, _, rfl, .inr ?k, ?_⟩); (case k => walk_at "sq"))
  | (with_reducible refine ⟨_, rfl, ?_⟩)
  | (with_reducible refine ⟨_, _, rfl, rfl, ?_⟩)
  | (with_reducible refine ⟨_, _, rfl, ?_⟩))
local macro_rules | `(tactic| walk_at "wp") => `(tactic| repeat (walk_at "w1"))

section
variable {P : Program} {w : World} {K : PySem.W.Frag} {mg : Str → Option Value} {base : Heap}
def spLaw (K : PySem.W.Frag) : Sp := fun vs H Q _ => ∃ (a : Addr) (ns : List Int), vs = [.ref a] ∧ SqL K H a (ns.map V.int) ∧ ns.length ≤ 63 ∧ ∀ H', Q (.bl true) H'
theorem ok_law (T : Txt P w K mg) : FnOk P w K mg base CX0 5 T.f_law T.fd_law ["script"] (spLaw K) := by
  have G_cell_at := ok_cell_at (base := base) T
  have G_bag := ok_bag (base := base) T
  have G_size := ok_size (base := base) T
  have G_piles := ok_piles (base := base) T
  have G_good := ok_good (base := base) T
  refine T.F_law.ok sc_law (fun vs H Q E h => ?_) (fun cdv A outer s H vs Q E hr h => ?_)
  · obtain ⟨a, ns, rfl, _⟩ := h
    rfl
  · obtain ⟨a, ns, rfl, hS, hl, q⟩ := h
    refine ⟨_, (pss_cons (ps_if (pt_not (pt_val (pe_call G_good (hr.mono (by decide)) (by rfl) T.g_good T.F_good.kp T.b_good .nil pass0 (pa_cons pe_int (pa_cons (pe_lst pa_nil) pa_nil))))) (pss_one (ps_ret pe_bl)) pss_nil)
      (pss_cons (ps_for PassesOwn.never rfl (pi_range1 (by rfl) T.n_range (pa_cons (pe_callB (call_max2 rfl) (by rfl) T.n_max (by decide +kernel) (pa_cons pe_int (pa_cons (pe_callB (call_min2 rfl) (by rfl) T.n_min (by decide +kernel) (pa_cons pe_int (pa_cons (pe_callB call_len_seq (by rfl) T.n_len (by decide +kernel) (pa_cons (pv 0) pa_nil)) pa_nil))) pa_nil))) pa_nil)) (pg_name (i := 1) sc_law.nd rfl (.inl rfl)) (pss_cons (ps_set (i := 2) sc_law.nd rfl (.inl rfl) (pe_call G_bag (hr.mono (by decide)) (by rfl) T.g_bag T.F_bag.kp T.b_bag .nil pass0 (pa_cons (pe_call G_cell_at (hr.mono (by decide)) (by rfl) T.g_cell_at T.F_cell_at.kp T.b_cell_at .nil pass0 (pa_cons (pv 0) (pa_cons (pv 1) pa_nil))) (pa_cons (pv 1) pa_nil))))
      (pss_cons (ps_set (i := 3) sc_law.nd rfl (.inl rfl) (pe_call G_size (hr.mono (by decide)) (by rfl) T.g_size T.F_size.kp T.b_size .nil pass0 (pa_cons (pv 2) pa_nil)))
      (pss_one (ps_if (pt_not (pt_val (pe_call G_good (hr.mono (by decide)) (by rfl) T.g_good T.F_good.kp T.b_good .nil pass0 (pa_cons (pv 3) (pa_cons (pe_call G_piles (hr.mono (by decide)) (by rfl) T.g_piles T.F_piles.kp T.b_piles .nil pass0 (pa_cons (pv 2) pa_nil)) pa_nil))))) (pss_one (ps_ret pe_bl)) pss_nil)))))
      (pss_one (ps_ret pe_bl)))), ?_⟩
    rw [show L2.start ["script", "k", "bag", "size"] [.ref a] = [some (.ref a), none, none, none] from rfl]
    try dsimp only [cxOf]
    walk_at "wp"
    rename_i e0 he0
    have s0 := same_new (o := .lst []) he0
    refine ⟨2, e0, [], [], rfl, by decide, by decide, upd_same, .nil, (fun _ h => nomatch h), by decide, fun H1 s1 => ?_⟩
    have ss1 := s0.trans s1
    have hS1 := ss1.seq hS
    walk_at "wp"
    generalize hN : (if (if ((ns.map V.int).length : Int) < 4 then ((ns.map V.int).length : Int) else 4) > 1 then (if ((ns.map V.int).length : Int) < 4 then ((ns.map V.int).length : Int) else 4) else 1) = N
    have hN1 : N ≤ 4 := by
      rw [← hN]
      split <;> (try split) <;> omega
    have hN0 : 0 ≤ N := by
      rw [← hN]
      split <;> (try split) <;> omega
    refine ⟨by omega, by omega, loopR (fun i σ H' => ∃ y1 y2 y3, σ = [some (.ref a), y1, y2, y3] ∧ Same H1 H') ⟨_, _, _, rfl, fun _ _ h => h⟩ ?_ ?_⟩
    · rintro i σ H2 hi ⟨y1, y2, y3, rfl, s2⟩
      rw [Int.zero_add]
      walk_at "wp"
      refine ⟨a, ns, i, rfl, s2.seq hS1, fun c => ?_⟩
      walk_at "wp"
      refine ⟨c, i, rfl, by omega, fun b H3 nb hb3 s3 => ?_⟩
      have hbH : H1 b = none := by
        cases e : H1 b with
        | none => rfl
        | some o => exact absurd ((s2 _ _ e).symm.trans nb) (by intro q; cases q)
      walk_at "wp"
      refine ⟨b, 0, rfl, hb3, by omega, fun size H4 z0 z1 hb4 k4 => ?_⟩
      have s4 : Same H1 H4 := fun c o hc => k4 _ _ (ne_of_none hc hbH) (s3 _ _ (s2 _ _ hc))
      walk_at "wp"
      refine ⟨b, 2, rfl, hb4, by omega, fun p ys Ps H5 pn hp L ok l0 l1 hb5 k5 => ?_⟩
      have s5 : Same H1 H5 := fun c o hc => k5.keep _ _ (fun q => ne_of_none hc hbH (List.mem_singleton.mp q)) (s4 _ _ hc)
      walk_at "wp"
      obtain ⟨sz, rfl⟩ : ∃ sz : Nat, size = (sz : Int) := ⟨size.toNat, by omega⟩
      refine ⟨sz, p, ys, Ps, rfl, by omega, by omega, hp, L.less (by simp), ok, by omega, fun H6 s6 => ?_⟩
      walk_at "wp"
      exact ⟨_, _, _, rfl, s5.trans s6⟩
    · rintro σ H2 ⟨y1, y2, y3, rfl, s2⟩
      walk_at "wp"
      exact q _
end
end K10

namespace K10
open PySem PySem.Spec PyProof.Rows L2 Wp Wq Wr Wb
/-! ### what the top has written; the law's own head -/
theorem all_mk {l : PySem.W.OpenLaw} {w : World} {K : PySem.W.Frag} {h : Heap} {mg : Str → Option Value} {fa : Addr} (X : K.In h) (G : h.Ns mainGlobals mg) (hfa : mg "law" = some (.ref fa))
    {f0 : Addr} {od0 an0 : Option Addr} {sl0 : Array (Option Value)} {oc0 kV0 dc0 pm0 cd0 ct0 : Value}
    (a0 : PySem.W.nsIn K mainGlobals "is_number" = some (some (.ref f0))) (l0 : K.lookup f0 = some ⟨oc0, od0, .func (PySem.W.fnOf "is_number" "is_number" (defArgs s_is_number) (defBody s_is_number) (defScope s_is_number) .none kV0 dc0 pm0 an0 cd0 ct0), sl0⟩) (c0 : PySem.W.codeIn K cd0 "is_number" = true) (k0 : PySem.W.keepIn K (.ref f0) = true)
    {f1 : Addr} {od1 an1 : Option Addr} {sl1 : Array (Option Value)} {oc1 kV1 dc1 pm1 cd1 ct1 : Value}
    (a1 : PySem.W.nsIn K mainGlobals "check_size" = some (some (.ref f1))) (l1 : K.lookup f1 = some ⟨oc1, od1, .func (PySem.W.fnOf "check_size" "check_size" (defArgs s_check_size) (defBody s_check_size) (defScope s_check_size) .none kV1 dc1 pm1 an1 cd1 ct1), sl1⟩) (c1 : PySem.W.codeIn K cd1 "check_size" = true) (k1 : PySem.W.keepIn K (.ref f1) = true)
    {f2 : Addr} {od2 an2 : Option Addr} {sl2 : Array (Option Value)} {oc2 kV2 dc2 pm2 cd2 ct2 : Value}
    (a2 : PySem.W.nsIn K mainGlobals "beginnings_of" = some (some (.ref f2))) (l2 : K.lookup f2 = some ⟨oc2, od2, .func (PySem.W.fnOf "beginnings_of" "beginnings_of" (defArgs s_beginnings_of) (defBody s_beginnings_of) (defScope s_beginnings_of) .none kV2 dc2 pm2 an2 cd2 ct2), sl2⟩) (c2 : PySem.W.codeIn K cd2 "beginnings_of" = true) (k2 : PySem.W.keepIn K (.ref f2) = true)
    {f3 : Addr} {od3 an3 : Option Addr} {sl3 : Array (Option Value)} {oc3 kV3 dc3 pm3 cd3 ct3 : Value}
    (a3 : PySem.W.nsIn K mainGlobals "path_of" = some (some (.ref f3))) (l3 : K.lookup f3 = some ⟨oc3, od3, .func (PySem.W.fnOf "path_of" "path_of" (defArgs s_path_of) (defBody s_path_of) (defScope s_path_of) .none kV3 dc3 pm3 an3 cd3 ct3), sl3⟩) (c3 : PySem.W.codeIn K cd3 "path_of" = true) (k3 : PySem.W.keepIn K (.ref f3) = true)
    {f4 : Addr} {od4 an4 : Option Addr} {sl4 : Array (Option Value)} {oc4 kV4 dc4 pm4 cd4 ct4 : Value}
    (a4 : PySem.W.nsIn K mainGlobals "stops_of" = some (some (.ref f4))) (l4 : K.lookup f4 = some ⟨oc4, od4, .func (PySem.W.fnOf "stops_of" "stops_of" (defArgs s_stops_of) (defBody s_stops_of) (defScope s_stops_of) .none kV4 dc4 pm4 an4 cd4 ct4), sl4⟩) (c4 : PySem.W.codeIn K cd4 "stops_of" = true) (k4 : PySem.W.keepIn K (.ref f4) = true)
    {f5 : Addr} {od5 an5 : Option Addr} {sl5 : Array (Option Value)} {oc5 kV5 dc5 pm5 cd5 ct5 : Value}
    (a5 : PySem.W.nsIn K mainGlobals "edges_of" = some (some (.ref f5))) (l5 : K.lookup f5 = some ⟨oc5, od5, .func (PySem.W.fnOf "edges_of" "edges_of" (defArgs s_edges_of) (defBody s_edges_of) (defScope s_edges_of) .none kV5 dc5 pm5 an5 cd5 ct5), sl5⟩) (c5 : PySem.W.codeIn K cd5 "edges_of" = true) (k5 : PySem.W.keepIn K (.ref f5) = true)
    {f6 : Addr} {od6 an6 : Option Addr} {sl6 : Array (Option Value)} {oc6 kV6 dc6 pm6 cd6 ct6 : Value}
    (a6 : PySem.W.nsIn K mainGlobals "lay" = some (some (.ref f6))) (l6 : K.lookup f6 = some ⟨oc6, od6, .func (PySem.W.fnOf "lay" "lay" (defArgs s_lay) (defBody s_lay) (defScope s_lay) .none kV6 dc6 pm6 an6 cd6 ct6), sl6⟩) (c6 : PySem.W.codeIn K cd6 "lay" = true) (k6 : PySem.W.keepIn K (.ref f6) = true)
    {f7 : Addr} {od7 an7 : Option Addr} {sl7 : Array (Option Value)} {oc7 kV7 dc7 pm7 cd7 ct7 : Value}
    (a7 : PySem.W.nsIn K mainGlobals "tight" = some (some (.ref f7))) (l7 : K.lookup f7 = some ⟨oc7, od7, .func (PySem.W.fnOf "tight" "tight" (defArgs s_tight) (defBody s_tight) (defScope s_tight) .none kV7 dc7 pm7 an7 cd7 ct7), sl7⟩) (c7 : PySem.W.codeIn K cd7 "tight" = true) (k7 : PySem.W.keepIn K (.ref f7) = true)
    {f8 : Addr} {od8 an8 : Option Addr} {sl8 : Array (Option Value)} {oc8 kV8 dc8 pm8 cd8 ct8 : Value}
    (a8 : PySem.W.nsIn K mainGlobals "_law_cell_at" = some (some (.ref f8))) (l8 : K.lookup f8 = some ⟨oc8, od8, .func (PySem.W.fnOf "_law_cell_at" "_law_cell_at" (defArgs s_cell_at) (defBody s_cell_at) (defScope s_cell_at) .none kV8 dc8 pm8 an8 cd8 ct8), sl8⟩) (c8 : PySem.W.codeIn K cd8 "_law_cell_at" = true) (k8 : PySem.W.keepIn K (.ref f8) = true)
    {f9 : Addr} {od9 an9 : Option Addr} {sl9 : Array (Option Value)} {oc9 kV9 dc9 pm9 cd9 ct9 : Value}
    (a9 : PySem.W.nsIn K mainGlobals "_law_bag" = some (some (.ref f9))) (l9 : K.lookup f9 = some ⟨oc9, od9, .func (PySem.W.fnOf "_law_bag" "_law_bag" (defArgs s_bag) (defBody s_bag) (defScope s_bag) .none kV9 dc9 pm9 an9 cd9 ct9), sl9⟩) (c9 : PySem.W.codeIn K cd9 "_law_bag" = true) (k9 : PySem.W.keepIn K (.ref f9) = true)
    {f10 : Addr} {od10 an10 : Option Addr} {sl10 : Array (Option Value)} {oc10 kV10 dc10 pm10 cd10 ct10 : Value}
    (a10 : PySem.W.nsIn K mainGlobals "_law_draw" = some (some (.ref f10))) (l10 : K.lookup f10 = some ⟨oc10, od10, .func (PySem.W.fnOf "_law_draw" "_law_draw" (defArgs s_draw) (defBody s_draw) (defScope s_draw) .none kV10 dc10 pm10 an10 cd10 ct10), sl10⟩) (c10 : PySem.W.codeIn K cd10 "_law_draw" = true) (k10 : PySem.W.keepIn K (.ref f10) = true)
    {f11 : Addr} {od11 an11 : Option Addr} {sl11 : Array (Option Value)} {oc11 kV11 dc11 pm11 cd11 ct11 : Value}
    (a11 : PySem.W.nsIn K mainGlobals "_law_worth" = some (some (.ref f11))) (l11 : K.lookup f11 = some ⟨oc11, od11, .func (PySem.W.fnOf "_law_worth" "_law_worth" (defArgs s_worth) (defBody s_worth) (defScope s_worth) .none kV11 dc11 pm11 an11 cd11 ct11), sl11⟩) (c11 : PySem.W.codeIn K cd11 "_law_worth" = true) (k11 : PySem.W.keepIn K (.ref f11) = true)
    {f12 : Addr} {od12 an12 : Option Addr} {sl12 : Array (Option Value)} {oc12 kV12 dc12 pm12 cd12 ct12 : Value}
    (a12 : PySem.W.nsIn K mainGlobals "_law_whole" = some (some (.ref f12))) (l12 : K.lookup f12 = some ⟨oc12, od12, .func (PySem.W.fnOf "_law_whole" "_law_whole" (defArgs s_whole) (defBody s_whole) (defScope s_whole) .none kV12 dc12 pm12 an12 cd12 ct12), sl12⟩) (c12 : PySem.W.codeIn K cd12 "_law_whole" = true) (k12 : PySem.W.keepIn K (.ref f12) = true)
    {f13 : Addr} {od13 an13 : Option Addr} {sl13 : Array (Option Value)} {oc13 kV13 dc13 pm13 cd13 ct13 : Value}
    (a13 : PySem.W.nsIn K mainGlobals "_law_size" = some (some (.ref f13))) (l13 : K.lookup f13 = some ⟨oc13, od13, .func (PySem.W.fnOf "_law_size" "_law_size" (defArgs s_size) (defBody s_size) (defScope s_size) .none kV13 dc13 pm13 an13 cd13 ct13), sl13⟩) (c13 : PySem.W.codeIn K cd13 "_law_size" = true) (k13 : PySem.W.keepIn K (.ref f13) = true)
    {f14 : Addr} {od14 an14 : Option Addr} {sl14 : Array (Option Value)} {oc14 kV14 dc14 pm14 cd14 ct14 : Value}
    (a14 : PySem.W.nsIn K mainGlobals "_law_many_piles" = some (some (.ref f14))) (l14 : K.lookup f14 = some ⟨oc14, od14, .func (PySem.W.fnOf "_law_many_piles" "_law_many_piles" (defArgs s_many_piles) (defBody s_many_piles) (defScope s_many_piles) .none kV14 dc14 pm14 an14 cd14 ct14), sl14⟩) (c14 : PySem.W.codeIn K cd14 "_law_many_piles" = true) (k14 : PySem.W.keepIn K (.ref f14) = true)
    {f15 : Addr} {od15 an15 : Option Addr} {sl15 : Array (Option Value)} {oc15 kV15 dc15 pm15 cd15 ct15 : Value}
    (a15 : PySem.W.nsIn K mainGlobals "_law_piles" = some (some (.ref f15))) (l15 : K.lookup f15 = some ⟨oc15, od15, .func (PySem.W.fnOf "_law_piles" "_law_piles" (defArgs s_piles) (defBody s_piles) (defScope s_piles) .none kV15 dc15 pm15 an15 cd15 ct15), sl15⟩) (c15 : PySem.W.codeIn K cd15 "_law_piles" = true) (k15 : PySem.W.keepIn K (.ref f15) = true)
    {f16 : Addr} {od16 an16 : Option Addr} {sl16 : Array (Option Value)} {oc16 kV16 dc16 pm16 cd16 ct16 : Value}
    (a16 : PySem.W.nsIn K mainGlobals "_law_right" = some (some (.ref f16))) (l16 : K.lookup f16 = some ⟨oc16, od16, .func (PySem.W.fnOf "_law_right" "_law_right" (defArgs s_right) (defBody s_right) (defScope s_right) .none kV16 dc16 pm16 an16 cd16 ct16), sl16⟩) (c16 : PySem.W.codeIn K cd16 "_law_right" = true) (k16 : PySem.W.keepIn K (.ref f16) = true)
    {f17 : Addr} {od17 an17 : Option Addr} {sl17 : Array (Option Value)} {oc17 kV17 dc17 pm17 cd17 ct17 : Value}
    (a17 : PySem.W.nsIn K mainGlobals "_law_worths_all" = some (some (.ref f17))) (l17 : K.lookup f17 = some ⟨oc17, od17, .func (PySem.W.fnOf "_law_worths_all" "_law_worths_all" (defArgs s_worths_all) (defBody s_worths_all) (defScope s_worths_all) .none kV17 dc17 pm17 an17 cd17 ct17), sl17⟩) (c17 : PySem.W.codeIn K cd17 "_law_worths_all" = true) (k17 : PySem.W.keepIn K (.ref f17) = true)
    {f18 : Addr} {od18 an18 : Option Addr} {sl18 : Array (Option Value)} {oc18 kV18 dc18 pm18 cd18 ct18 : Value}
    (a18 : PySem.W.nsIn K mainGlobals "_law_form" = some (some (.ref f18))) (l18 : K.lookup f18 = some ⟨oc18, od18, .func (PySem.W.fnOf "_law_form" "_law_form" (defArgs s_form) (defBody s_form) (defScope s_form) .none kV18 dc18 pm18 an18 cd18 ct18), sl18⟩) (c18 : PySem.W.codeIn K cd18 "_law_form" = true) (k18 : PySem.W.keepIn K (.ref f18) = true)
    {f19 : Addr} {od19 an19 : Option Addr} {sl19 : Array (Option Value)} {oc19 kV19 dc19 pm19 cd19 ct19 : Value}
    (a19 : PySem.W.nsIn K mainGlobals "_law_open" = some (some (.ref f19))) (l19 : K.lookup f19 = some ⟨oc19, od19, .func (PySem.W.fnOf "_law_open" "_law_open" (defArgs s_open) (defBody s_open) (defScope s_open) .none kV19 dc19 pm19 an19 cd19 ct19), sl19⟩) (c19 : PySem.W.codeIn K cd19 "_law_open" = true) (k19 : PySem.W.keepIn K (.ref f19) = true)
    {f20 : Addr} {od20 an20 : Option Addr} {sl20 : Array (Option Value)} {oc20 kV20 dc20 pm20 cd20 ct20 : Value}
    (a20 : PySem.W.nsIn K mainGlobals "_law_good" = some (some (.ref f20))) (l20 : K.lookup f20 = some ⟨oc20, od20, .func (PySem.W.fnOf "_law_good" "_law_good" (defArgs s_good) (defBody s_good) (defScope s_good) .none kV20 dc20 pm20 an20 cd20 ct20), sl20⟩) (c20 : PySem.W.codeIn K cd20 "_law_good" = true) (k20 : PySem.W.keepIn K (.ref f20) = true)
    {f21 : Addr} {od21 an21 : Option Addr} {sl21 : Array (Option Value)} {oc21 kV21 dc21 pm21 cd21 ct21 : Value}
    (a21 : PySem.W.nsIn K mainGlobals "law" = some (some (.ref f21))) (l21 : K.lookup f21 = some ⟨oc21, od21, .func (PySem.W.fnOf "law" "law" (defArgs s_law) (defBody s_law) (defScope s_law) .none kV21 dc21 pm21 an21 cd21 ct21), sl21⟩) (c21 : PySem.W.codeIn K cd21 "law" = true) (k21 : PySem.W.keepIn K (.ref f21) = true)
    (z_bool : PySem.W.nsIn K mainGlobals "bool" = some none)
    (z_int : PySem.W.nsIn K mainGlobals "int" = some none)
    (z_isinstance : PySem.W.nsIn K mainGlobals "isinstance" = some none)
    (z_len : PySem.W.nsIn K mainGlobals "len" = some none)
    (z_list : PySem.W.nsIn K mainGlobals "list" = some none)
    (z_max : PySem.W.nsIn K mainGlobals "max" = some none)
    (z_min : PySem.W.nsIn K mainGlobals "min" = some none)
    (z_range : PySem.W.nsIn K mainGlobals "range" = some none)
    (z_str : PySem.W.nsIn K mainGlobals "str" = some none)
    (z_tuple : PySem.W.nsIn K mainGlobals "tuple" = some none)
    (z_type : PySem.W.nsIn K mainGlobals "type" = some none)
    (z_zip : PySem.W.nsIn K mainGlobals "zip" = some none)
    {tNOTHING : Tok} (sNOTHING : PySem.W.nsIn K mainGlobals "NOTHING" = some (some (.int (-1) tNOTHING)))
    {tLEAST_SIZE : Tok} (sLEAST_SIZE : PySem.W.nsIn K mainGlobals "LEAST_SIZE" = some (some (.int (2) tLEAST_SIZE)))
    {tMOST_SIZE : Tok} (sMOST_SIZE : PySem.W.nsIn K mainGlobals "MOST_SIZE" = some (some (.int (64) tMOST_SIZE)))
    : ∃ fd : FuncData, (∀ (s : Shared) (v : Value), BindsTo s fd ⟨[v], []⟩ [("script", v)]) ∧ ∀ base : Heap, K.In base → base.Ns mainGlobals mg → FnOk l.prog w K mg base CX0 5 fa fd ["script"] (spLaw K) := by
  have e := hfa.symm.trans (PySem.W.mg_of X G a21)
  cases e
  have F0 := fun_mk (st := s_is_number) l0 c0 k0
  have F1 := fun_mk (st := s_check_size) l1 c1 k1
  have F2 := fun_mk (st := s_beginnings_of) l2 c2 k2
  have F3 := fun_mk (st := s_path_of) l3 c3 k3
  have F4 := fun_mk (st := s_stops_of) l4 c4 k4
  have F5 := fun_mk (st := s_edges_of) l5 c5 k5
  have F6 := fun_mk (st := s_lay) l6 c6 k6
  have F7 := fun_mk (st := s_tight) l7 c7 k7
  have F8 := fun_mk (st := s_cell_at) l8 c8 k8
  have F9 := fun_mk (st := s_bag) l9 c9 k9
  have F10 := fun_mk (st := s_draw) l10 c10 k10
  have F11 := fun_mk (st := s_worth) l11 c11 k11
  have F12 := fun_mk (st := s_whole) l12 c12 k12
  have F13 := fun_mk (st := s_size) l13 c13 k13
  have F14 := fun_mk (st := s_many_piles) l14 c14 k14
  have F15 := fun_mk (st := s_piles) l15 c15 k15
  have F16 := fun_mk (st := s_right) l16 c16 k16
  have F17 := fun_mk (st := s_worths_all) l17 c17 k17
  have F18 := fun_mk (st := s_form) l18 c18 k18
  have F19 := fun_mk (st := s_open) l19 c19 k19
  have F20 := fun_mk (st := s_good) l20 c20 k20
  have F21 := fun_mk (st := s_law) l21 c21 k21
  let T : Txt l.prog w K mg := {
    f_is_number := f0,
    fd_is_number := _,
    F_is_number := F0,
    b_is_number := F0.binds (ps := ["thing"]) fun _ _ _ _ _ _ us hl => match us, hl with | [_], _ => rfl,
    g_is_number := PySem.W.mg_of X G a0,
    f_check_size := f1,
    fd_check_size := _,
    F_check_size := F1,
    b_check_size := F1.binds (ps := ["size"]) fun _ _ _ _ _ _ us hl => match us, hl with | [_], _ => rfl,
    g_check_size := PySem.W.mg_of X G a1,
    f_beginnings_of := f2,
    fd_beginnings_of := _,
    F_beginnings_of := F2,
    b_beginnings_of := F2.binds (ps := ["piles"]) fun _ _ _ _ _ _ us hl => match us, hl with | [_], _ => rfl,
    g_beginnings_of := PySem.W.mg_of X G a2,
    f_path_of := f3,
    fd_path_of := _,
    F_path_of := F3,
    b_path_of := F3.binds (ps := ["numbers", "pile"]) fun _ _ _ _ _ _ us hl => match us, hl with | [_, _], _ => rfl,
    g_path_of := PySem.W.mg_of X G a3,
    f_stops_of := f4,
    fd_stops_of := _,
    F_stops_of := F4,
    b_stops_of := F4.binds (ps := ["numbers", "paths"]) fun _ _ _ _ _ _ us hl => match us, hl with | [_, _], _ => rfl,
    g_stops_of := PySem.W.mg_of X G a4,
    f_edges_of := f5,
    fd_edges_of := _,
    F_edges_of := F5,
    b_edges_of := F5.binds (ps := ["size", "path", "stops"]) fun _ _ _ _ _ _ us hl => match us, hl with | [_, _, _], _ => rfl,
    g_edges_of := PySem.W.mg_of X G a5,
    f_lay := f6,
    fd_lay := _,
    F_lay := F6,
    b_lay := F6.binds (ps := ["pieces", "places", "pile", "path", "edges"]) fun _ _ _ _ _ _ us hl => match us, hl with | [_, _, _, _, _], _ => rfl,
    g_lay := PySem.W.mg_of X G a6,
    f_tight := f7,
    fd_tight := _,
    F_tight := F7,
    b_tight := F7.binds (ps := ["size", "piles"]) fun _ _ _ _ _ _ us hl => match us, hl with | [_, _], _ => rfl,
    g_tight := PySem.W.mg_of X G a7,
    f_cell_at := f8,
    fd_cell_at := _,
    F_cell_at := F8,
    b_cell_at := F8.binds (ps := ["script", "k"]) fun _ _ _ _ _ _ us hl => match us, hl with | [_, _], _ => rfl,
    g_cell_at := PySem.W.mg_of X G a8,
    f_bag := f9,
    fd_bag := _,
    F_bag := F9,
    b_bag := F9.binds (ps := ["cell", "place"]) fun _ _ _ _ _ _ us hl => match us, hl with | [_, _], _ => rfl,
    g_bag := PySem.W.mg_of X G a9,
    f_draw := f10,
    fd_draw := _,
    F_draw := F10,
    b_draw := F10.binds (ps := ["bag", "many"]) fun _ _ _ _ _ _ us hl => match us, hl with | [_, _], _ => rfl,
    g_draw := PySem.W.mg_of X G a10,
    f_worth := f11,
    fd_worth := _,
    F_worth := F11,
    b_worth := F11.binds (ps := ["bag", "few"]) fun _ _ _ _ _ _ us hl => match us, hl with | [_, _], _ => rfl,
    g_worth := PySem.W.mg_of X G a11,
    f_whole := f12,
    fd_whole := _,
    F_whole := F12,
    b_whole := F12.binds (ps := ["found"]) fun _ _ _ _ _ _ us hl => match us, hl with | [_], _ => rfl,
    g_whole := PySem.W.mg_of X G a12,
    f_size := f13,
    fd_size := _,
    F_size := F13,
    b_size := F13.binds (ps := ["bag"]) fun _ _ _ _ _ _ us hl => match us, hl with | [_], _ => rfl,
    g_size := PySem.W.mg_of X G a13,
    f_many_piles := f14,
    fd_many_piles := _,
    F_many_piles := F14,
    b_many_piles := F14.binds (ps := ["bag"]) fun _ _ _ _ _ _ us hl => match us, hl with | [_], _ => rfl,
    g_many_piles := PySem.W.mg_of X G a14,
    f_piles := f15,
    fd_piles := _,
    F_piles := F15,
    b_piles := F15.binds (ps := ["bag"]) fun _ _ _ _ _ _ us hl => match us, hl with | [_], _ => rfl,
    g_piles := PySem.W.mg_of X G a15,
    f_right := f16,
    fd_right := _,
    F_right := F16,
    b_right := F16.binds (ps := ["size", "pieces", "tops"]) fun _ _ _ _ _ _ us hl => match us, hl with | [_, _, _], _ => rfl,
    g_right := PySem.W.mg_of X G a16,
    f_worths_all := f17,
    fd_worths_all := _,
    F_worths_all := F17,
    b_worths_all := F17.binds (ps := ["found"]) fun _ _ _ _ _ _ us hl => match us, hl with | [_], _ => rfl,
    g_worths_all := PySem.W.mg_of X G a17,
    f_form := f18,
    fd_form := _,
    F_form := F18,
    b_form := F18.binds (ps := ["found"]) fun _ _ _ _ _ _ us hl => match us, hl with | [_], _ => rfl,
    g_form := PySem.W.mg_of X G a18,
    f_open := f19,
    fd_open := _,
    F_open := F19,
    b_open := F19.binds (ps := ["pieces", "top"]) fun _ _ _ _ _ _ us hl => match us, hl with | [_, _], _ => rfl,
    g_open := PySem.W.mg_of X G a19,
    f_good := f20,
    fd_good := _,
    F_good := F20,
    b_good := F20.binds (ps := ["size", "piles"]) fun _ _ _ _ _ _ us hl => match us, hl with | [_, _], _ => rfl,
    g_good := PySem.W.mg_of X G a20,
    f_law := fa,
    fd_law := _,
    F_law := F21,
    b_law := F21.binds (ps := ["script"]) fun _ _ _ _ _ _ us hl => match us, hl with | [_], _ => rfl,
    g_law := PySem.W.mg_of X G a21,
    n_bool := PySem.W.mg_none_of X G z_bool,
    n_int := PySem.W.mg_none_of X G z_int,
    n_isinstance := PySem.W.mg_none_of X G z_isinstance,
    n_len := PySem.W.mg_none_of X G z_len,
    n_list := PySem.W.mg_none_of X G z_list,
    n_max := PySem.W.mg_none_of X G z_max,
    n_min := PySem.W.mg_none_of X G z_min,
    n_range := PySem.W.mg_none_of X G z_range,
    n_str := PySem.W.mg_none_of X G z_str,
    n_tuple := PySem.W.mg_none_of X G z_tuple,
    n_type := PySem.W.mg_none_of X G z_type,
    n_zip := PySem.W.mg_none_of X G z_zip,
    t_NOTHING := tNOTHING,
    c_NOTHING := PySem.W.mg_of X G sNOTHING,
    t_LEAST_SIZE := tLEAST_SIZE,
    c_LEAST_SIZE := PySem.W.mg_of X G sLEAST_SIZE,
    t_MOST_SIZE := tMOST_SIZE,
    c_MOST_SIZE := PySem.W.mg_of X G sMOST_SIZE }
  exact ⟨PySem.W.fnOf "law" "law" (defArgs s_law) (defBody s_law) (defScope s_law) .none kV21 dc21 pm21 an21 cd21 ct21, fun s v => .of_eq rfl, fun base _ _ => ok_law T⟩
end K10
open PySem PySem.W PyProof.Rows
set_option maxHeartbeats 0 in
theorem PySem.Challenge.cw_manygoings_k10_tight_papers_lay_open_holds : PySem.Challenge.rw_manygoings_k10_tight_papers_lay_open.Holds := by
  w_on; o_law; k_head; (case hw => w_witness2)
  k_fill
  refine L2.walk_of (l := PySem.Challenge.rw_manygoings_k10_tight_papers_lay_open) (n := 63) (k := 5) (x := "script") (CX := fun _ => L2.CX0) (sp := fun w => K10.spLaw _) rfl (by decide) rfl ⟨rfl, by decide, by decide⟩ (fun w h Y => PySem.W.kIn_of Y) ?F (fun _ _ a ns hl _ hS => ⟨a, ns, rfl, hS, hl, fun _ => rfl⟩) (fun _ _ _ _ _ h => h)
  case F =>
    intro w mg fa h KX G hmg
    refine' K10.all_mk KX G hmg ?a0 ?l0 ?c0 ?k0 ?a1 ?l1 ?c1 ?k1 ?a2 ?l2 ?c2 ?k2 ?a3 ?l3 ?c3 ?k3 ?a4 ?l4 ?c4 ?k4 ?a5 ?l5 ?c5 ?k5 ?a6 ?l6 ?c6 ?k6 ?a7 ?l7 ?c7 ?k7 ?a8 ?l8 ?c8 ?k8 ?a9 ?l9 ?c9 ?k9 ?a10 ?l10 ?c10 ?k10 ?a11 ?l11 ?c11 ?k11 ?a12 ?l12 ?c12 ?k12 ?a13 ?l13 ?c13 ?k13 ?a14 ?l14 ?c14 ?k14 ?a15 ?l15 ?c15 ?k15 ?a16 ?l16 ?c16 ?k16 ?a17 ?l17 ?c17 ?k17 ?a18 ?l18 ?c18 ?k18 ?a19 ?l19 ?c19 ?k19 ?a20 ?l20 ?c20 ?k20 ?a21 ?l21 ?c21 ?k21 ?z_bool ?z_int ?z_isinstance ?z_len ?z_list ?z_max ?z_min ?z_range ?z_str ?z_tuple ?z_type ?z_zip ?sNOTHING ?sLEAST_SIZE ?sMOST_SIZE
    (case a0 => k_is); (case l0 => k_is); (case c0 => k_is); (case k0 => k_is); (case a1 => k_is); (case l1 => k_is); (case c1 => k_is); (case k1 => k_is); (case a2 => k_is); (case l2 => k_is); (case c2 => k_is); (case k2 => k_is); (case a3 => k_is); (case l3 => k_is); (case c3 => k_is); (case k3 => k_is); (case a4 => k_is); (case l4 => k_is); (case c4 => k_is); (case k4 => k_is); (case a5 => k_is); (case l5 => k_is); (case c5 => k_is); (case k5 => k_is); (case a6 => k_is); (case l6 => k_is); (case c6 => k_is); (case k6 => k_is); (case a7 => k_is); (case l7 => k_is); (case c7 => k_is); (case k7 => k_is); (case a8 => k_is); (case l8 => k_is); (case c8 => k_is); (case k8 => k_is); (case a9 => k_is); (case l9 => k_is); (case c9 => k_is); (case k9 => k_is); (case a10 => k_is); (case l10 => k_is); (case c10 => k_is); (case k10 => k_is); (case a11 => k_is); (case l11 => k_is); (case c11 => k_is); (case k11 => k_is); (case a12 => k_is); (case l12 => k_is); (case c12 => k_is); (case k12 => k_is); (case a13 => k_is); (case l13 => k_is); (case c13 => k_is); (case k13 => k_is); (case a14 => k_is); (case l14 => k_is); (case c14 => k_is); (case k14 => k_is); (case a15 => k_is); (case l15 => k_is); (case c15 => k_is); (case k15 => k_is); (case a16 => k_is); (case l16 => k_is); (case c16 => k_is); (case k16 => k_is); (case a17 => k_is); (case l17 => k_is); (case c17 => k_is); (case k17 => k_is); (case a18 => k_is); (case l18 => k_is); (case c18 => k_is); (case k18 => k_is); (case a19 => k_is); (case l19 => k_is); (case c19 => k_is); (case k19 => k_is); (case a20 => k_is); (case l20 => k_is); (case c20 => k_is); (case k20 => k_is); (case a21 => k_is); (case l21 => k_is); (case c21 => k_is); (case k21 => k_is); (case z_bool => k_is); (case z_int => k_is); (case z_isinstance => k_is); (case z_len => k_is); (case z_list => k_is); (case z_max => k_is); (case z_min => k_is); (case z_range => k_is); (case z_str => k_is); (case z_tuple => k_is); (case z_type => k_is); (case z_zip => k_is)
    (case sNOTHING => k_is)
    (case sLEAST_SIZE => k_is)
    (case sMOST_SIZE => k_is)

