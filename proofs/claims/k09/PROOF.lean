import PyProof.Rows.All
import Wide.All
import OpenK.AllK
import Wide.FinOn
import HandS.ForMost
import HandS.IsInst
import HandS.Wide
import HandS.More
import HandS.Codes
import HandS.Deep
import HandS.Conv
import KE.KDictKeyed
import KE.KeyNested
import HandS.Iter
import KE.SortData
import HandS.Style
import PySem.Challenge.RW_manygoings_k09_spots
set_option Elab.async false
set_option linter.all false
set_option maxRecDepth 100000
set_option maxHeartbeats 4000000
/-! Steps over the readings of the hand layer: one lemma a form, and a walk by them. -/
namespace Wp
open PySem PySem.Spec PyProof.Rows L2
section
variable {σ : L2.St} {H : Hp} {Q : VK} {D : Ends} {te ta tb tc : TE} {t u v : TS} {c c2 : TT} {x y z : V} {i : Nat} {K : PySem.W.Frag}
theorem seq (h : t { D with nx := u D } σ H) : tSeq t u D σ H := h
theorem nx_mk {n : L2.St → Hp → Prop} {r : VK} {b k : L2.St → Hp → Prop} (h : n σ H) : (Ends.mk n r b k).nx σ H := h
theorem rt_mk {n : L2.St → Hp → Prop} {r : VK} {b k : L2.St → Hp → Prop} (h : r x H) : (Ends.mk n r b k).rt x H := h
theorem bk_mk {n : L2.St → Hp → Prop} {r : VK} {b k : L2.St → Hp → Prop} (h : b σ H) : (Ends.mk n r b k).bk σ H := h
theorem ct_mk {n : L2.St → Hp → Prop} {r : VK} {b k : L2.St → Hp → Prop} (h : k σ H) : (Ends.mk n r b k).ct σ H := h
theorem next (h : D.nx σ H) : tNext D σ H := h
theorem asg {g : TG} (h : te σ H fun x H1 => g x σ H1 D.nx) : tAsg te g D σ H := h
theorem gname {R : L2.St → Hp → Prop} {σ' : L2.St} (e : σ.set i (some x) = σ') (h : R σ' H) : gName i x σ H R := by subst e; exact h
theorem gsub {s : TSet} {R : L2.St → Hp → Prop} (h : ta σ H fun o H1 => tb σ H1 fun i H2 => s o i x H2 fun H3 => R σ H3) : gSub ta tb s x σ H R := h
theorem ret (h : te σ H D.rt) : tRet te D σ H := h
theorem retN (h : D.rt .non H) : tRetN D σ H := h
theorem drop (h : te σ H fun _ H1 => D.nx σ H1) : tDrop te D σ H := h
theorem ifs (h : c σ H fun b H1 => if b = true then t D σ H1 else u D σ H1) : tIfS c t u D σ H := h
theorem var (h : σ[i]? = some (some x)) (q : Q x H) : tVar i σ H Q := ⟨x, h, q⟩
theorem con (q : Q x H) : tC x σ H Q := q
theorem op {r : R2} (h : ta σ H fun x H1 => tb σ H1 fun y H2 => r x y H2 Q) : tOp r ta tb σ H Q := h
theorem un {r : V → Hp → VK → Prop} (h : ta σ H fun x H1 => r x H1 Q) : tUn r ta σ H Q := h
theorem cb {r : List V → Hp → VK → Prop} {t : TA} (h : t σ H fun vs H1 => r vs H1 Q) : tCB r t σ H Q := h
theorem anil {R : List V → Hp → Prop} (h : R [] H) : tNil σ H R := h
theorem acons {tr : TA} {R : List V → Hp → Prop} (h : te σ H fun x H1 => tr σ H1 fun xs H2 => R (x :: xs) H2) : tCons te tr σ H R := h
theorem call {sp : Sp} {dvs : List V} {E : XK} {t : TA} (h : t σ H fun vs H1 => sp (vs ++ dvs) H1 Q E) : tCall sp dvs E t σ H Q := h
theorem lst {t : TA} (h : t σ H fun xs H1 => xs.length ≤ sizeLine ∧ ∀ p, H1 p = none → Q (.ref p) (upd H1 p (.lst xs))) : tLst t σ H Q := h
theorem tup {t : TA} (h : t σ H fun xs H1 => xs.length ≤ sizeLine ∧ ∀ p, H1 p = none → Q (.ref p) (upd H1 p (.tup xs))) : tTup t σ H Q := h
theorem test {R : Bool → Hp → Prop} (h : te σ H fun x H1 => ∃ k, x = .bl k ∧ R k H1) : tTest te σ H R := h
theorem tb_ {R : Bool → Hp → Prop} (h : te σ H fun x H1 => ∃ k, x = .bl k ∧ R k H1) : tB te σ H R := h
theorem and_ {R : Bool → Hp → Prop} (h : c σ H fun b H1 => if b = true then c2 σ H1 R else R false H1) : tAnd c c2 σ H R := h
theorem or_ {R : Bool → Hp → Prop} (h : c σ H fun b H1 => if b = true then R true H1 else c2 σ H1 R) : tOr c c2 σ H R := h
theorem not_ {R : Bool → Hp → Prop} (h : c σ H fun b H1 => R (!b) H1) : tNot c σ H R := h
theorem andV (h : ta σ H fun x H1 => ∃ c, x = .bl c ∧ if c = true then tb σ H1 Q else Q (.bl false) H1) : tAndV ta tb σ H Q := h
theorem orV (h : ta σ H fun x H1 => ∃ c, x = .bl c ∧ if c = true then Q (.bl true) H1 else tb σ H1 Q) : tOrV ta tb σ H Q := h
theorem notV (h : ta σ H fun x H1 => ∃ c, x = .bl c ∧ Q (.bl (!c)) H1) : tNotV ta σ H Q := h
theorem rI0_ {g : Int → Int → V} {a b : Int} (q : Q (g a b) H) : rI0 g (.int a) (.int b) H Q := ⟨a, b, rfl, rfl, q⟩
theorem rI_ {C : Int → Int → Prop} {g : Int → Int → V} {a b : Int} (k : C a b) (q : Q (g a b) H) : rI C g (.int a) (.int b) H Q := ⟨a, b, rfl, rfl, k, q⟩
theorem rU_ {g : Int → V} {a : Int} (q : Q (g a) H) : rU g (.int a) H Q := ⟨a, rfl, q⟩
theorem rEq_ {x y : V} (k : scal x y = true) (q : Q (.bl (decide (x = y))) H) : rEq x y H Q := ⟨k, q⟩
theorem rNe_ {x y : V} (k : scal x y = true) (q : Q (.bl (!decide (x = y))) H) : rNe x y H Q := ⟨k, q⟩
theorem ixL {p : Addr} {xs : List V} {j : Int} (h : SqL K H p xs) (e : atI xs j = some x) (q : Q x H) : rIxL K (.ref p) (.int j) H Q := ⟨p, xs, j, x, rfl, rfl, h, e, q⟩
theorem ixT {p : Addr} {xs : List V} {j : Int} (h : SqT K H p xs) (e : atI xs j = some x) (q : Q x H) : rIxT K (.ref p) (.int j) H Q := ⟨p, xs, j, x, rfl, rfl, h, e, q⟩
theorem setL {p : Addr} {xs : List V} {j : Int} {n : Nat} {R : Hp → Prop} (h : H p = some (.lst xs)) (e : ixN xs.length j = some n) (q : R (upd H p (.lst (xs.set n x)))) : rSetL (.ref p) (.int j) x H R := ⟨p, xs, j, n, rfl, rfl, h, e, q⟩
/-- a test's two ways -/
theorem ite_ {p A B : Prop} [Decidable p] (h1 : p → A) (h2 : ¬ p → B) : if decide p = true then A else B := by
  by_cases h : p
  · rw [if_pos (decide_eq_true h)]; exact h1 h
  · rw [if_neg (by rw [decide_eq_false h]; exact Bool.false_ne_true)]; exact h2 h
theorem iteN {p A B : Prop} [Decidable p] (h1 : ¬ p → A) (h2 : p → B) : if (!decide p) = true then A else B := by
  by_cases h : p
  · rw [decide_eq_true h]; exact iteF (h2 h)
  · rw [decide_eq_false h]; exact iteT (h1 h)
theorem iteB {b : Bool} {A B : Prop} (h1 : b = true → A) (h2 : b = false → B) : if b = true then A else B := by
  cases b with
  | true => exact iteT (h1 rfl)
  | false => exact iteF (h2 rfl)
end
/-! ### the walk -/
/-- all but the object at b is kept -/
def Kp (b : Addr) (H H' : Hp) : Prop := ∀ a o, a ≠ b → H a = some o → H' a = some o
theorem Kp.refl (b : Addr) (H : Hp) : Kp b H H := fun _ _ _ h => h
theorem Kp.trans {b : Addr} {H H1 H2 : Hp} (x : Kp b H H1) (y : Kp b H1 H2) : Kp b H H2 := fun a o n h => y a o n (x a o n h)
theorem Kp.new {b p : Addr} {H : Hp} {o : HO} (h : H p = none) : Kp b H (upd H p o) := fun a u _ e => by rw [upd_ne (ne_of_none e h)]; exact e
theorem Kp.at {b : Addr} {H : Hp} {o : HO} : Kp b H (upd H b o) := fun a u n e => by rw [upd_ne n]; exact e
section
variable {σ : L2.St} {H H1 H2 : Hp} {Q : VK} {D : Ends} {te ta tb tc : TE} {t u v : TS} {c c2 : TT} {x y z : V} {i : Nat} {K : PySem.W.Frag} {a b p : Addr} {xs ys : List V}
theorem gtup {tt : TGs} {R : L2.St → Hp → Prop} {n : Nat} (h : SqT K H a xs) (e : xs.length = n) (q : tt xs σ H R) : gTup K n tt (.ref a) σ H R := ⟨a, xs, rfl, h, e, q⟩
theorem gcons {g : TG} {tt : TGs} {R : L2.St → Hp → Prop} {r : List V} (q : g x σ H fun σ' H' => tt r σ' H' R) : gCons g tt (x :: r) σ H R := ⟨x, r, rfl, q⟩
theorem gnil {R : L2.St → Hp → Prop} (q : R σ H) : gNil [] σ H R := ⟨rfl, q⟩
theorem sl {r : V → Option Int → Option Int → Hp → VK → Prop} {tl th : TO} (h : te σ H fun x H1 => tl σ H1 fun l H2 => th σ H2 fun u H3 => r x l u H3 Q) : tSl r te tl th σ H Q := h
theorem part {R : Option Int → Hp → Prop} (h : te σ H fun x H1 => ∃ i, x = .int i ∧ R (some i) H1) : tPart te σ H R := h
theorem nopart {R : Option Int → Hp → Prop} (h : R none H) : tNoPart σ H R := h
theorem slS {zs : Str} {lo hi : Option Int} (h : zs.length ≤ sizeLine) (q : Q (.str (cutS zs lo hi)) H) : rSlS (.str zs) lo hi H Q := ⟨zs, rfl, h, q⟩
theorem ifE (h : c σ H fun b H1 => if b = true then ta σ H1 Q else tb σ H1 Q) : tIf c ta tb σ H Q := h
theorem bm0 {T : String} {r : V → List V → Hp → VK → Prop} (h : te σ H fun x H1 => tyV K T x H1 ∧ r x [] H1 Q) : tBM0 K T r te σ H Q := h
theorem bm {T : String} {r : V → List V → Hp → VK → Prop} {tt : TA} (h : te σ H fun x H1 => tyV K T x H1 ∧ tt σ H1 fun xs H2 => r x xs H2 Q) : tBM K T r te tt σ H Q := h
theorem lcat {t u : List V} {R : Addr → Hp → Prop} (h : ∀ p, H p = none → R p (upd H p (.lst (t ++ u)))) : ∀ p, H p = none → R p (upd H p (.lst (t ++ u))) := h
theorem iteT' {A B : Prop} (h : A) : if (!false) = true then A else B := iteT h
theorem iteF' {A B : Prop} (h : B) : if (!true) = true then A else B := iteF h
theorem iteBt {b : Bool} {A B : Prop} (h : b = true) (q : A) : if b = true then A else B := by rw [h]; exact iteT q
theorem iteBf {b : Bool} {A B : Prop} (h : b = false) (q : B) : if b = true then A else B := by rw [h]; exact iteF q
theorem cutS_len (z : Str) (lo hi : Option Int) : (cutS z lo hi).length ≤ z.length := by
  show ((z.cps.toList.drop (HT.sIx z.length 0 lo)).take (HT.sIx z.length z.length hi - HT.sIx z.length 0 lo)).toArray.size ≤ z.cps.size
  rw [List.size_toArray, List.length_take, List.length_drop, Array.length_toList]
  omega
theorem app_len (x y : Str) : (x ++ y).length = x.length + y.length := by
  show (x.cps ++ y.cps).size = x.cps.size + y.cps.size
  exact Array.size_append
theorem str1_len (c : Nat) : (⟨#[c]⟩ : Str).length = 1 := rfl
theorem iteBnT {b : Bool} {A B : Prop} (h : b = false) (q : A) : if (!b) = true then A else B := by rw [h]; exact iteT q
theorem iteBnF {b : Bool} {A B : Prop} (h : b = true) (q : B) : if (!b) = true then A else B := by rw [h]; exact iteF q
theorem pcons {tk tv : TE} {r : List (TE × TE)} {R : List (V × V) → Hp → Prop} (h : tk σ H fun x H1 => tv σ H1 fun y H2 => tPairs r σ H2 fun ps H3 => R ((x, y) :: ps) H3) : tPairs ((tk, tv) :: r) σ H R := h
theorem pnil {R : List (V × V) → Hp → Prop} (h : R [] H) : tPairs [] σ H R := h
/-! ### a written dict with text keys -/
def keysAre : List DictEntry → List (Str × V) → Prop
  | [], [] => True
  | e :: r, (k, v) :: s => (∃ t, e.key = .str k t) ∧ RelV v e.val ∧ keysAre r s
  | _, _ => False
def seek (z : Str) : List (Str × V) → Option V
  | [] => none
  | (k, v) :: s => if k = z then some v else seek z s
theorem keys_find {z : Str} : ∀ {l : List DictEntry} {ks : List (Str × V)}, keysAre l ks →
    (l.any (·.refKey) = false) ∧ ((∃ v e, seek z ks = some v ∧ l.find? (·.key.isStr z) = some e ∧ RelV v e.val) ∨ (seek z ks = none ∧ l.find? (·.key.isStr z) = none))
  | [], [], _ => ⟨rfl, .inr ⟨rfl, rfl⟩⟩
  | [], _ :: _, h => h.elim
  | _ :: _, [], h => h.elim
  | e :: r, (k, v) :: s, ⟨⟨t, hk⟩, hv, h⟩ => by
    obtain ⟨h1, h2⟩ := keys_find (z := z) h
    refine ⟨?_, ?_⟩
    · rw [List.any_cons, h1, Bool.or_false]
      show DictEntry.refKey e = false
      unfold DictEntry.refKey
      rw [hk] <;> rfl
    · rw [List.find?_cons]
      have e1 : (e.key.isStr z) = decide (k = z) := by
        rw [hk, PySem.W.isStr_of]
        show (k == z) = decide (k = z)
        exact Bool.beq_eq_decide_eq k z
      show (∃ v' e', (if k = z then some v else seek z s) = some v' ∧ _) ∨ ((if k = z then some v else seek z s) = none ∧ _)
      by_cases c : k = z
      · rw [if_pos c, e1, decide_eq_true c]
        exact .inl ⟨v, e, rfl, rfl, hv⟩
      · rw [if_neg c, e1, decide_eq_false c]
        exact h2
theorem ns_seek {d : Addr} {es : Array DictEntry} {n : Nat} {ks : List (Str × V)} (hl : K.lookup d = some ⟨.type "dict", none, .dict es n, #[]⟩) (hk : keysAre es.toList ks) (z : Str) :
    (∃ v u, seek z ks = some v ∧ PySem.W.nsIn K d z = some (some u) ∧ RelV v u) ∨ (seek z ks = none ∧ PySem.W.nsIn K d z = some none) := by
  obtain ⟨h1, h2⟩ := keys_find (z := z) hk
  unfold PySem.W.nsIn
  rw [hl]
  dsimp only
  rcases h2 with ⟨v, e, e1, e2, r⟩ | ⟨e1, e2⟩
  · rw [e2]
    exact .inl ⟨v, e.val, e1, rfl, r⟩
  · rw [e2]
    dsimp only
    rw [h1]
    exact .inr ⟨e1, rfl⟩
theorem ixS_any {zs : Str} {j : Int} (hz : zs.length ≤ sizeLine) (h0 : 0 ≤ j) (h1 : j < zs.length) (q : ∀ c, Q (.str ⟨#[c]⟩) H) : rIxS (.str zs) (.int j) H Q := by
  have h2 : j.toNat < zs.cps.toList.length := by
    rw [Array.length_toList]
    show j.toNat < zs.length
    omega
  obtain ⟨c, hc⟩ : ∃ c, zs.cps.toList[j.toNat]? = some c := ⟨_, List.getElem?_eq_getElem h2⟩
  have e : ((j.toNat : Nat) : Int) = j := by omega
  have hc2 := atI_nat hc
  rw [e] at hc2
  exact ⟨zs, j, c, rfl, rfl, hz, hc2, q c⟩
theorem tyvL {p : Addr} {xs : List V} (h : H p = some (.lst xs)) : tyV K "list" (.ref p) H := .inl ⟨rfl, _, SqL.of h⟩
theorem app_ {p : Addr} {xs : List V} {y : V} (h : H p = some (.lst xs)) (hl : xs.length < sizeLine) (q : Q .non (upd H p (.lst (xs ++ [y])))) : rAppend (.ref p) [y] H Q := ⟨p, xs, y, rfl, rfl, h, hl, q⟩
theorem rev_ {p : Addr} {xs : List V} (h : H p = some (.lst xs)) (q : Q .non (upd H p (.lst xs.reverse))) : rReverse (.ref p) [] H Q := ⟨p, xs, rfl, rfl, h, q⟩
theorem slL {p : Addr} {xs : List V} {lo hi : Option Int} (h : SqL K H p xs) (q : ∀ p, H p = none → Q (.ref p) (upd H p (.lst (cutV xs lo hi)))) : rSlL K (.ref p) lo hi H Q := ⟨p, xs, rfl, h, q⟩
theorem cat_ {l b : Addr} {xs zs : List V} (h : H l = some (.lst xs)) (h2 : H b = some (.lst zs)) (hl : xs.length + zs.length ≤ sizeLine) (q : ∀ p, H p = none → Q (.ref p) (upd H p (.lst (xs ++ zs)))) : rCat (.ref l) (.ref b) H Q :=
  ⟨l, b, xs, zs, rfl, rfl, h, h2, hl, q⟩
theorem un65 {k : Nat} {A : Around} (r : Room k A) : A.units + 65 < cLine := by have := r.un; omega
theorem eqD {x y : V} {d : PyData} (h1 : Dp K H x d) (h2 : Dp K H y d) (s : SeqAt.shaped d = true) (e : PyData.eqv d d = true) (q : Q (.bl true) H) : rEqD K x y H Q := ⟨d, d, h1, h2, s, s, by rw [e]; exact q⟩
theorem neD {x y : V} {d : PyData} (h1 : Dp K H x d) (h2 : Dp K H y d) (s : SeqAt.shaped d = true) (e : PyData.eqv d d = true) (q : Q (.bl false) H) : rNeD K x y H Q := ⟨d, d, h1, h2, s, s, by rw [e]; exact q⟩
theorem cut_take {xs : List V} {n : Nat} : cutV xs none (some (n : Int)) = xs.take n := by
  unfold cutV
  rw [show HT.sIx xs.length 0 none = 0 from HT.sIx_none .., show HT.sIx xs.length xs.length (some (n : Int)) = min n xs.length from HT.sIx_nat ..]
  show (xs.drop 0).take (min n xs.length - 0) = xs.take n
  rw [List.drop_zero, Nat.sub_zero]
  by_cases h : n ≤ xs.length
  · rw [Nat.min_eq_left h]
  · rw [Nat.min_eq_right (by omega), List.take_of_length_le (Nat.le_refl _), List.take_of_length_le (by omega)]
theorem dput {td tk tv : TE} (h : tv σ H fun v H1 => td σ H1 fun x H2 => tk σ H2 fun y H3 => ∃ a H', x = .ref a ∧ DPut H3 a y v H' ∧ D.nx σ H') : sDPut td tk tv D σ H := h
theorem cut (Mid : L2.St → Hp → Prop) (h1 : t { D with nx := Mid } σ H) (h2 : ∀ σ' H', Mid σ' H' → u D σ' H') : C8.tCut t u D σ H := ⟨Mid, h1, h2⟩
theorem len_take {xs : List V} {n m : Nat} (h : n ≤ m) : (xs.take n).length ≤ m := Nat.le_trans (List.length_take_le _ _) h
/-! ### loops -/
/-- the loop over J -/
def Loop (J : It) (g : TG) (tb : TS) (D : Ends) (σ : L2.St) (H : Hp) : Prop := ∃ W : Nat → Nat → L2.St → Hp → Prop, (∃ m, W 0 m σ H) ∧ ∀ i m σ H, W i m σ H →
  (J.stop i H ∧ D.nx σ H) ∨ (J.go i H ∧ ∃ N : L2.St → Hp → Prop, (∀ σ' H', N σ' H' → ∃ m', m' < m ∧ W (i + 1) m' σ' H') ∧ ∀ x H', J.yld i H x H' → g x σ H' fun σ2 H2 => tb { D with nx := N, ct := N, bk := D.nx } σ2 H2)
theorem forR1 {ta : TA} {g : TG} {tb : TS} (h : ta σ H fun vs H1 => ∃ j : Int, vs = [.int j] ∧ -(2 ^ 62) ≤ j ∧ j < 2 ^ 62 ∧ Loop (Itr 0 j.toNat) g tb D σ H1) : tFor (iRng1 ta) g tb D σ H := h
theorem forR2 {ta : TA} {g : TG} {tb : TS} (h : ta σ H fun vs H1 => ∃ i j : Int, vs = [.int i, .int j] ∧ (-(2 ^ 62) ≤ i ∧ i < 2 ^ 62 ∧ -(2 ^ 62) ≤ j ∧ j < 2 ^ 62) ∧ Loop (Itr i (j - i).toNat) g tb D σ H1) : tFor (iRng2 ta) g tb D σ H := h
theorem forL {g : TG} {tb : TS} (h : te σ H fun x H1 => ∃ a, x = .ref a ∧ (∃ xs, SqL K H1 a xs) ∧ Loop (Itl K a) g tb D σ H1) : tFor (iList K te) g tb D σ H := h
theorem forT {g : TG} {tb : TS} (h : te σ H fun x H1 => ∃ a, x = .ref a ∧ (∃ xs, SqT K H1 a xs) ∧ Loop (Itt K a) g tb D σ H1) : tFor (iTup K te) g tb D σ H := h
theorem loopR {lo : Int} {n : Nat} {g : TG} {tb : TS} (Pv : Nat → L2.St → Hp → Prop) (h0 : Pv 0 σ H)
    (hs : ∀ i σ H, i < n → Pv i σ H → g (.int (lo + i)) σ H fun σ2 H2 => tb { D with nx := Pv (i + 1), ct := Pv (i + 1), bk := D.nx } σ2 H2) (hd : ∀ σ H, Pv n σ H → D.nx σ H) : Loop (Itr lo n) g tb D σ H := for_range Pv h0 hs hd
theorem loopL {g : TG} {tb : TS} {xs : List V} (Pv : Nat → L2.St → Hp → Prop) (h0 : Pv 0 σ H) (hl : ∀ i σ H, i ≤ xs.length → Pv i σ H → SqL K H a xs)
    (hs : ∀ i x σ H, xs[i]? = some x → Pv i σ H → g x σ H fun σ2 H2 => tb { D with nx := Pv (i + 1), ct := Pv (i + 1), bk := D.nx } σ2 H2) (hd : ∀ σ H, Pv xs.length σ H → D.nx σ H) : Loop (Itl K a) g tb D σ H := for_list Pv h0 hl hs hd
/-! ### comprehensions, whiles -/
def LoopC (J : It) (g : TG) (tt : TT) (te : TE) (vs : List Nat) (σ : L2.St) (D : Addr) (Qd : Hp → Prop) (H0 : Hp) : Prop := ∃ W : Nat → Nat → Hp → Prop, (∃ m, W 0 m H0) ∧ ∀ i m H, W i m H →
  (J.stop i H ∧ Qd H) ∨ (J.go i H ∧ ∃ Nx : Hp → Prop, (∀ H', Nx H' → ∃ m', m' < m ∧ W (i + 1) m' H') ∧ ∀ x H', J.yld i H x H' → g x (wipe σ vs) H' fun σ2 H2 => wipe σ2 vs = wipe σ vs ∧ tt σ2 H2 fun b H3 =>
    if b = true then te σ2 H3 fun y H4 => ∃ acc, H4 D = some (.lst acc) ∧ acc.length < sizeLine ∧ Nx (upd H4 D (.lst (acc ++ [y]))) else Nx H3)
theorem lcR1 {ta : TA} {g : TG} {tt : TT} {vs : List Nat} (h : ta σ H fun us H1 => ∃ j : Int, us = [.int j] ∧ -(2 ^ 62) ≤ j ∧ j < 2 ^ 62 ∧ ∀ D, H1 D = none → LoopC (Itr 0 j.toNat) g tt te vs σ D (fun H => Q (.ref D) H) (upd H1 D (.lst []))) : tLc (iRng1 ta) g tt te vs σ H Q := h
theorem lcR2 {ta : TA} {g : TG} {tt : TT} {vs : List Nat} (h : ta σ H fun us H1 => ∃ i j : Int, us = [.int i, .int j] ∧ (-(2 ^ 62) ≤ i ∧ i < 2 ^ 62 ∧ -(2 ^ 62) ≤ j ∧ j < 2 ^ 62) ∧ ∀ D, H1 D = none → LoopC (Itr i (j - i).toNat) g tt te vs σ D (fun H => Q (.ref D) H) (upd H1 D (.lst []))) : tLc (iRng2 ta) g tt te vs σ H Q := h
theorem lcL {g : TG} {tt : TT} {vs : List Nat} (h : ta σ H fun x H1 => ∃ a, x = .ref a ∧ (∃ xs, SqL K H1 a xs) ∧ ∀ D, H1 D = none → LoopC (Itl K a) g tt te vs σ D (fun H => Q (.ref D) H) (upd H1 D (.lst []))) : tLc (iList K ta) g tt te vs σ H Q := h
theorem loopCR {lo : Int} {n : Nat} {g : TG} {tt : TT} {vs : List Nat} {D : Addr} {Qd : Hp → Prop} (Pv : Nat → Hp → Prop) (h0 : Pv 0 H)
    (hs : ∀ i H, i < n → Pv i H → g (.int (lo + i)) (wipe σ vs) H fun σ2 H2 => wipe σ2 vs = wipe σ vs ∧ tt σ2 H2 fun b H3 =>
      if b = true then te σ2 H3 fun y H4 => ∃ acc, H4 D = some (.lst acc) ∧ acc.length < sizeLine ∧ Pv (i + 1) (upd H4 D (.lst (acc ++ [y]))) else Pv (i + 1) H3) (hd : ∀ H, Pv n H → Qd H) : LoopC (Itr lo n) g tt te vs σ D Qd H := by
  refine ⟨fun i m H => m = n - i ∧ i ≤ n ∧ Pv i H, ⟨n, by simp, Nat.zero_le _, h0⟩, ?_⟩
  rintro i m H ⟨rfl, hi, p⟩
  by_cases hlt : i < n
  · refine .inr ⟨hlt, Pv (i + 1), fun H' p' => ⟨n - (i + 1), by omega, rfl, hlt, p'⟩, fun x H' y => ?_⟩
    obtain ⟨e, y⟩ := y
    subst e y
    exact hs i _ hlt p
  · have e : i = n := by omega
    subst e
    exact .inl ⟨Nat.le_refl _, hd H p⟩
theorem loopCL {a : Addr} {xs : List V} {g : TG} {tt : TT} {vs : List Nat} {D : Addr} {Qd : Hp → Prop} (Pv : Nat → Hp → Prop) (h0 : Pv 0 H) (hl : ∀ i H, i ≤ xs.length → Pv i H → SqL K H a xs)
    (hs : ∀ i x H, xs[i]? = some x → Pv i H → g x (wipe σ vs) H fun σ2 H2 => wipe σ2 vs = wipe σ vs ∧ tt σ2 H2 fun b H3 =>
      if b = true then te σ2 H3 fun y H4 => ∃ acc, H4 D = some (.lst acc) ∧ acc.length < sizeLine ∧ Pv (i + 1) (upd H4 D (.lst (acc ++ [y]))) else Pv (i + 1) H3) (hd : ∀ H, Pv xs.length H → Qd H) : LoopC (Itl K a) g tt te vs σ D Qd H := by
  refine ⟨fun i m H => m = xs.length - i ∧ i ≤ xs.length ∧ Pv i H, ⟨xs.length, by simp, Nat.zero_le _, h0⟩, ?_⟩
  rintro i m H ⟨rfl, hi, p⟩
  have q := hl i H hi p
  by_cases hlt : i < xs.length
  · refine .inr ⟨⟨xs, xs[i], q, by simp [hlt]⟩, Pv (i + 1), fun H' p' => ⟨xs.length - (i + 1), by omega, rfl, hlt, p'⟩, fun x H' y => ?_⟩
    obtain ⟨e, y⟩ := y
    subst e
    exact hs i x _ (y xs q) p
  · have e : i = xs.length := by omega
    subst e
    exact .inl ⟨⟨xs, q, Nat.le_refl _⟩, hd H p⟩
theorem yes {R : Bool → Hp → Prop} (h : R true H) : tYes σ H R := h
theorem whileW (M : Nat → L2.St → Hp → Prop) (m0 : Nat) (h0 : M m0 σ H)
    (hs : ∀ m σ H, M m σ H → c σ H fun b H1 => if b = true then (∃ N : L2.St → Hp → Prop, (∀ σ' H', N σ' H' → ∃ m', m' < m ∧ M m' σ' H') ∧ t { D with nx := N, ct := N, bk := D.nx } σ H1) else D.nx σ H1) : tWhile c t D σ H := by
  refine ⟨M, ⟨m0, h0⟩, fun m σ H h => ?_⟩
  have h2 := hs m σ H h
  exact h2
theorem dinI {ty td : TE} (h : ty σ H fun y H1 => td σ H1 fun x H2 => ∃ a o, x = .ref a ∧ DGet H2 a y o ∧ Q (.bl o.isSome) H2) : tDIn ty td σ H Q := h
theorem dninI {ty td : TE} (h : ty σ H fun y H1 => td σ H1 fun x H2 => ∃ a o, x = .ref a ∧ DGet H2 a y o ∧ Q (.bl (!o.isSome)) H2) : tDNotIn ty td σ H Q := h
theorem dget {ty td : TE} (h : td σ H fun x H1 => ty σ H1 fun y H2 => ∃ a v, x = .ref a ∧ DGet H2 a y (some v) ∧ Q v H2) : tDGet td ty σ H Q := h
/-- len and list of a sequence, by names -/
def rLenS (K : PySem.W.Frag) : List V → Hp → VK → Prop := fun xs H Q => ∃ p ys, xs = [.ref p] ∧ (SqL K H p ys ∨ SqT K H p ys) ∧ Q (.int ys.length) H
theorem call_lenS {X : Cx} : CallR X (.builtin "len") (rLenS X.K) := call_len_seq
def rListS (K : PySem.W.Frag) : List V → Hp → VK → Prop := fun xs H Q => ∃ p ys, xs = [.ref p] ∧ (SqL K H p ys ∨ SqT K H p ys) ∧ ∀ l, H l = none → Q (.ref l) (upd H l (.lst ys))
theorem call_listS {X : Cx} : CallR X (.type "list") (rListS X.K) := call_list_of
theorem lenS_ {p : Addr} {ys : List V} (h : SqL K H p ys) (q : Q (.int ys.length) H) : rLenS K [.ref p] H Q := ⟨p, ys, rfl, .inl h, q⟩
theorem listS_ {p : Addr} {ys : List V} (h : SqL K H p ys) (q : ∀ l, H l = none → Q (.ref l) (upd H l (.lst ys))) : rListS K [.ref p] H Q := ⟨p, ys, rfl, .inl h, q⟩
theorem chain {r r' : R2} (h : ta σ H fun x H1 => tb σ H1 fun y H2 => r x y H2 fun z H3 => ∃ k, z = .bl k ∧ (if k = true then tc σ H3 fun w' H4 => r' y w' H4 Q else Q (.bl false) H3)) : tChain r r' ta tb tc σ H Q := h
/-- a comprehension of two clauses, the first one's loop -/
def LoopC2 (J : It) (g : TG) (tt : TT) (wi1 : TI) (g1 : TG) (tt1 : TT) (te : TE) (vs vs1 : List Nat) (σ : L2.St) (D : Addr) (Qd : Hp → Prop) (H0 : Hp) : Prop := ∃ W : Nat → Nat → Hp → Prop, (∃ m, W 0 m H0) ∧ ∀ i m H, W i m H →
  (J.stop i H ∧ Qd H) ∨ (J.go i H ∧ ∃ Nx : Hp → Prop, (∀ H', Nx H' → ∃ m', m' < m ∧ W (i + 1) m' H') ∧ ∀ x H', J.yld i H x H' → g x (wipe σ vs) H' fun σ2 H2 => wipe σ2 vs = wipe σ vs ∧ tt σ2 H2 fun b H3 =>
    if b = true then wi1 σ2 H3 (fun J1 H4 => LoopC J1 g1 tt1 te vs1 σ2 D Nx H4) else Nx H3)
theorem lc2V {K : PySem.W.Frag} {ts : TA} {wi1 : TI} {g g1 : TG} {tt tt1 : TT} {vs vs1 : List Nat} (h : ts σ H fun us H1 => ∃ (a : Addr) (xs : List V), us = [.ref a] ∧ SqL K H1 a xs ∧ ∀ D, H1 D = none → LoopC2 (Itv K a xs.length) g tt wi1 g1 tt1 te vs vs1 σ D (fun H => Q (.ref D) H) (upd H1 D (.lst []))) :
    tLc2 (iRev K ts) g tt wi1 g1 tt1 te vs vs1 σ H Q := h
theorem loopC2V {a : Addr} {xs : List V} {wi1 : TI} {g g1 : TG} {tt tt1 : TT} {vs vs1 : List Nat} {D : Addr} {Qd : Hp → Prop} (Pv : Nat → Hp → Prop) (h0 : Pv 0 H) (hl : ∀ i H, Pv i H → SqL K H a xs)
    (hs : ∀ i x H, i < xs.length → xs[xs.length - 1 - i]? = some x → Pv i H → g x (wipe σ vs) H fun σ2 H2 => wipe σ2 vs = wipe σ vs ∧ tt σ2 H2 fun b H3 =>
      if b = true then wi1 σ2 H3 (fun J1 H4 => LoopC J1 g1 tt1 te vs1 σ2 D (Pv (i + 1)) H4) else Pv (i + 1) H3) (hd : ∀ H, Pv xs.length H → Qd H) : LoopC2 (Itv K a xs.length) g tt wi1 g1 tt1 te vs vs1 σ D Qd H := by
  refine ⟨fun i m H => m = xs.length - i ∧ i ≤ xs.length ∧ Pv i H, ⟨xs.length, by simp, Nat.zero_le _, h0⟩, ?_⟩
  rintro i m H ⟨rfl, hi, p⟩
  by_cases hlt : i < xs.length
  · have hx : xs.length - 1 - i < xs.length := by omega
    refine .inr ⟨⟨hlt, xs, xs[xs.length - 1 - i], hl i H p, List.getElem?_eq_getElem hx⟩, Pv (i + 1), fun H' p' => ⟨xs.length - (i + 1), by omega, rfl, hlt, p'⟩, fun x H' y => ?_⟩
    obtain ⟨e, y⟩ := y
    subst e
    exact hs i x _ hlt (y xs (hl i _ p)) p
  · have e : i = xs.length := by omega
    subst e
    exact .inl ⟨Nat.le_refl _, hd H p⟩
theorem piL {R : It → Hp → Prop} (h : ta σ H fun x H1 => ∃ a, x = .ref a ∧ (∃ xs, SqL K H1 a xs) ∧ R (Itl K a) H1) : iList K ta σ H R := h
/-! ### kinds -/
/-- a value's built-in type, of what is known of it -/
inductive Kind (H : Hp) : V → String → Prop where
  | non : Kind H .non "NoneType"
  | bl (b : Bool) : Kind H (.bl b) "bool"
  | int (i : Int) : Kind H (.int i) "int"
  | str (x : Str) : Kind H (.str x) "str"
  | lst {a : Addr} {xs : List V} (h : H a = some (.lst xs)) : Kind H (.ref a) "list"
  | tup {a : Addr} {xs : List V} (h : H a = some (.tup xs)) : Kind H (.ref a) "tuple"
  | dK {a : Addr} {kvs : List (Key × V)} (h : H a = some (.dK kvs)) : Kind H (.ref a) "dict"
theorem Kind.tyB {T : String} (k : Kind H x T) : TyB K H x T := by
  cases k with
  | non => exact .non
  | bl b => exact .bl b
  | int i => exact .int i
  | str s => exact .str s
  | lst h => exact .lst (SqL.of h)
  | tup h => exact .tup (SqT.of h)
  | dK h => exact .dK h
theorem Kind.tyX {T : String} (k : Kind H x T) : TyX K H x (.type T) := by
  cases k with
  | non => exact .base .non
  | bl b => exact .base (.bl b)
  | int i => exact .base (.int i)
  | str s => exact .base (.str s)
  | lst h => exact .base (.lst h)
  | tup h => exact .base (.tup h)
  | dK h => exact .base (.dK h)
def isB (T C : String) : Bool := decide (T = C) || (decide (T = "bool") && decide (C = "int"))
theorem isB_eq {T C : String} (h : C ≠ "int") : isB T C = decide (T = C) := by
  unfold isB
  rw [decide_eq_false h, Bool.and_false, Bool.or_false]
theorem Kind.kit {T : String} (k : Kind H x T) {C : String} (hC : C = "int" ∨ C = "bool" ∨ C = "str" ∨ C = "tuple" ∨ C = "list") : PySem.W.kitOne K (.type T) (.type C) = some (isB T C) := by
  rcases hC with rfl | rfl | rfl | rfl | rfl <;> cases k <;> exact kit_ty (by decide +kernel)
theorem isi {T C : String} (k : Kind H x T) (hC : C = "int" ∨ C = "bool" ∨ C = "str" ∨ C = "tuple" ∨ C = "list") (q : Q (.bl (isB T C)) H) : rIsi K [x, .ty C] H Q :=
  ⟨x, .ty C, _, _, _, rfl, .ty C, k.tyX, k.kit hC, q⟩
theorem typ {T : String} (k : Kind H x T) (q : Q (.ty T) H) : rTyp K [x] H Q := ⟨x, T, rfl, k.tyB, q⟩
theorem rNT_ {s1 s2 : String} (q : Q (.bl (!decide (s1 = s2))) H) : rNT (.ty s1) (.ty s2) H Q := ⟨s1, s2, rfl, rfl, q⟩
/-! ### heaps -/
theorem Kp.same (h : H b = none) (k : Kp b H H1) : Same H H1 := fun a o e => k a o (ne_of_none e h) e
theorem Kp.updNew {o : HO} (k : Kp b H H1) (h : H p = none) : Kp b H (upd H1 p o) := fun a u n e => by rw [upd_ne (ne_of_none e h)]; exact k a u n e
theorem Same.kp (k : Same H H1) : Kp b H H1 := fun a o _ e => k a o e
theorem same_new {o : HO} (h : H p = none) : Same H (upd H p o) := fun a u e => by rw [upd_ne (ne_of_none e h)]; exact e
theorem Kp.kind {T : String} {bs : List V} (k : Kp b H H1) (hb : H b = some (.lst bs)) (q : Kind H x T) (n : x ≠ .ref b) : Kind H1 x T := by
  cases q with
  | non => exact .non
  | bl b => exact .bl b
  | int i => exact .int i
  | str s => exact .str s
  | lst h => exact .lst (k _ _ (fun e => n (by rw [e])) h)
  | tup h => exact .tup (k _ _ (fun e => n (by rw [e])) h)
  | dK h => exact .dK (k _ _ (fun e => n (by rw [e])) h)
theorem Same.kind {T : String} (k : Same H H1) (q : Kind H x T) : Kind H1 x T := by
  cases q with
  | non => exact .non
  | bl b => exact .bl b
  | int i => exact .int i
  | str s => exact .str s
  | lst h => exact .lst (k _ _ h)
  | tup h => exact .tup (k _ _ h)
  | dK h => exact .dK (k _ _ h)
theorem atI_of {α : Type} {xs : List α} {x : α} {j : Int} {n : Nat} (e : j = n) (h : xs[n]? = some x) : atI xs j = some x := by rw [e]; exact atI_nat h
end
end Wp

/-! Worths and piles as data: (text, int), lists of such; what is kept of them. -/
namespace Wq
open PySem PySem.Spec PyProof.Rows L2 Wp
abbrev W := Str × Int
def wD (w : W) : PyData := .tuple [.str w.1, .int w.2]
def IsW (H : Hp) (v : V) (w : W) : Prop := ∃ t, v = .ref t ∧ H t = some (.tup [.str w.1, .int w.2])
def Pile (H : Hp) (vs : List V) (ws : List W) : Prop := Paired (IsW H) vs ws
/-- the tuples stay -/
def Tk (H H' : Hp) : Prop := ∀ t xs, H t = some (.tup xs) → H' t = some (.tup xs)
section
variable {H H1 H2 : Hp} {a b p : Addr} {v x y : V} {w : W} {vs us : List V} {ws zs : List W} {K : PySem.W.Frag}
theorem Tk.refl : Tk H H := fun _ _ h => h
theorem Tk.trans (h : Tk H H1) (k : Tk H1 H2) : Tk H H2 := fun t xs e => k t xs (h t xs e)
theorem Same.tk (s : Same H H1) : Tk H H1 := fun t xs e => s t _ e
theorem Kp.tk {bs : List V} (k : Kp b H H1) (h : H b = some (.lst bs)) : Tk H H1 := fun t xs e => k t _ (ne_of e h (by intro q; cases q)) e
theorem Tk.lst {o : HO} {bs : List V} (h : H b = some (.lst bs)) : Tk H (upd H b o) := fun t xs e => by rw [upd_ne (ne_of e h (by intro q; cases q))]; exact e
theorem Tk.dT {o : HO} {bs : List (List Key × V)} (h : H b = some (.dT bs)) : Tk H (upd H b o) := fun t xs e => by rw [upd_ne (ne_of e h (by intro q; cases q))]; exact e
theorem Tk.dK {o : HO} {bs : List (Key × V)} (h : H b = some (.dK bs)) : Tk H (upd H b o) := fun t xs e => by rw [upd_ne (ne_of e h (by intro q; cases q))]; exact e
theorem Tk.new {o : HO} (h : H p = none) : Tk H (upd H p o) := fun t xs e => by rw [upd_ne (ne_of_none e h)]; exact e
theorem IsW.keep (h : IsW H v w) (k : Tk H H1) : IsW H1 v w := by
  obtain ⟨t, e, h⟩ := h
  exact ⟨t, e, k _ _ h⟩
theorem Pile.keep (h : Pile H vs ws) (k : Tk H H1) : Pile H1 vs ws := Paired.mapP h fun _ _ q => q.keep k
theorem Pile.len (h : Pile H vs ws) : vs.length = ws.length := Paired.length h
theorem Pile.nil : Pile H [] [] := Paired.nil
theorem Pile.app (h : Pile H vs ws) (k : Pile H us zs) : Pile H (vs ++ us) (ws ++ zs) := by
  unfold Pile at *
  induction h with
  | nil => exact k
  | cons r t ih => exact .cons r ih
theorem Pile.one (h : IsW H v w) : Pile H [v] [w] := Paired.cons h Paired.nil
theorem Pile.take (h : Pile H vs ws) : ∀ n, Pile H (vs.take n) (ws.take n) := by
  unfold Pile at *
  induction h with
  | nil => intro n; cases n <;> exact .nil
  | cons r t ih => intro n; cases n with
    | zero => exact .nil
    | succ n => exact .cons r (ih n)
theorem Pile.drop (h : Pile H vs ws) : ∀ n, Pile H (vs.drop n) (ws.drop n) := by
  unfold Pile at *
  induction h with
  | nil => intro n; cases n <;> exact .nil
  | cons r t ih => intro n; cases n with
    | zero => exact .cons r t
    | succ n => exact ih n
theorem Pile.rev (h : Pile H vs ws) : Pile H vs.reverse ws.reverse := by
  unfold Pile at *
  induction h with
  | nil => exact .nil
  | cons r t ih =>
    rw [List.reverse_cons, List.reverse_cons]
    exact Pile.app ih (Pile.one r)
theorem Pile.get (h : Pile H vs ws) : ∀ {i : Nat}, vs[i]? = some v → ∃ w, ws[i]? = some w ∧ IsW H v w := by
  unfold Pile at h
  induction h with
  | nil => intro i e; cases i <;> cases e
  | cons r t ih => intro i e; cases i with
    | zero => cases e; exact ⟨_, rfl, r⟩
    | succ n => exact ih e
theorem Pile.at (h : Pile H vs ws) {i : Nat} (hi : i < ws.length) : ∃ v w, vs[i]? = some v ∧ ws[i]? = some w ∧ IsW H v w := by
  have h2 : i < vs.length := by rw [h.len]; exact hi
  obtain ⟨w, hw, q⟩ := h.get (List.getElem?_eq_getElem h2)
  exact ⟨_, w, List.getElem?_eq_getElem h2, hw, q⟩
/-! ### as data -/
theorem IsW.dp (h : IsW H v w) : Dp K H v (wD w) := by
  obtain ⟨t, rfl, h⟩ := h
  exact .tup (SqT.of h) (.cons (.str _) (.cons (.int _) .nil))
theorem Pile.dpAll (h : Pile H vs ws) : DpAll K H vs (ws.map wD) := by
  unfold Pile at h
  induction h with
  | nil => exact .nil
  | cons r t ih => exact .cons r.dp ih
theorem Pile.dp (h : Pile H vs ws) (e : SqL K H a vs) : Dp K H (.ref a) (.list (ws.map wD)) := .lst e h.dpAll
/-- texts as worths have them -/
def Wok (w : W) : Prop := PyData.strOk w.1 = true
theorem wD_lay (h : Wok w) : (wD w).canLay0 = true := by
  unfold wD
  simp only [PyData.canLay0, PyData.canLayAll0]
  rw [show PyData.strOk w.1 = true from h]
  rfl
theorem wD_depth : (wD w).depth = 1 := by simp [wD, PyData.depth, PyData.depthAll]
theorem wDs_lay : ∀ ws : List W, (∀ w ∈ ws, Wok w) → PyData.canLayAll0 (ws.map wD) = true
  | [], _ => by simp [PyData.canLayAll0]
  | w :: ws, h => by
    rw [List.map_cons]
    simp only [PyData.canLayAll0]
    rw [wD_lay (h w List.mem_cons_self), wDs_lay ws (fun x hx => h x (List.mem_cons_of_mem _ hx))] <;> rfl
theorem wDs_depth : ∀ ws : List W, PyData.depthAll (ws.map wD) ≤ 1
  | [] => by simp [PyData.depthAll]
  | w :: ws => by
    have h := wDs_depth ws
    rw [List.map_cons]
    simp only [PyData.depthAll]
    rw [wD_depth]
    omega
theorem wD_shaped (h : Wok w) : SeqAt.shaped (wD w) = true := by
  unfold SeqAt.shaped
  rw [wD_lay h, wD_depth] <;> rfl
theorem wDs_shaped (h : ∀ w ∈ ws, Wok w) : SeqAt.shaped (.list (ws.map wD)) = true := by
  have h2 := wDs_depth ws
  have h3 : (PyData.list (ws.map wD)).depth ≤ 64 := by
    simp only [PyData.depth]
    omega
  show (PyData.canLay0 (.list (ws.map wD)) && decide ((PyData.list (ws.map wD)).depth ≤ 64)) = true
  rw [decide_eq_true h3, Bool.and_true]
  simp only [PyData.canLay0]
  exact wDs_lay ws h
theorem wD_eqv (w z : W) : PyData.eqv (wD w) (wD z) = decide (w = z) := by
  unfold wD
  simp only [PyData.eqv, PyData.eqvAll, Bool.and_true]
  obtain ⟨s, n⟩ := w
  obtain ⟨t, m⟩ := z
  rw [Bool.beq_eq_decide_eq, Bool.beq_eq_decide_eq]
  by_cases e1 : s = t
  · by_cases e2 : n = m
    · subst e1 e2; simp
    · simp [e1, e2]
  · simp [e1]
theorem any_wD (w : W) : ∀ ws : List W, ((ws.map wD).any fun z => PyData.eqv z (wD w)) = decide (w ∈ ws)
  | [] => rfl
  | z :: ws => by
    rw [List.map_cons, List.any_cons, any_wD w ws, wD_eqv]
    by_cases e : z = w
    · subst e; simp
    · rw [decide_eq_false e, Bool.false_or]
      exact decide_eq_decide.mpr ⟨fun h => List.mem_cons_of_mem _ h, fun h => (List.mem_cons.mp h).elim (fun q => absurd q.symm e) id⟩
theorem eq_self {d : PyData} (h : SeqAt.shaped d = true) : PyData.eqv d d = true := by
  refine PySem.SeqAt.eqv_refl d ?_
  have h2 : (d.canLay0 && decide (d.depth ≤ 64)) = true := h
  rw [Bool.and_eq_true] at h2
  exact h2.1
end
end Wq

/-! Papers as data; what is kept of lists; xs[i] op= e. -/
namespace Wr
open PySem PySem.Spec PyProof.Rows L2 Wp Wq
section
variable {X : Cx}
/-- xs[i], read by values, 0 ≤ i -/
def gIx (K : PySem.W.Frag) : V → V → Hp → VK → Prop := fun x y H Q => ∃ p xs, ∃ i : Nat, ∃ v, x = .ref p ∧ y = .int i ∧ SqL K H p xs ∧ xs[i]? = some v ∧ Q v H
theorem get_list : PGet X (gIx X.K) := by
  intro pins s σ H x y v u Q I rx ry h
  obtain ⟨p, xs, i, z, rfl, rfl, hq, he, q⟩ := h
  cases rx
  obtain ⟨t, rfl⟩ := ry
  obtain ⟨its, r, pl, hz⟩ := I.list hq
  obtain ⟨w, ew, rw'⟩ := r.get he
  have hl := r.length
  have hn := line63
  have hi : i < xs.length := (List.getElem?_eq_some_iff.mp he).1
  exact wpAny_getItem_list pl.isList (by omega) (by omega) (by simpa using ew) ⟨z, H, I, rw', q⟩
end
section
variable {σ : L2.St} {H : Hp} {D : Ends} {to ti te : TE} {K : PySem.W.Frag}
theorem augS {tget : V → V → Hp → VK → Prop} {tip : TIp} {tset : TSet} (h : to σ H fun o H1 => ti σ H1 fun i H2 => tget o i H2 fun x H3 => te σ H3 fun y H4 => tip x y H4 fun z H5 => tset o i z H5 fun H6 => D.nx σ H6) : tAugS to ti te tget tip tset D σ H := h
theorem gix {p : Addr} {xs : List V} {i : Nat} {v : V} {Q : VK} (h : SqL K H p xs) (e : xs[i]? = some v) (q : Q v H) : gIx K (.ref p) (.int i) H Q := ⟨p, xs, i, v, rfl, rfl, h, e, q⟩
theorem ipi {f : Int → Int → Int} {a b : Int} {Q : VK} (q : Q (.int (f a b)) H) : ipI f (.int a) (.int b) H Q := ⟨a, b, rfl, rfl, q⟩
end
/-! ### what is kept -/
/-- all but the objects of S is kept, the tuples too -/
structure Ks (S : List Addr) (H H' : Hp) : Prop where
  keep : ∀ a o, a ∉ S → H a = some o → H' a = some o
  tk : Tk H H'
section
variable {S S' : List Addr} {H H1 H2 : Hp} {a b p : Addr} {v : V} {vs : List V} {ws : List W} {K : PySem.W.Frag}
theorem Ks.refl : Ks S H H := ⟨fun _ _ _ h => h, fun _ _ h => h⟩
theorem Ks.trans (x : Ks S H H1) (y : Ks S H1 H2) : Ks S H H2 := ⟨fun a o n h => y.keep a o n (x.keep a o n h), x.tk.trans y.tk⟩
theorem Ks.same (x : Same H H1) : Ks S H H1 := ⟨fun a o _ h => x a o h, Same.tk x⟩
theorem Ks.mono (x : Ks S H H1) (h : ∀ a ∈ S, a ∈ S') : Ks S' H H1 := ⟨fun a o n e => x.keep a o (fun q => n (h a q)) e, x.tk⟩
theorem Ks.kp {bs : List V} (k : Kp b H H1) (h : H b = some (.lst bs)) (m : b ∈ S) : Ks S H H1 := ⟨fun a o n e => k a o (fun q => n (q ▸ m)) e, Kp.tk k h⟩
theorem Ks.upd {bs : List V} {o : HO} (h : H b = some (.lst bs)) (m : b ∈ S) : Ks S H (upd H b o) := ⟨fun a u n e => by rw [upd_ne (fun q : a = b => n (by rw [q]; exact m))]; exact e, Tk.lst h⟩
theorem Ks.new {o : HO} (h : H p = none) : Ks S H (L2.upd H p o) := Ks.same (same_new h)
/-- what is new to H is not looked at -/
theorem Ks.toSame (x : Ks S H1 H2) (s : Same H H1) (n : ∀ a ∈ S, H a = none) : Same H H2 := fun a o e => x.keep a o (fun q => by rw [n a q] at e; cases e) (s a o e)
/-! ### a list of pieces -/
abbrev Pc := Int × List W
def IsPc (S : List Addr) (H : Hp) (v : V) (p : Pc) : Prop := ∃ t l vs, v = .ref t ∧ H t = some (.tup [.int p.1, .ref l]) ∧ H l = some (.lst vs) ∧ Pile H vs p.2 ∧ l ∉ S
def Pieces (S : List Addr) (H : Hp) (xs : List V) (R : List Pc) : Prop := Paired (IsPc S H) xs R
theorem IsPc.keep {p : Pc} (h : IsPc S H v p) (k : Ks S H H1) : IsPc S H1 v p := by
  obtain ⟨t, l, vs, e, h1, h2, h3, h4⟩ := h
  exact ⟨t, l, vs, e, k.tk _ _ h1, k.keep _ _ h4 h2, h3.keep k.tk, h4⟩
theorem IsPc.less {p : Pc} (h : IsPc S H v p) (k : ∀ a ∈ S', a ∈ S) : IsPc S' H v p := by
  obtain ⟨t, l, vs, e, h1, h2, h3, h4⟩ := h
  exact ⟨t, l, vs, e, h1, h2, h3, fun q => h4 (k _ q)⟩
theorem Pieces.keep {xs : List V} {R : List Pc} (h : Pieces S H xs R) (k : Ks S H H1) : Pieces S H1 xs R := Paired.mapP h fun _ _ q => q.keep k
theorem Pieces.less {xs : List V} {R : List Pc} (h : Pieces S H xs R) (k : ∀ a ∈ S', a ∈ S) : Pieces S' H xs R := Paired.mapP h fun _ _ q => q.less k
theorem Pieces.len {xs : List V} {R : List Pc} (h : Pieces S H xs R) : xs.length = R.length := Paired.length h
theorem Pieces.nil : Pieces S H [] [] := Paired.nil
theorem pair_app {α β : Type} {F : α → β → Prop} : ∀ {l₁ m₁ : List α} {l₂ m₂ : List β}, Paired F l₁ l₂ → Paired F m₁ m₂ → Paired F (l₁ ++ m₁) (l₂ ++ m₂)
  | _, _, _, _, .nil, k => k
  | _, _, _, _, .cons r t, k => .cons r (pair_app t k)
theorem pair_at {α β : Type} {F : α → β → Prop} : ∀ {l₁ : List α} {l₂ : List β}, Paired F l₁ l₂ → ∀ {i : Nat} {y : β}, l₂[i]? = some y → ∃ x, l₁[i]? = some x ∧ F x y
  | _, _, .nil, i, y, e => by cases i <;> cases e
  | _, _, .cons r t, 0, y, e => by cases e; exact ⟨_, rfl, r⟩
  | _, _, .cons r t, i + 1, y, e => pair_at t (i := i) e
theorem pair_at1 {α β : Type} {F : α → β → Prop} : ∀ {l₁ : List α} {l₂ : List β}, Paired F l₁ l₂ → ∀ {i : Nat} {x : α}, l₁[i]? = some x → ∃ y, l₂[i]? = some y ∧ F x y
  | _, _, .nil, i, y, e => by cases i <;> cases e
  | _, _, .cons r t, 0, y, e => by cases e; exact ⟨_, rfl, r⟩
  | _, _, .cons r t, i + 1, y, e => pair_at1 t (i := i) e
/-! ### lists of piles -/
def IsLs (S : List Addr) (H : Hp) (v : V) (ws : List W) : Prop := ∃ l vs, v = .ref l ∧ H l = some (.lst vs) ∧ Pile H vs ws ∧ l ∉ S
def Lists (S : List Addr) (H : Hp) (ys : List V) (Ps : List (List W)) : Prop := Paired (IsLs S H) ys Ps
theorem IsLs.keep {ws : List W} (h : IsLs S H v ws) (k : Ks S H H1) : IsLs S H1 v ws := by
  obtain ⟨l, vs, e, h2, h3, h4⟩ := h
  exact ⟨l, vs, e, k.keep _ _ h4 h2, h3.keep k.tk, h4⟩
theorem IsLs.less {ws : List W} (h : IsLs S H v ws) (k : ∀ a ∈ S', a ∈ S) : IsLs S' H v ws := by
  obtain ⟨l, vs, e, h2, h3, h4⟩ := h
  exact ⟨l, vs, e, h2, h3, fun q => h4 (k _ q)⟩
theorem Lists.keep {ys : List V} {Ps : List (List W)} (h : Lists S H ys Ps) (k : Ks S H H1) : Lists S H1 ys Ps := Paired.mapP h fun _ _ q => q.keep k
theorem Lists.less {ys : List V} {Ps : List (List W)} (h : Lists S H ys Ps) (k : ∀ a ∈ S', a ∈ S) : Lists S' H ys Ps := Paired.mapP h fun _ _ q => q.less k
theorem Lists.len {ys : List V} {Ps : List (List W)} (h : Lists S H ys Ps) : ys.length = Ps.length := Paired.length h
/-! ### what a raw paper is, and its piles -/
def RawOk (size : Int) (R : List Pc) : Prop := ∀ (k : Nat) (p : Pc), R[k]? = some p → -1 ≤ p.1 ∧ p.1 < k ∧ 1 ≤ p.2.length ∧ (p.2.length : Int) ≤ size ∧ ∀ z ∈ p.2, Wok z
def belowM (Ps : List (List W)) (u : Int) : List W := if 0 ≤ u then Ps.getD u.toNat [] else []
def PilesOk (R : List Pc) (Ps : List (List W)) : Prop := Ps.length = R.length ∧ ∀ (k : Nat) (p : Pc), R[k]? = some p → Ps[k]? = some (belowM Ps p.1 ++ p.2)
theorem RawOk.nil {size : Int} : RawOk size [] := fun k p e => by cases k <;> cases e
theorem PilesOk.nil : PilesOk [] [] := ⟨rfl, fun k p e => by cases k <;> cases e⟩
theorem get_app1 {α : Type} {l : List α} {x y : α} {k : Nat} (h : (l ++ [x])[k]? = some y) : l[k]? = some y ∨ (k = l.length ∧ y = x) := by
  by_cases c : k < l.length
  · rw [List.getElem?_append_left c] at h; exact .inl h
  · rw [List.getElem?_append_right (by omega)] at h
    have e : k - l.length = 0 := by
      by_cases q : k - l.length = 0
      · exact q
      · obtain ⟨m, hm⟩ : ∃ m, k - l.length = m + 1 := ⟨k - l.length - 1, by omega⟩
        rw [hm] at h; simp at h
    rw [e] at h
    exact .inr ⟨by omega, (Option.some.inj h).symm⟩
theorem RawOk.app {size : Int} {R : List Pc} {p : Pc} (h : RawOk size R) (h1 : -1 ≤ p.1) (h2 : p.1 < R.length) (h3 : 1 ≤ p.2.length) (h4 : (p.2.length : Int) ≤ size) (h5 : ∀ z ∈ p.2, Wok z) : RawOk size (R ++ [p]) := fun k q e => by
  rcases get_app1 e with e | ⟨rfl, rfl⟩
  · exact h k q e
  · exact ⟨h1, h2, h3, h4, h5⟩
theorem below_app {Ps : List (List W)} {x : List W} {u : Int} (h : u < Ps.length) : belowM (Ps ++ [x]) u = belowM Ps u := by
  unfold belowM
  split
  · rw [List.getD_eq_getElem?_getD, List.getD_eq_getElem?_getD, List.getElem?_append_left (by omega)]
  · rfl
theorem PilesOk.app {size : Int} {R : List Pc} {Ps : List (List W)} {p : Pc} (h : PilesOk R Ps) (ok : RawOk size R) (h2 : p.1 < R.length) : PilesOk (R ++ [p]) (Ps ++ [belowM Ps p.1 ++ p.2]) := by
  refine ⟨by rw [List.length_append, List.length_append, h.1] <;> rfl, fun k q e => ?_⟩
  have hl := h.1
  rcases get_app1 e with e | ⟨rfl, rfl⟩
  · have hk : k < R.length := (List.getElem?_eq_some_iff.mp e).1
    have := (ok k q e).2.1
    rw [below_app (by omega), List.getElem?_append_left (by omega)]
    exact h.2 k q e
  · rw [below_app (by omega), ← hl, List.getElem?_append_right (Nat.le_refl _), Nat.sub_self] <;> rfl
/-! ### a paper -/
abbrev Pap := List Pc × List Int
def IsPap (S : List Addr) (H : Hp) (v : V) (P : Pap) : Prop := ∃ t p q xs, v = .ref t ∧ H t = some (.tup [.ref p, .ref q]) ∧ H p = some (.lst xs) ∧ Pieces S H xs P.1 ∧ H q = some (.lst (P.2.map V.int)) ∧ p ∉ S ∧ q ∉ S
theorem IsPap.keep {P : Pap} (h : IsPap S H v P) (k : Ks S H H1) : IsPap S H1 v P := by
  obtain ⟨t, p, q, xs, e, h1, h2, h3, h4, h5, h6⟩ := h
  exact ⟨t, p, q, xs, e, k.tk _ _ h1, k.keep _ _ h5 h2, h3.keep k, k.keep _ _ h6 h4, h5, h6⟩
def pD (p : Pc) : PyData := .tuple [.int p.1, .list (p.2.map wD)]
def papD (P : Pap) : PyData := .tuple [.list (P.1.map pD), .list (P.2.map PyData.int)]
theorem IsPc.dp {p : Pc} (h : IsPc S H v p) : Dp K H v (pD p) := by
  obtain ⟨t, l, vs, rfl, h1, h2, h3, h4⟩ := h
  exact .tup (SqT.of h1) (.cons (.int _) (.cons (h3.dp (SqL.of h2)) .nil))
theorem Pieces.dpAll {xs : List V} {R : List Pc} (h : Pieces S H xs R) : DpAll K H xs (R.map pD) := by
  unfold Pieces at h
  induction h with
  | nil => exact .nil
  | cons r t ih => exact .cons r.dp ih
theorem ints_dp : ∀ ns : List Int, DpAll K H (ns.map V.int) (ns.map PyData.int)
  | [] => .nil
  | _ :: ns => .cons (.int _) (ints_dp ns)
theorem IsPap.dp {P : Pap} (h : IsPap S H v P) : Dp K H v (papD P) := by
  obtain ⟨t, p, q, xs, rfl, h1, h2, h3, h4, h5, h6⟩ := h
  exact .tup (SqT.of h1) (.cons (.lst (SqL.of h2) h3.dpAll) (.cons (.lst (SqL.of h4) (ints_dp _)) .nil))
theorem pD_lay {p : Pc} (h : ∀ w ∈ p.2, Wok w) : (pD p).canLay0 = true := by
  unfold pD
  simp only [PyData.canLay0, PyData.canLayAll0]
  rw [wDs_lay p.2 h] <;> rfl
theorem pDs_lay : ∀ R : List Pc, (∀ p ∈ R, ∀ w ∈ p.2, Wok w) → PyData.canLayAll0 (R.map pD) = true
  | [], _ => by simp [PyData.canLayAll0]
  | p :: R, h => by
    rw [List.map_cons]
    simp only [PyData.canLayAll0]
    rw [pD_lay (h p List.mem_cons_self), pDs_lay R (fun x hx => h x (List.mem_cons_of_mem _ hx))] <;> rfl
theorem ints_lay : ∀ ns : List Int, PyData.canLayAll0 (ns.map PyData.int) = true
  | [] => by simp [PyData.canLayAll0]
  | n :: ns => by
    rw [List.map_cons]
    simp only [PyData.canLayAll0, PyData.canLay0]
    rw [ints_lay ns] <;> rfl
theorem ints_depth : ∀ ns : List Int, PyData.depthAll (ns.map PyData.int) = 0
  | [] => by simp [PyData.depthAll]
  | n :: ns => by
    rw [List.map_cons]
    simp only [PyData.depthAll, PyData.depth]
    rw [ints_depth ns] <;> rfl
theorem pDs_depth : ∀ R : List Pc, PyData.depthAll (R.map pD) ≤ 3
  | [] => by simp [PyData.depthAll]
  | p :: R => by
    have h := pDs_depth R
    have h2 := wDs_depth p.2
    rw [List.map_cons]
    unfold pD at h ⊢
    simp only [PyData.depthAll, PyData.depth]
    omega
theorem papD_shaped {P : Pap} (h : ∀ p ∈ P.1, ∀ w ∈ p.2, Wok w) : SeqAt.shaped (papD P) = true := by
  have h1 := pDs_depth P.1
  have h2 := ints_depth P.2
  have h3 : (papD P).depth ≤ 64 := by
    unfold papD
    simp only [PyData.depth, PyData.depthAll]
    omega
  show (PyData.canLay0 (papD P) && decide ((papD P).depth ≤ 64)) = true
  rw [decide_eq_true h3, Bool.and_true]
  unfold papD
  simp only [PyData.canLay0, PyData.canLayAll0]
  rw [pDs_lay P.1 h, ints_lay] <;> rfl
theorem ints_shaped (ns : List Int) : SeqAt.shaped (.list (ns.map PyData.int)) = true := by
  have h2 := ints_depth ns
  have h3 : (PyData.list (ns.map PyData.int)).depth ≤ 64 := by
    simp only [PyData.depth]
    omega
  show (PyData.canLay0 (.list (ns.map PyData.int)) && decide ((PyData.list (ns.map PyData.int)).depth ≤ 64)) = true
  rw [decide_eq_true h3, Bool.and_true]
  simp only [PyData.canLay0]
  exact ints_lay ns
end
end Wr

/-! Dicts whose keys are pairs of a whole number and a worth. -/
namespace Wd
open PySem PySem.Spec PyProof.Rows L2 Wp Wq
abbrev KW := Int × W
abbrev NE := KW × Addr × V
def kN (k : KW) : NestedKey := .tup [.num k.1, .tup [.text k.2.1, .num k.2.2]]
theorem kN_inj {a b : KW} (h : kN a = kN b) : a = b := by
  obtain ⟨i, s, n⟩ := a
  obtain ⟨j, t, m⟩ := b
  unfold kN at h
  simp at h
  obtain ⟨h1, h2, h3⟩ := h
  rw [h1, h2, h3]
abbrev NX := NestedKey × Addr × Value
def NR (es : List NE) (xs : List NX) : Prop := Paired (fun (p : NE) (q : NX) => kN p.1 = q.1 ∧ p.2.1 = q.2.1 ∧ RelV p.2.2 q.2.2) es xs
def NRaw (P : Program) (w : World) (a : Addr) (xs : List NX) (h : Heap) : Prop :=
  ∃ o ess ep, h.get? a = some o ∧ o.ExactDict ∧ o.data = .dict ess ep ∧ ess.toList = xs.map (entryOfKey (nestedKind P w)) ∧ (xs.map (·.1)).Nodup
def NO (P : Program) (w : World) (a : Addr) (es : List NE) : HO :=
  .ext fun h => es.length ≤ sizeLine ∧ (a == sysModules) = false ∧ ∃ xs, NR es xs ∧ NRaw P w a xs h
/-- the pair at b is the key k -/
def IsKN (H : Hp) (b : Addr) (k : KW) : Prop := ∃ t, H b = some (.tup [.int k.1, .ref t]) ∧ H t = some (.tup [.str k.2.1, .int k.2.2])
theorem IsKN.keep {H H' : Hp} {b : Addr} {k : KW} (h : IsKN H b k) (s : Tk H H') : IsKN H' b k := by
  obtain ⟨t, h1, h2⟩ := h
  exact ⟨t, s _ _ h1, s _ _ h2⟩
/-- at d stands a dict of these keys and values, in their order -/
def NDict (P : Program) (w : World) (H : Hp) (d : Addr) (kvs : List (KW × V)) : Prop :=
  ∃ es : List NE, H d = some (NO P w d es) ∧ (∀ e ∈ es, IsKN H e.2.1 e.1) ∧ es.map (fun e => (e.1, e.2.2)) = kvs
theorem NDict.keep {P : Program} {w : World} {H H' : Hp} {d : Addr} {kvs : List (KW × V)} (h : NDict P w H d kvs) (k : H' d = H d) (s : Tk H H') : NDict P w H' d kvs := by
  obtain ⟨es, h1, h2, h3⟩ := h
  exact ⟨es, k.trans h1, fun e he => (h2 e he).keep s, h3⟩
theorem NDict.same {P : Program} {w : World} {H H' : Hp} {d : Addr} {kvs : List (KW × V)} (h : NDict P w H d kvs) (s : Same H H') : NDict P w H' d kvs := by
  have ⟨es, h1, h2, h3⟩ := h
  exact h.keep ((s _ _ h1).trans h1.symm) (Same.tk s)
theorem NDict.kp {P : Program} {w : World} {H H' : Hp} {d b : Addr} {bs : List V} {kvs : List (KW × V)} (h : NDict P w H d kvs) (hb : H b = some (.lst bs)) (s : Kp b H H') : NDict P w H' d kvs := by
  have ⟨es, h1, h2, h3⟩ := h
  exact h.keep ((s _ _ (ne_of h1 hb (by intro q; cases q)) h1).trans h1.symm) (Kp.tk s hb)
theorem NDict.isSome {P : Program} {w : World} {H : Hp} {d : Addr} {kvs : List (KW × V)} (h : NDict P w H d kvs) : ∃ o, H d = some o := by
  obtain ⟨es, h1, _⟩ := h
  exact ⟨_, h1⟩
theorem NDict.ne_lst {P : Program} {w : World} {H : Hp} {d a : Addr} {bs : List V} {kvs : List (KW × V)} (h : NDict P w H d kvs) (ha : H a = some (.lst bs)) : d ≠ a := by
  obtain ⟨es, h1, _⟩ := h
  exact ne_of h1 ha (by intro q; cases q)
section
variable {X : Cx} {pins : List (Addr × Obj)} {σ : L2.St} {H : Hp} {s : Shared} {d b : Addr} {k : KW} {es : List NE} {xs : List NX}
theorem key_is (I : Inv X pins σ H s) (h : IsKN H b k) : (nestedKind X.prog X.w).is s.heap (kN k) b := by
  obtain ⟨t, hb, ht⟩ := h
  obtain ⟨_, its, rv, o1, g1, c1, n1, d1⟩ := (show ObjOk X.prog X.w H s.heap b (.tup [.int k.1, .ref t]) from I.hok b _ hb)
  obtain ⟨_, jts, rw', o2, g2, c2, n2, d2⟩ := (show ObjOk X.prog X.w H s.heap t (.tup [.str k.2.1, .int k.2.2]) from I.hok t _ ht)
  cases rv with
  | cons r1 r2 =>
    cases r2 with
    | cons r3 r4 =>
      cases r4
      cases rw' with
      | cons q1 q2 =>
        cases q2 with
        | cons q3 q4 =>
          cases q4
          obtain ⟨t1, rfl⟩ := r1
          cases r3
          obtain ⟨t2, rfl⟩ := q1
          obtain ⟨t3, rfl⟩ := q3
          exact ⟨.tup g1 c1 d1 (.cons (.int _ _) (.cons (.tup g2 c2 d2 (.cons (.text _ _) (.cons (.int _ _) .nil))) .nil)), by simp [kN, NestedKey.depth, NestedKey.depthAll]⟩
theorem no_get (I : Inv X pins σ H s) (h : H d = some (NO X.prog X.w d es)) : es.length ≤ sizeLine ∧ (d == sysModules) = false ∧ ∃ xs, NR es xs ∧ NRaw X.prog X.w d xs s.heap := (I.hok d _ h).1
theorem no_new {P : Program} {w : World} {h : Heap} (z : es.length ≤ sizeLine) (hd : (d == sysModules) = false) (r : NR es xs) (q : NRaw P w d xs h) : ObjOk P w H h d (NO P w d es) := by
  have ⟨o, ess, ep, ho, rest⟩ := q
  refine ⟨⟨z, hd, xs, r, q⟩, ⟨o, ho⟩, fun h1 h2 p k => ?_⟩
  obtain ⟨z, hd, xs, r, o, ess, ep, ho, rest⟩ := p
  exact ⟨z, hd, xs, r, o, ess, ep, k o ho, rest⟩
theorem pgetR {α β : Type} {R : α → β → Prop} : ∀ {l1 : List α} {l2 : List β}, Paired R l1 l2 → ∀ {i : Nat} {y : β}, l2[i]? = some y → ∃ x, l1[i]? = some x ∧ R x y
  | _, _, .nil, i, y, h => by cases i <;> cases h
  | _, _, .cons r t, 0, y, h => by cases h; exact ⟨_, rfl, r⟩
  | _, _, .cons r t, i + 1, y, h => pgetR t h
theorem pgetL {α β : Type} {R : α → β → Prop} : ∀ {l1 : List α} {l2 : List β}, Paired R l1 l2 → ∀ {i : Nat} {x : α}, l1[i]? = some x → ∃ y, l2[i]? = some y ∧ R x y
  | _, _, .nil, i, y, h => by cases i <;> cases h
  | _, _, .cons r t, 0, y, h => by cases h; exact ⟨_, rfl, r⟩
  | _, _, .cons r t, i + 1, y, h => pgetL t h
theorem papp {α β : Type} {R : α → β → Prop} : ∀ {l1 m1 : List α} {l2 m2 : List β}, Paired R l1 l2 → Paired R m1 m2 → Paired R (l1 ++ m1) (l2 ++ m2)
  | _, _, _, _, .nil, k => k
  | _, _, _, _, .cons r t, k => .cons r (papp t k)
theorem no_dict (I : Inv X pins σ H s) (h : H d = some (NO X.prog X.w d es)) (hk : ∀ e ∈ es, IsKN H e.2.1 e.1) : ∃ xs, NR es xs ∧ s.heap.DictOfH (nestedKind X.prog X.w) d xs := by
  obtain ⟨z, hd, xs, r, o, ess, ep, ho, hx, hdat, he, hn⟩ := no_get I h
  refine ⟨xs, r, o, ess, ep, ho, hx, hdat, he, fun x hx => ?_, hn⟩
  obtain ⟨i, hi⟩ := List.mem_iff_getElem?.mp hx
  obtain ⟨e, he, r1, r2, r3⟩ := pgetR r hi
  rw [← r1, ← r2]
  exact key_is I (hk e (List.mem_of_getElem? he))
theorem NR.val (r : NR es xs) (k : KW) : RelO (valV (es.map fun e => (e.1, e.2.2)) k) ((atKey xs (kN k)).map (·.2)) := by
  unfold NR at r
  induction r with
  | nil => trivial
  | @cons p q l1 l2 h t ih =>
    obtain ⟨h1, h2, h3⟩ := h
    rw [List.map_cons]
    by_cases e : p.1 = k
    · have e2 : q.1 = kN k := by rw [← h1, e]
      rw [valV_pos e]
      unfold atKey
      rw [List.find?_cons, decide_eq_true e2]
      exact h3
    · have e2 : ¬ q.1 = kN k := fun c => e (kN_inj (h1.trans c))
      rw [valV_neg e]
      unfold atKey at ih ⊢
      rw [List.find?_cons, decide_eq_false e2]
      exact ih
theorem NR.len (r : NR es xs) : es.length = xs.length := Paired.length r
end
/-! ### a new one -/
section
variable {X : Cx} {P : Program} {w : World} {σ : L2.St} {H : Hp} {Q : VK} {te ta tb to : TE}
theorem no_empty {H : Hp} (h : Heap) (hb : sysModules < h.objs.size) : ObjOk P w H (h.push { cls := .type "dict", data := .dict #[] }) h.objs.size (NO P w h.objs.size []) := by
  obtain ⟨o, es, ep, ho, hx, hdat, he, _, hn⟩ := Heap.DictOfH.new (knd := nestedKind P w) h
  exact no_new (xs := []) (Nat.zero_le _) (by rw [beq_eq_false_iff_ne]; exact Nat.ne_of_gt hb) .nil ⟨o, es, ep, ho, hx, hdat, he, hn⟩
def tNew (P : Program) (w : World) : TE := fun _ H Q => ∀ p, H p = none → Q (.ref p) (upd H p (NO P w p []))
theorem pe_new {pos : Pos} : PE X (.Dict [] [] pos) (tNew X.prog X.w) := ⟨fun pins s σ H Q I h =>
  wpAny_Dict_empty ⟨.ref s.heap.objs.size, _, I.laid (a := s.heap.objs.size) (o := NO X.prog X.w s.heap.objs.size []) (t' := s.toks) (fun _ _ q => Heap.get?_push_of_some _ q) (Nat.le_refl _) (no_empty s.heap I.big), rfl, h _ (I.hok.fresh (Nat.le_refl _))⟩⟩
theorem ndict_new {H : Hp} {p : Addr} : NDict P w (upd H p (NO P w p [])) p [] := ⟨[], upd_same, (fun _ h => nomatch h), rfl⟩
/-! ### d.setdefault((i, worth), v) -/
def rSetD (P : Program) (w : World) : V → List V → Hp → VK → Prop := fun x xs H Q => ∃ (d b : Addr) (k : KW) (v : V) (kvs : List (KW × V)), x = .ref d ∧ xs = [.ref b, v] ∧ NDict P w H d kvs ∧ IsKN H b k ∧ kvs.length < sizeLine ∧
  (∀ u, valV kvs k = some u → Q u H) ∧ (valV kvs k = none → ∀ H', NDict P w H' d (kvs ++ [(k, v)]) → Kp d H H' → Q v H')
theorem mt_setD (hu : X.A.units + 64 < cLine) : MtR X "dict.setdefault" (rSetD X.prog X.w) := by
  intro pins s σ H x xs v us Q I rx rxs h
  obtain ⟨d, b, k, v0, kvs, rfl, rfl, ⟨es, hd, hk, rfl⟩, hb, room, q1, q2⟩ := h
  cases rx
  cases rxs with
  | cons r1 r2 =>
    cases r2 with
    | cons r3 r4 =>
      cases r4
      cases r1
      rename_i v1
      obtain ⟨z, hsys, _⟩ := no_get I hd
      obtain ⟨xs, r, hm⟩ := no_dict I hd hk
      have hv := NR.val r k
      refine call_setdefault_heap (knd := nestedKind X.prog X.w) (k := kN k) (hu := by show X.A.units + 1 + 8 < cLine; omega) (hkey := key_is I hb) (hd := hsys) (hm := hm) (hsz := by rw [← NR.len r]; exact z) (fun p hp => ?_) (fun hn h' hm' hs => ?_)
      · rw [hp] at hv
        cases e : valV (es.map fun e => (e.1, e.2.2)) k with
        | none => rw [e] at hv; exact hv.elim
        | some u =>
          rw [e] at hv
          exact ⟨u, H, I.tok _, hv, q1 u e⟩
      · rw [hn] at hv
        cases e : valV (es.map fun e => (e.1, e.2.2)) k with
        | some u => rw [e] at hv; exact hv.elim
        | none =>
          rw [storedH_new hn] at hm'
          obtain ⟨o, ess, ep, ho, hx, hdat, he, _, hnd⟩ := hm'
          rw [List.length_map] at room
          have rn : NR (es ++ [(k, b, v0)]) (xs ++ [(kN k, b, v1)]) := papp r (.cons ⟨rfl, rfl, r3⟩ .nil)
          have new : ∀ HH, ObjOk X.prog X.w HH h' d (NO X.prog X.w d (es ++ [(k, b, v0)])) := fun HH => no_new (by rw [List.length_append]; exact room) hsys rn ⟨o, ess, ep, ho, hx, hdat, he, hnd⟩
          refine ⟨v0, upd H d (NO X.prog X.w d (es ++ [(k, b, v0)])), d_write I (by rw [hd]; trivial) hs ⟨o, ho⟩ (new _), r3, q2 e _ ⟨_, upd_same, ?_, ?_⟩ Kp.at⟩
          · intro e he
            have tk : Tk H (upd H d (NO X.prog X.w d (es ++ [(k, b, v0)]))) := fun t xs e => by rw [upd_ne (ne_of e hd (by intro q; cases q))]; exact e
            rcases List.mem_append.mp he with he | he
            · exact (hk e he).keep tk
            · rw [List.mem_singleton.mp he]; exact hb.keep tk
          · rw [List.map_append] <;> rfl
def tNM (P : Program) (w : World) (r : V → List V → Hp → VK → Prop) (to : TE) (t : TA) : TE := fun σ H Q => to σ H fun x H1 => (∃ a kvs, x = V.ref a ∧ NDict P w H1 a kvs) ∧ t σ H1 fun xs H2 => r x xs H2 Q
variable {o e : Expr} {es : List Expr} {t : TA} {apos cpos : Pos}
theorem nd_typeIs {pins : List (Addr × Obj)} {H : Hp} {s : Shared} {d : Addr} {kvs : List (KW × V)} (I : Inv X pins σ H s) (g : NDict X.prog X.w H d kvs) : s.TypeIs (.ref d) "dict" := by
  obtain ⟨es, hd, hk, _⟩ := g
  obtain ⟨xs, r, hm⟩ := no_dict I hd hk
  exact hm.typeIs
theorem nd_noDict {pins : List (Addr × Obj)} {H : Hp} {s : Shared} {d : Addr} {kvs : List (KW × V)} (I : Inv X pins σ H s) (g : NDict X.prog X.w H d kvs) :
    ∀ b, Value.ref d = .ref b → ∃ ob, s.heap.get? b = some ob ∧ ob.dict = none := fun b q => by
  cases q
  obtain ⟨es, hd, hk, _⟩ := g
  obtain ⟨xs, r, ob, _, _, h1, h2, _⟩ := no_dict I hd hk
  exact ⟨ob, h1, h2.2.1⟩
theorem pe_setD (hu : X.A.units + 64 < cLine) (ho : PE X o to) (ha : PA X (e :: es) t)
    (hbase : attributeBase o "setdefault" X.env (eval o X.env) = eval o X.env := by rfl)
    (hfew : ((backTo cpos (starEach (e :: es) X.env)).all (fun x => !x.1) && (backToKw cpos (keywordEach [] X.env)).all (fun x => x.1.isSome)
      && decide ((e :: es).length + ([] : List Keyword).length + (if ([] : List Keyword).isEmpty then 0 else 1) < 30)) = true := by rfl)
    (hline : (apos.endLine == cpos.line) = true := by rfl) (hs : starEach (e :: es) X.env = (false, eval e X.env) :: starEach es X.env := by rfl) (hplain : (backTo cpos (starEach es X.env)).any (·.1) = false := by rfl) :
    PE X (.Call (.Attribute o "setdefault" apos) (e :: es) [] cpos) (tNM X.prog X.w (rSetD X.prog X.w) to t) := by
  refine ⟨fun pins s σ H Q I h => ?_⟩
  refine wpAny_Call_method_late hbase hfew hline rfl (thn (ho.run pins s σ H _ I h) fun v s1 ⟨x, H1, I1, r1, ty, q1⟩ => ?_)
  obtain ⟨a, kvs, rfl, hka⟩ := ty
  cases r1
  refine ⟨"dict", "dict.setdefault", F.plainAttrs_dict, F.slot_dict_setdefault, F.type_dict_setdefault, nd_typeIs I1 hka, nd_noDict I1 hka, ?_⟩
  have hA := ha.run cpos pins s1 σ H1 _ I1 q1
  rw [hs] at hA ⊢
  refine Calls.callWith_builtin (by show (false || (backTo cpos (starEach es X.env)).any (·.1)) = false; rw [hplain] <;> rfl) (Calls.evalArgs_plain ?_)
  exact thn hA fun us s2 ⟨vs, H2, I2, r2, q2⟩ => mt_setD hu pins s2 σ H2 (.ref a) vs (.ref a) us Q I2 rfl r2 q2
/-! ### d[(i, worth)], len(d), k in d -/
def rIxN (P : Program) (w : World) : R2 := fun x y H Q => ∃ (d b : Addr) (k : KW) (kvs : List (KW × V)) (u : V), x = .ref d ∧ y = .ref b ∧ NDict P w H d kvs ∧ IsKN H b k ∧ valV kvs k = some u ∧ Q u H
def tNGet (P : Program) (w : World) (td ty : TE) : TE := fun σ H Q => td σ H fun x H1 => ty σ H1 fun y H2 => rIxN P w x y H2 Q
theorem call_lenN : CallR X (.builtin "len") (fun xs H Q => ∃ a kvs, xs = [V.ref a] ∧ NDict X.prog X.w H a kvs ∧ Q (.int kvs.length) H) := by
  intro pins s σ H xs us Q I r h
  obtain ⟨a, kvs, rfl, ha, q⟩ := h
  obtain ⟨u, rfl, ru⟩ := vals1 r
  cases ru
  have hT := nd_typeIs I ha
  obtain ⟨es, hd, hk, rfl⟩ := ha
  obtain ⟨z, hsys, _⟩ := no_get I hd
  obtain ⟨xs, r, hm⟩ := no_dict I hd hk
  have el := NR.len r
  refine call_len_slot (n := xs.length) hT F.slot_dict_len (fun Q' hq => len_keyed (kvs := pairsH xs) hsys ⟨xs, hm, rfl⟩ (by rw [pairsH_length]; exact hq)) (by omega) (by rw [sizeLine_eq] at z; omega) ?_
  rw [← el, List.length_map] at *
  exact ⟨.int es.length, H, (I.tok _).tok _, ⟨_, rfl⟩, q⟩
variable {i : Expr} {td ty : TE} {pos : Pos}
theorem pe_nget (hu : X.A.units + 64 < cLine) (ho : PE X o td) (hi : PE X i ty) (hs : NoSl i) : PE X (.Subscript o i pos) (tNGet X.prog X.w td ty) := by
  refine ⟨fun pins s σ H Q I h => ?_⟩
  refine subD_of PySem.F.slot_dict_getitem.lookup hs (thn (ho.run pins s σ H _ I h) fun u s1 ⟨x, H1, I1, rx, q1⟩ => thn (hi.run pins s1 σ H1 _ I1 q1) fun iv s2 ⟨y, H2, I2, ry, d, b, k, kvs, v, ex, ey, g, hb, hv, q2⟩ => ?_)
  subst ex ey
  obtain rfl : u = Value.ref d := rx
  obtain rfl : iv = Value.ref b := ry
  refine ⟨nd_typeIs I2 g, ?_⟩
  obtain ⟨es, hd, hk, rfl⟩ := g
  obtain ⟨xs, r, hm⟩ := no_dict I2 hd hk
  have hr := NR.val r k
  rw [hv] at hr
  cases e : atKey xs (kN k) with
  | none => rw [e] at hr; exact hr.elim
  | some p =>
    rw [e] at hr
    refine wpAny_getItem_heap (knd := nestedKind X.prog X.w) (hu := by show X.A.units + 1 + 8 < cLine; omega) (hkey := key_is I2 hb) (hm := hm) (hp := e) ?_
    exact ⟨v, H2, I2.tok _, hr, q2⟩
/-! ### for pair in d: the dict is locked -/
def NDictF (P : Program) (w : World) (H : Hp) (d : Addr) (o : Obj) (es : List NE) : Prop := H d = some (.frz o (NO P w d es))
def Itn (P : Program) (w : World) (d : Addr) (o : Obj) (es : List NE) : It :=
  ⟨fun i H => NDictF P w H d o es ∧ i < es.length, fun i H x H' => H' = H ∧ ∃ e, es[i]? = some e ∧ x = .ref e.2.1, fun i H => NDictF P w H d o es ∧ es.length ≤ i⟩
theorem frzN {pins : List (Addr × Obj)} {H : Hp} {s : Shared} {d : Addr} {o : Obj} {es : List NE} (I : Inv X pins σ H s) (h : NDictF X.prog X.w H d o es) :
    (d == sysModules) = false ∧ s.heap.get? d = some o ∧ o.ExactDict ∧ ∃ (ess : Array DictEntry) (ep : Nat), o.data = .dict ess ep ∧ ess.size = es.length ∧
      ∀ (i : Nat) (e : NE), es[i]? = some e → ∃ (en : DictEntry), ess[i]? = some en ∧ en.key = .ref e.2.1 := by
  obtain ⟨hg, z⟩ := I.hok d _ h
  obtain ⟨z, hsys, xs, r, o', ess, ep, ho, hx, hdt, he, hn⟩ := (show ObjOk X.prog X.w H s.heap d (NO X.prog X.w d es) from z).1
  rw [hg] at ho
  cases ho
  refine ⟨hsys, hg, hx, ess, ep, hdt, ?_, fun i e hi => ?_⟩
  · have l1 : ess.size = xs.length := size_of_entries he
    have l2 := NR.len r
    omega
  · obtain ⟨x, hx, r1, r2, r3⟩ := pgetL r hi
    have q := entry_at he i
    rw [hx] at q
    exact ⟨_, q, by rw [r2] <;> rfl⟩
theorem turn_keysN {P : Program} {w : World} {K : PySem.W.Frag} {tg : Expr} {d : Addr} {o : Obj} {ess : Array DictEntry} {ep : Nat} {es : List NE} (it : Addr) (hod : o.data = .dict ess ep) : Turn P w K tg (Itn P w d o es) [it] it (fun i h => h.IsKeyIter it d i es.length ep) where
  mem := by simp
  obj := fun i h st b hb => by
    have e : b = it := by simpa using hb
    subst e
    obtain ⟨oi, e, c, dd⟩ := st
    exact ⟨oi, e, fun v z => by rw [dd] at z; cases z⟩
  keep := fun i h h' st k => st.at fun oi e => k it (by simp) oi e
  item := by
    intro X hP hw hK hc i pins s σ H E I hf st hg
    subst hP hw hK
    obtain ⟨hd, hi⟩ := hg
    obtain ⟨f0, f1, f2, f3, f4, f5⟩ := hf it (by simp)
    obtain ⟨hs, hgd, hx, es', ep', hdt, hsz, ent⟩ := frzN I hd
    obtain ⟨rfl, rfl⟩ := dict_ep hod hdt
    obtain ⟨e0, he0⟩ : ∃ p, es[i]? = some p := ⟨es[i], List.getElem?_eq_getElem hi⟩
    obtain ⟨en, hen, hkey⟩ := ent i e0 he0
    refine next_key_item st hgd hdt hsz hen fun h' st' sb => ?_
    have I1 : Inv X pins σ H { s with heap := h' } := I.turned (t' := s.toks) (fun b ob hb e => (sb.2 b hb).trans e) f0 f1 f3 f4 f5
    obtain ⟨oi, e, c, dd⟩ := id st'
    exact ⟨en.key, rfl, go_of (s := { s with heap := h' }) e c dd (by decide) ⟨.ref e0.2.1, H, I1, hkey, ⟨rfl, e0, he0, rfl⟩, st', fun b hb => (hf b hb).1⟩⟩
  done := by
    intro X hP hw hK hc i pins s σ H E I hf st hg
    subst hP hw hK
    obtain ⟨hd, hi⟩ := hg
    obtain ⟨f0, f1, f2, f3, f4, f5⟩ := hf it (by simp)
    obtain ⟨hs, hgd, hx, es', ep', hdt, hsz, ent⟩ := frzN I hd
    obtain ⟨rfl, rfl⟩ := dict_ep hod hdt
    exact next_key_end (I.ok.hd hc) st hgd hdt hsz hi fun h' eb => ⟨rfl, I.turned (t' := s.toks) (fun b ob hb e => eb b ob hb e) f0 f1 f3 f4 f5⟩
  self := fun A i s Q E st h => by
    refine wpAny_pyIter_slot st.typeIs F.slot_dict_keyiterator_iter (wpAny_call_entry F.slot_dict_keyiterator_iter st.typeIs F.entry_dict_keyiterator_iter ?_ (F.args_dict_keyiterator_iter_1 _))
    show wpAny _ _ (ret (.ref it)) _ _ s
    exact wpAny_pure ⟨_, rfl, "dict_keyiterator", _, st.typeIs, F.slot_dict_keyiterator_next.lookup, h⟩
def iKeysN (P : Program) (w : World) (td : TE) : TI := fun σ H R => td σ H fun x H1 => ∃ d o es, x = .ref d ∧ NDictF P w H1 d o es ∧ R (Itn P w d o es) H1
theorem pi_keysN {tg e : Expr} {td : TE} (he : PE X e td) : PI X tg e (iKeysN X.prog X.w td) := by
  refine ⟨fun pins s σ H R I h => ?_⟩
  refine thn (he.run pins s σ H _ I h) fun u s1 ⟨x, H1, I1, rx, d, o, es, ex, hd, q⟩ => ?_
  subst ex
  obtain rfl : u = Value.ref d := rx
  obtain ⟨hs, hgd, hx, ess, ep, hdt, hsz, ent⟩ := frzN I1 hd
  refine iter_keys hs hgd hx hdt (pi_one (tk := s1.toks) I1 _ (turn_keysN _ hdt) ⟨_, Heap.get?_push_size _ rfl, rfl, ?_⟩ q)
  rw [hsz] <;> rfl
end
section
variable {P : Program} {w : World} {r : V → List V → Hp → VK → Prop} {to td ty : TE} {t : TA} {σ : L2.St} {H : Hp} {Q : VK} {R : It → Hp → Prop}
theorem nm (h : to σ H fun x H1 => (∃ a kvs, x = V.ref a ∧ NDict P w H1 a kvs) ∧ t σ H1 fun xs H2 => r x xs H2 Q) : tNM P w r to t σ H Q := h
theorem nget (h : td σ H fun x H1 => ty σ H1 fun y H2 => rIxN P w x y H2 Q) : tNGet P w td ty σ H Q := h
theorem tnew (h : ∀ p, H p = none → Q (.ref p) (upd H p (NO P w p []))) : tNew P w σ H Q := h
theorem pikn (h : td σ H fun x H1 => ∃ d o es, x = .ref d ∧ NDictF P w H1 d o es ∧ R (Itn P w d o es) H1) : iKeysN P w td σ H R := h
end
end Wd

/-! sorted of anything that reads as data. -/
namespace Ws
open PySem PySem.Spec PyProof.Rows L2 Wp Wq
abbrev VD := V × PyData
def leD (a b : VD) : Bool := PySem.W.dataLe false (fun x : VD => x.2) a b
def rSortD (K : PySem.W.Frag) : List V → Hp → VK → Prop := fun vs H Q => ∃ (a : Addr) (bs : List VD), vs = [.ref a] ∧ SqL K H a (bs.map (·.1)) ∧ (∀ b ∈ bs, Dp K H b.1 b.2) ∧ PySem.W.AllAlike (bs.map (·.2)) ∧ PySem.W.Sortable (bs.map (·.2)) ∧ (∀ b ∈ bs, b.2.depth ≤ 60) ∧
  ∀ p, H p = none → Q (.ref p) (upd H p (.lst ((bs.mergeSort leD).map (·.1))))
section
variable {X : Cx}
theorem each_rel : ∀ {bs : List VD} {its : List Value}, Vals (bs.map (·.1)) its → PySem.W.EachIs (fun (v : Value) (b : VD) => RelV b.1 v) its bs
  | [], _, h => by cases h; exact .nil
  | b :: bs, _, h => by
    cases h with
    | cons r t => exact .cons r (each_rel t)
theorem rel_each : ∀ {bs : List VD} {its : List Value}, PySem.W.EachIs (fun (v : Value) (b : VD) => RelV b.1 v) its bs → Vals (bs.map (·.1)) its
  | [], _, h => by cases h; exact .nil
  | b :: bs, _, h => by
    cases h with
    | cons r t => exact .cons r (rel_each t)
theorem each_reads {pins : List (Addr × Obj)} {σ : L2.St} {H : Hp} {s : Shared} (I : Inv X pins σ H s) : ∀ {bs : List VD} {its : List Value}, Vals (bs.map (·.1)) its → (∀ b ∈ bs, Dp X.K H b.1 b.2) → PySem.W.EachIs (fun (v : Value) (b : VD) => ∃ as, Reads s.heap v b.2 as) its bs
  | [], _, h, _ => by cases h; exact .nil
  | b :: bs, _, h, d => by
    cases h with
    | cons r t => exact .cons (Dp.reads I _ _ _ (d b List.mem_cons_self) r) (each_reads I t fun x hx => d x (List.mem_cons_of_mem _ hx))
theorem cr_sortD (hu : X.A.units + 64 < cLine) : CallR X (.builtin "sorted") (rSortD X.K) := by
  intro pins s σ H vs us Q I r h
  obtain ⟨a, bs, rfl, hs, hd, hal, hk, hdep, q⟩ := h
  obtain ⟨its, rv, hl, hz⟩ := I.list hs
  rw [Vals.ref1 r]
  rw [List.length_map] at hz
  refine PySem.W.sorted_data (enc := fun x : VD => x.2) (vs := its) hl.isList (each_rel rv) (each_reads I rv hd) hal hk hz (fun b hb => by have := hdep b hb; show X.A.units + 2 + b.2.depth < cLine; omega) fun out h1 h2 => ?_
  obtain ⟨ep, he'⟩ := PyProof.Rows.sortedAll_at s.heap its out.toArray
  have hlen : ((bs.mergeSort leD).map (·.1)).length ≤ sizeLine := by
    rw [List.length_map, List.length_mergeSort]
    exact hz
  exact ⟨.ref _, upd H (s.heap.objs.size + 1) (.lst ((bs.mergeSort leD).map (·.1))), I.laid (t' := s.toks) (fun _ _ => PyProof.Rows.sortedAll_old) (Nat.le_succ _) ⟨hlen, out, ep, rel_each h2, he'⟩, rfl, q _ (I.hok.fresh (Nat.le_succ _))⟩
end
end Ws

/-! Beginnings of piles: the dict's mirror, and how sorted piles count them. -/
namespace Wk
open PySem PySem.Spec PyProof.Rows L2 Wp Wq Wr Wd
def ins (T : List (List W)) (q : List W) : List (List W) := if q ∈ T then T else T ++ [q]
def begs (p : List W) (j : Nat) : List (List W) := (List.range j).map fun n => p.take (n + 1)
def insPile (T : List (List W)) (p : List W) : List (List W) := (begs p p.length).foldl ins T
def trie (ps : List (List W)) : List (List W) := ps.foldl insPile []
theorem begs_succ (p : List W) (j : Nat) : begs p (j + 1) = begs p j ++ [p.take (j + 1)] := by
  unfold begs
  rw [List.range_succ, List.map_append] <;> rfl
theorem mem_ins {T : List (List W)} {q x : List W} : x ∈ ins T q ↔ x ∈ T ∨ x = q := by
  unfold ins
  split
  · rename_i h
    exact ⟨.inl, fun k => k.elim id fun e => e ▸ h⟩
  · rw [List.mem_append, List.mem_singleton]
theorem mem_foldl {x : List W} : ∀ {qs T : List (List W)}, x ∈ qs.foldl ins T ↔ x ∈ T ∨ x ∈ qs
  | [], T => by simp
  | q :: qs, T => by
    rw [List.foldl_cons, mem_foldl (qs := qs), mem_ins, List.mem_cons]
    exact ⟨fun h => by rcases h with (h | h) | h <;> simp [h], fun h => by rcases h with h | h | h <;> simp [h]⟩
theorem mem_begs {p x : List W} {j : Nat} : x ∈ begs p j ↔ ∃ n, n < j ∧ x = p.take (n + 1) := by
  unfold begs
  rw [List.mem_map]
  exact ⟨fun ⟨n, h, e⟩ => ⟨n, List.mem_range.mp h, e.symm⟩, fun ⟨n, h, e⟩ => ⟨n, List.mem_range.mpr h, e.symm⟩⟩
theorem mem_insPile {T : List (List W)} {p x : List W} : x ∈ insPile T p ↔ x ∈ T ∨ ∃ n, n < p.length ∧ x = p.take (n + 1) := by
  unfold insPile
  rw [mem_foldl, mem_begs]
theorem mem_trie' {x : List W} : ∀ {ps T : List (List W)}, x ∈ ps.foldl insPile T ↔ x ∈ T ∨ ∃ p ∈ ps, ∃ n, n < p.length ∧ x = p.take (n + 1)
  | [], T => by simp
  | p :: ps, T => by
    rw [List.foldl_cons, mem_trie' (ps := ps), mem_insPile]
    constructor
    · rintro ((h | ⟨n, h1, h2⟩) | ⟨p', hp, n, h1, h2⟩)
      · exact .inl h
      · exact .inr ⟨p, List.mem_cons_self, n, h1, h2⟩
      · exact .inr ⟨p', List.mem_cons_of_mem _ hp, n, h1, h2⟩
    · rintro (h | ⟨p', hp, n, h1, h2⟩)
      · exact .inl (.inl h)
      · rcases List.mem_cons.mp hp with rfl | hp
        · exact .inl (.inr ⟨n, h1, h2⟩)
        · exact .inr ⟨p', hp, n, h1, h2⟩
theorem mem_trie {x : List W} {ps : List (List W)} : x ∈ trie ps ↔ ∃ p ∈ ps, ∃ n, n < p.length ∧ x = p.take (n + 1) := by
  unfold trie
  rw [mem_trie']
  simp
theorem ins_old {T : List (List W)} {q : List W} (h : q ∈ T) : ins T q = T := if_pos h
theorem ins_new {T : List (List W)} {q : List W} (h : q ∉ T) : ins T q = T ++ [q] := if_neg h
theorem ins_nodup {T : List (List W)} {q : List W} (h : T.Nodup) : (ins T q).Nodup := by
  unfold ins
  split
  · exact h
  · rename_i c
    rw [List.nodup_append]
    refine ⟨h, List.nodup_cons.mpr ⟨List.not_mem_nil, List.nodup_nil⟩, fun a ha b hb e => c ?_⟩
    rw [List.mem_singleton] at hb
    rw [← hb, ← e]
    exact ha
theorem foldl_nodup : ∀ {qs T : List (List W)}, T.Nodup → (qs.foldl ins T).Nodup
  | [], _, h => h
  | q :: qs, _, h => foldl_nodup (qs := qs) (ins_nodup h)
theorem trie_nodup' : ∀ {ps T : List (List W)}, T.Nodup → (ps.foldl insPile T).Nodup
  | [], _, h => h
  | p :: ps, _, h => trie_nodup' (ps := ps) (foldl_nodup h)
theorem trie_nodup (ps : List (List W)) : (trie ps).Nodup := trie_nodup' List.nodup_nil
/-- only which piles there are counts -/
theorem trie_len_perm {ps qs : List (List W)} (h : ∀ p, p ∈ ps ↔ p ∈ qs) : (trie ps).length = (trie qs).length := by
  refine ((List.perm_ext_iff_of_nodup (trie_nodup ps) (trie_nodup qs)).mpr fun x => ?_).length_eq
  rw [mem_trie, mem_trie]
  exact ⟨fun ⟨p, hp, r⟩ => ⟨p, (h p).mp hp, r⟩, fun ⟨p, hp, r⟩ => ⟨p, (h p).mpr hp, r⟩⟩
/-! ### sorted piles -/
def lcp : List W → List W → Nat
  | x :: xs, y :: ys => if x = y then lcp xs ys + 1 else 0
  | _, _ => 0
theorem lcp_cons (x y : W) (xs ys : List W) : lcp (x :: xs) (y :: ys) = if x = y then lcp xs ys + 1 else 0 := rfl
theorem lcp_le : ∀ (a b : List W), lcp a b ≤ b.length ∧ lcp a b ≤ a.length
  | [], b => by unfold lcp; exact ⟨Nat.zero_le _, Nat.zero_le _⟩
  | x :: xs, [] => by unfold lcp; exact ⟨Nat.zero_le _, Nat.zero_le _⟩
  | x :: xs, y :: ys => by
    have h := lcp_le xs ys
    rw [lcp_cons]
    split
    · rw [List.length_cons, List.length_cons]; omega
    · exact ⟨Nat.zero_le _, Nat.zero_le _⟩
theorem take_pre : ∀ (a b : List W) (n : Nat), n ≤ b.length → (b.take n <+: a ↔ n ≤ lcp a b)
  | a, b, 0, _ => by simp
  | [], y :: ys, n + 1, h => by
    rw [List.take_succ_cons]
    unfold lcp
    simp
  | x :: xs, y :: ys, n + 1, h => by
    rw [List.take_succ_cons, List.cons_prefix_cons, take_pre xs ys n (by rw [List.length_cons] at h; omega), lcp_cons]
    by_cases e : x = y
    · subst e
      rw [if_pos rfl]
      simp
    · rw [if_neg e]
      constructor
      · rintro ⟨e2, _⟩
        exact absurd e2.symm e
      · intro q
        omega
  | a, [], n + 1, h => by simp at h
theorem lcp_nil (b : List W) : lcp [] b = 0 := by unfold lcp; rfl
/-- how many are new -/
theorem insPile_len {T : List (List W)} {p : List W} {m : Nat} (hm : m ≤ p.length) (h : ∀ n, n < p.length → (p.take (n + 1) ∈ T ↔ n + 1 ≤ m)) : (insPile T p).length = T.length + (p.length - m) := by
  unfold insPile
  have go : ∀ j, j ≤ p.length → ((begs p j).foldl ins T).length = T.length + (j - m) := by
    intro j
    induction j with
    | zero => intro _; unfold begs; simp
    | succ j ih =>
      intro hj
      have ih := ih (by omega)
      rw [begs_succ, List.foldl_append]
      show (ins ((begs p j).foldl ins T) (p.take (j + 1))).length = _
      have mem : p.take (j + 1) ∈ (begs p j).foldl ins T ↔ j + 1 ≤ m := by
        rw [mem_foldl, mem_begs, h j (by omega)]
        constructor
        · rintro (q | ⟨n, hn, e⟩)
          · exact q
          · have := congrArg List.length e
            rw [List.length_take, List.length_take] at this
            omega
        · exact .inl
      by_cases c : p.take (j + 1) ∈ (begs p j).foldl ins T
      · have := mem.mp c
        rw [ins_old c]
        omega
      · have : ¬ j + 1 ≤ m := fun q => c (mem.mpr q)
        rw [ins_new c, List.length_append]
        show _ + 1 = _
        omega
  exact go _ (Nat.le_refl _)
def ltW (x y : W) : Bool := PySem.W.dataLt (wD x) (wD y)
def ltR (x y : List W) : Bool := PySem.W.rowLt (x.map wD) (y.map wD)
theorem alikeW (x y : W) : PySem.W.alike (wD x) (wD y) = true := by
  unfold wD
  simp [PySem.W.alike, PySem.W.alikeAll]
theorem ltR_nil (y : W) (ys : List W) : ltR [] (y :: ys) = true := by
  unfold ltR PySem.W.rowLt
  rw [List.map_nil, List.map_cons, PySem.W.toks_all_cons]
  simp only [PySem.W.keyToksAll]
  rw [lex_diff (O := itemOrd) (by simp)]
  rfl
theorem ltR_cons (x y : W) (xs ys : List W) : ltR (x :: xs) (y :: ys) = if x = y then ltR xs ys else ltW x y := by
  unfold ltR PySem.W.rowLt
  rw [List.map_cons, List.map_cons, PySem.W.dataLt_cons (alikeW x y), wD_eqv]
  by_cases e : x = y
  · rw [if_pos (decide_eq_true e), if_pos e]
  · rw [if_neg (by rw [decide_eq_false e]; exact Bool.false_ne_true), if_neg e]
    rfl
theorem ltW_tri {x y : W} (h : x ≠ y) (h1 : ltW x y = false) : ltW y x = true := by
  obtain ⟨s, n⟩ := x
  obtain ⟨t, m⟩ := y
  unfold ltW wD at *
  rw [PySem.W.dataLt_pair (by simp [PySem.W.alike]) (by simp [PySem.W.alike])] at *
  simp only [PyData.eqv, PySem.W.dataLt_str, PySem.W.dataLt_int, beq_iff_eq] at *
  by_cases e : s = t
  · subst e
    rw [if_pos rfl] at *
    by_cases e2 : n = m
    · subst e2
      exact absurd rfl h
    · rw [if_neg e2] at h1
      rw [if_neg (fun q => e2 q.symm)]
      rw [decide_eq_false_iff_not] at h1
      rw [decide_eq_true_eq]
      omega
  · rw [if_neg e] at h1
    rw [if_neg (fun q => e q.symm)]
    rw [decide_eq_false_iff_not] at h1
    rw [decide_eq_true_eq]
    by_cases q : t.cps.toList < s.cps.toList
    · exact q
    · exact absurd (Str.ext' (Array.toList_inj.mp (List.le_antisymm (List.not_lt.mp q) (List.not_lt.mp h1)))) e
/-- a beginning of the one ahead and of the one behind is one of those between -/
theorem mid_pre : ∀ {q a b c : List W}, ltR b a = false → ltR c b = false → q <+: a → q <+: c → q <+: b
  | [], _, _, _, _, _, _, _ => List.nil_prefix
  | z :: q, a, b, c, h1, h2, pa, pc => by
    cases a with
    | nil => simp at pa
    | cons x xs =>
      cases c with
      | nil => simp at pc
      | cons y ys =>
        rw [List.cons_prefix_cons] at pa pc
        obtain ⟨rfl, pa⟩ := pa
        obtain ⟨rfl, pc⟩ := pc
        cases b with
        | nil => rw [ltR_nil] at h1; cases h1
        | cons w ws =>
          rw [ltR_cons] at h1 h2
          by_cases e : w = z
          · subst e
            rw [if_pos rfl] at h1 h2
            rw [List.cons_prefix_cons]
            exact ⟨rfl, mid_pre h1 h2 pa pc⟩
          · rw [if_neg e] at h1
            rw [if_neg (fun q => e q.symm)] at h2
            rw [ltW_tri e h1] at h2
            cases h2
theorem ltR_irrefl (a : List W) : ltR a a = false := lex_irrefl _
/-- as the law counts -/
def sumL : List W → List (List W) → Nat
  | _, [] => 0
  | prev, p :: ps => (p.length - lcp prev p) + sumL p ps
theorem trie_snoc (l : List (List W)) (p : List W) : trie (l ++ [p]) = insPile (trie l) p := by
  unfold trie
  rw [List.foldl_append] <;> rfl
theorem trie_step {l : List (List W)} {prev p : List W} (hl : (l = [] ∧ prev = []) ∨ (prev ∈ l ∧ ∀ a ∈ l, ltR prev a = false)) (hp : ltR p prev = false) :
    (trie (l ++ [p])).length = (trie l).length + (p.length - lcp prev p) := by
  rw [trie_snoc]
  refine insPile_len (lcp_le prev p).1 fun n hn => ?_
  rw [mem_trie, ← take_pre prev p (n + 1) hn]
  constructor
  · rintro ⟨a, ha, k, hk, e⟩
    have e2 : p.take (n + 1) <+: a := by rw [e]; exact List.take_prefix _ _
    rcases hl with ⟨rfl, _⟩ | ⟨_, hl⟩
    · cases ha
    · exact mid_pre (hl a ha) hp e2 (List.take_prefix _ _)
  · intro h
    rcases hl with ⟨_, rfl⟩ | ⟨hm, _⟩
    · have := List.prefix_nil.mp h
      have := congrArg List.length this
      rw [List.length_take, List.length_nil] at this
      omega
    · refine ⟨prev, hm, n, ?_, ?_⟩
      · have := h.length_le
        rw [List.length_take] at this
        omega
      · have e := List.prefix_iff_eq_take.mp h
        rw [List.length_take, Nat.min_eq_left (by omega)] at e
        exact e
theorem sum_trie : ∀ {r l : List (List W)} {prev : List W}, ((l = [] ∧ prev = []) ∨ (prev ∈ l ∧ ∀ a ∈ l, ltR prev a = false)) → (l ++ r).Pairwise (fun a b => ltR b a = false) → (∀ p ∈ r, ltR p prev = false) →
    (trie (l ++ r)).length = (trie l).length + sumL prev r
  | [], l, prev, _, _, _ => by rw [List.append_nil]; rfl
  | p :: r, l, prev, hl, hs, hr => by
    have hp := hr p List.mem_cons_self
    have h1 := trie_step hl hp
    have es : l ++ p :: r = (l ++ [p]) ++ r := by rw [List.append_assoc] <;> rfl
    rw [es] at hs ⊢
    have hs' := List.pairwise_append.mp hs
    have hs2 := List.pairwise_append.mp hs'.1
    rw [sum_trie (l := l ++ [p]) (prev := p) (.inr ⟨List.mem_append_right _ List.mem_cons_self, fun a ha => ?_⟩) hs fun q hq => hs'.2.2 p (List.mem_append_right _ List.mem_cons_self) q hq, h1]
    · show _ + _ + _ = _ + ((p.length - lcp prev p) + sumL p r)
      omega
    · rcases List.mem_append.mp ha with ha | ha
      · exact hs2.2.2 a ha p List.mem_cons_self
      · rw [List.mem_singleton.mp ha]
        exact ltR_irrefl p
theorem ltR_nil_r (p : List W) : ltR p [] = false := by
  cases p with
  | nil => exact ltR_irrefl _
  | cons x xs =>
    unfold ltR PySem.W.rowLt
    rw [List.map_nil, List.map_cons, PySem.W.toks_all_cons]
    simp only [PySem.W.keyToksAll]
    rw [lex_diff (O := itemOrd) (by simp)]
    rfl
theorem sorted_sum {ps qs : List (List W)} (hp : qs.Perm ps) (hs : qs.Pairwise (fun a b => ltR b a = false)) : sumL [] qs = (trie ps).length := by
  have h := sum_trie (r := qs) (l := []) (prev := []) (.inl ⟨rfl, rfl⟩) hs (fun p _ => ltR_nil_r p)
  rw [trie_len_perm (ps := ps) (qs := qs) (fun p => hp.symm.mem_iff)]
  rw [List.nil_append] at h
  rw [h]
  show _ = 0 + _
  omega
end Wk

/-! The program's dict of beginnings, as a mirror of the trie. -/
namespace Wk
open PySem PySem.Spec PyProof.Rows L2 Wp Wq Wr Wd
def numOf (T : List (List W)) (q : List W) : Nat := if q = [] then 0 else T.idxOf q + 1
def lastW (q : List W) : W := q.getLast?.getD (Str.empty, 0)
def entT (T : List (List W)) (q : List W) : KW × V := ((((numOf T q.dropLast : Nat) : Int), lastW q), V.int ((numOf T q : Nat) : Int))
def kvsT (T : List (List W)) : List (KW × V) := T.map (entT T)
structure TOk (T : List (List W)) : Prop where
  nd : T.Nodup
  ne : ∀ q ∈ T, q ≠ []
  cl : ∀ q ∈ T, q.dropLast = [] ∨ q.dropLast ∈ T
theorem TOk.nil : TOk [] := ⟨List.nodup_nil, (fun _ h => nomatch h), (fun _ h => nomatch h)⟩
theorem numOf_nil (T : List (List W)) : numOf T [] = 0 := if_pos rfl
theorem numOf_mem {T : List (List W)} {q : List W} (h : q ≠ []) : numOf T q = T.idxOf q + 1 := if_neg h
theorem numOf_inj {T : List (List W)} {a b : List W} (ha : a = [] ∨ a ∈ T) (hb : b = [] ∨ b ∈ T) (e : numOf T a = numOf T b) : a = b := by
  by_cases ca : a = []
  · by_cases cb : b = []
    · rw [ca, cb]
    · rw [ca, numOf_nil, numOf_mem cb] at e
      omega
  · by_cases cb : b = []
    · rw [cb, numOf_nil, numOf_mem ca] at e
      omega
    · rw [numOf_mem ca, numOf_mem cb] at e
      have ha := ha.resolve_left ca
      have hb := hb.resolve_left cb
      have h1 := List.getElem_idxOf (List.idxOf_lt_length_of_mem ha)
      have h2 := List.getElem_idxOf (List.idxOf_lt_length_of_mem hb)
      have e' : T.idxOf a = T.idxOf b := by omega
      rw [← h1, ← h2]
      simp only [e']
theorem numOf_app {T : List (List W)} {q x : List W} (h : q = [] ∨ q ∈ T) : numOf (T ++ [x]) q = numOf T q := by
  by_cases c : q = []
  · rw [c, numOf_nil, numOf_nil]
  · have h := h.resolve_left c
    rw [numOf_mem c, numOf_mem c, List.idxOf_append, if_pos h]
theorem numOf_new {T : List (List W)} {x : List W} (h : x ∉ T) (c : x ≠ []) : numOf (T ++ [x]) x = T.length + 1 := by
  rw [numOf_mem c, List.idxOf_append, if_neg h]
  simp
theorem lastW_app (p : List W) (z : W) : lastW (p ++ [z]) = z := by
  unfold lastW
  simp
theorem drop_last {q : List W} (h : q ≠ []) : q.dropLast ++ [lastW q] = q := by
  have e := List.dropLast_concat_getLast h
  unfold lastW
  rw [List.getLast?_eq_some_getLast h]
  exact e
theorem valV_none {T : List (List W)} {f : List W → KW × V} {k : KW} (h : ∀ q ∈ T, (f q).1 ≠ k) : valV (T.map f) k = none := by
  induction T with
  | nil => rfl
  | cons q T ih =>
    rw [List.map_cons, valV_neg (h q List.mem_cons_self)]
    exact ih fun x hx => h x (List.mem_cons_of_mem _ hx)
theorem valV_some {T : List (List W)} {f : List W → KW × V} {k : KW} {q : List W} (hq : q ∈ T) (h : ∀ x ∈ T, (f x).1 = k ↔ x = q) : valV (T.map f) k = some (f q).2 := by
  induction T with
  | nil => cases hq
  | cons x T ih =>
    rw [List.map_cons]
    by_cases c : (f x).1 = k
    · have e := (h x List.mem_cons_self).mp c
      subst e
      exact valV_pos c
    · rw [valV_neg c]
      have hx : q ∈ T := by
        rcases List.mem_cons.mp hq with e | e
        · subst e
          exact absurd ((h q List.mem_cons_self).mpr rfl) c
        · exact e
      exact ih hx fun y hy => h y (List.mem_cons_of_mem _ hy)
theorem key_iff {T : List (List W)} (h : TOk T) {p q : List W} {z : W} (hp : p = [] ∨ p ∈ T) (hq : q ∈ T) : (entT T q).1 = (((numOf T p : Nat) : Int), z) ↔ q = p ++ [z] := by
  constructor
  · intro e
    have e1 : ((numOf T q.dropLast : Nat) : Int) = ((numOf T p : Nat) : Int) := congrArg Prod.fst e
    have e2 : lastW q = z := congrArg Prod.snd e
    have e3 := numOf_inj (h.cl q hq) hp (by omega)
    rw [← drop_last (h.ne q hq), e3, e2]
  · rintro rfl
    unfold entT
    rw [List.dropLast_concat, lastW_app]
theorem step_old {T : List (List W)} (h : TOk T) {p : List W} {z : W} (hp : p = [] ∨ p ∈ T) (hq : p ++ [z] ∈ T) : valV (kvsT T) (((numOf T p : Nat) : Int), z) = some (.int ((numOf T (p ++ [z]) : Nat) : Int)) :=
  valV_some hq fun x hx => key_iff h hp hx
theorem step_none {T : List (List W)} (h : TOk T) {p : List W} {z : W} (hp : p = [] ∨ p ∈ T) (hq : p ++ [z] ∉ T) : valV (kvsT T) (((numOf T p : Nat) : Int), z) = none :=
  valV_none fun x hx e => hq (by rw [← (key_iff h hp hx).mp e]; exact hx)
theorem step_new {T : List (List W)} (h : TOk T) {p : List W} {z : W} (hp : p = [] ∨ p ∈ T) (hq : p ++ [z] ∉ T) : kvsT (T ++ [p ++ [z]]) = kvsT T ++ [((((numOf T p : Nat) : Int), z), .int ((T.length + 1 : Nat) : Int))] := by
  unfold kvsT
  rw [List.map_append]
  congr 1
  · refine List.map_congr_left fun q hm => ?_
    unfold entT
    rw [numOf_app (h.cl q hm), numOf_app (.inr hm)]
  · rw [List.map_cons, List.map_nil]
    unfold entT
    rw [List.dropLast_concat, lastW_app, numOf_app hp, numOf_new hq (by simp)]
theorem TOk.app {T : List (List W)} (h : TOk T) {p : List W} {z : W} (hp : p = [] ∨ p ∈ T) (hq : p ++ [z] ∉ T) : TOk (T ++ [p ++ [z]]) := by
  refine ⟨?_, fun q hm => ?_, fun q hm => ?_⟩
  · have := ins_nodup (q := p ++ [z]) h.nd
    rw [ins_new hq] at this
    exact this
  · rcases List.mem_append.mp hm with hm | hm
    · exact h.ne q hm
    · rw [List.mem_singleton.mp hm]; simp
  · rcases List.mem_append.mp hm with hm | hm
    · rcases h.cl q hm with e | e
      · exact .inl e
      · exact .inr (List.mem_append_left _ e)
    · rw [List.mem_singleton.mp hm, List.dropLast_concat]
      rcases hp with e | e
      · exact .inl e
      · exact .inr (List.mem_append_left _ e)
/-- the trie behind j worths of a pile -/
def at_ (T : List (List W)) (p : List W) (j : Nat) : List (List W) := (begs p j).foldl ins T
theorem at_zero (T : List (List W)) (p : List W) : at_ T p 0 = T := rfl
theorem at_succ {T : List (List W)} {p : List W} {j : Nat} {z : W} (h : p[j]? = some z) : at_ T p (j + 1) = ins (at_ T p j) (p.take j ++ [z]) := by
  unfold at_
  rw [begs_succ, List.foldl_append, List.take_add_one, h]
  rfl
theorem at_len (T : List (List W)) (p : List W) : at_ T p p.length = insPile T p := rfl
theorem at_here {T : List (List W)} {p : List W} {j : Nat} (hj : j ≤ p.length) : p.take j = [] ∨ p.take j ∈ at_ T p j := by
  cases j with
  | zero => exact .inl (List.take_zero)
  | succ j =>
    refine .inr ?_
    unfold at_
    rw [mem_foldl, mem_begs]
    exact .inr ⟨j, Nat.lt_succ_self _, rfl⟩
theorem at_ok {T : List (List W)} {p : List W} (h : TOk T) : ∀ j, j ≤ p.length → TOk (at_ T p j)
  | 0, _ => h
  | j + 1, hj => by
    have ih := at_ok (p := p) h j (by omega)
    obtain ⟨z, hz⟩ : ∃ z, p[j]? = some z := ⟨p[j]'(by omega), List.getElem?_eq_getElem (by omega)⟩
    rw [at_succ hz]
    by_cases c : p.take j ++ [z] ∈ at_ T p j
    · rw [ins_old c]; exact ih
    · rw [ins_new c]; exact ih.app (at_here (T := T) (p := p) (j := j) (by omega)) c
theorem trie_ok' : ∀ {ps T : List (List W)}, TOk T → TOk (ps.foldl insPile T)
  | [], _, h => h
  | p :: ps, _, h => trie_ok' (ps := ps) (at_ok h p.length (Nat.le_refl _))
theorem trie_ok (ps : List (List W)) : TOk (trie ps) := trie_ok' TOk.nil
theorem at_size {T : List (List W)} {p : List W} : ∀ j, (at_ T p j).length ≤ T.length + j
  | 0 => Nat.le_refl _
  | j + 1 => by
    have ih := at_size (T := T) (p := p) j
    unfold at_ at *
    rw [begs_succ, List.foldl_append]
    show (ins ((begs p j).foldl ins T) (p.take (j + 1))).length ≤ _
    by_cases c : p.take (j + 1) ∈ (begs p j).foldl ins T
    · rw [ins_old c]; omega
    · rw [ins_new c, List.length_append]
      show _ + 1 ≤ _
      omega
theorem trie_size : ∀ {ps T : List (List W)} {m : Nat}, (∀ p ∈ ps, p.length ≤ m) → (ps.foldl insPile T).length ≤ T.length + ps.length * m
  | [], T, m, _ => by simp
  | p :: ps, T, m, h => by
    have h1 := at_size (T := T) (p := p) p.length
    have h2 := trie_size (ps := ps) (T := insPile T p) (m := m) (fun q hq => h q (List.mem_cons_of_mem _ hq))
    have h3 := h p List.mem_cons_self
    rw [at_len] at h1
    rw [List.foldl_cons, List.length_cons, Nat.succ_mul]
    omega
end Wk

/-! Bags; lists of drawn worths. -/
namespace Wb
open PySem PySem.Spec PyProof.Rows L2 Wp Wq Wr
def Bag (H : Hp) (b : Addr) (n : Nat) : Prop := ∃ x y z : Int, H b = some (.lst [.int x, .int y, .int z]) ∧ 0 ≤ y ∧ y < 4611686018427387904 ∧ 0 ≤ z ∧ z ≤ n
theorem Bag.mono {H : Hp} {b : Addr} {n m : Nat} (h : Bag H b n) (k : n ≤ m) : Bag H b m := by
  obtain ⟨x, y, z, h1, h2, h3, h4, h5⟩ := h
  exact ⟨x, y, z, h1, h2, h3, h4, by omega⟩
theorem Bag.ne_new {H : Hp} {b p : Addr} {n : Nat} (h : Bag H b n) (k : H p = none) : p ≠ b := by
  obtain ⟨x, y, z, h1, h⟩ := h
  exact (ne_of_none h1 k).symm
theorem Bag.keep {H H' : Hp} {b : Addr} {n : Nat} (h : Bag H b n) (k : Same H H') : Bag H' b n := by
  obtain ⟨x, y, z, h1, h⟩ := h
  exact ⟨x, y, z, k _ _ h1, h⟩
theorem Bag.upd {H : Hp} {b r : Addr} {n : Nat} {o : HO} (h : Bag H b n) (k : r ≠ b) : Bag (L2.upd H r o) b n := by
  obtain ⟨x, y, z, h1, h⟩ := h
  exact ⟨x, y, z, by rw [upd_ne k.symm]; exact h1, h⟩
theorem Bag.ks {H H' : Hp} {b : Addr} {n : Nat} (h : Bag H b n) (k : Kp b H H') : Ks [b] H H' := by
  obtain ⟨x, y, z, h1, h⟩ := h
  exact Ks.kp k h1 List.mem_cons_self
theorem Bag.at {H H' : Hp} {b : Addr} {n : Nat} (h : Bag H b n) (k : ∀ o, H b = some o → H' b = some o) : Bag H' b n := by
  obtain ⟨x, y, z, h1, h⟩ := h
  exact ⟨x, y, z, k _ h1, h⟩
theorem small {n : Nat} (h : n < 1000000) : n < sizeLine := Nat.lt_of_lt_of_le h (by decide)
section
variable {S : List Addr} {H H1 H2 : Hp} {a b D : Addr} {σ : L2.St} {g : TG} {te : TE} {vs : List Nat} {Qd : Hp → Prop}
/-- a new list is not looked at by what stood -/
theorem Ks.drop (x : Ks (D :: S) H1 H2) (s : Ks S H H1) (n : H D = none) : Ks S H H2 :=
  ⟨fun a o na e => x.keep a o (fun q => (List.mem_cons.mp q).elim (fun q => by rw [q, n] at e; cases e) na) (s.keep a o na e), s.tk.trans x.tk⟩
theorem Ks.kpOf (x : Ks [b] H H1) : Kp b H H1 := fun a o n e => x.keep a o (fun q => n (List.mem_singleton.mp q)) e
theorem Ks.kpNew (x : Ks (D :: [b]) H1 H2) (s : Same H H1) (n : H D = none) : Kp b H H2 := Ks.kpOf (Ks.drop x (Ks.same s) n)
theorem Ks.updD {o : HO} {bs : List V} (h : H D = some (.lst bs)) : Ks [D] H (upd H D o) := Ks.upd h List.mem_cons_self
/-- [.. for j in range(m)], a bag and a new list of worths -/
theorem lc_worths {m n inc : Nat} {ok : W → Prop} (hm : m < 1000) (hb : Bag H b n) (hD : H D = none)
    (body : ∀ (j : Nat) (H1 : Hp), j < m → ∀ R : V → Hp → Prop, Bag H1 b (n + inc * j) → Ks [D, b] (upd H D (.lst [])) H1 → (∀ v z H2, IsW H2 v z → ok z → Bag H2 b (n + inc * j + inc) → Kp b H1 H2 → R v H2) →
      g (.int (0 + (j : Int))) (wipe σ vs) H1 fun σ2 H2 => wipe σ2 vs = wipe σ vs ∧ te σ2 H2 R)
    (done : ∀ (H1 : Hp) (acc : List V) (ws : List W), Bag H1 b (n + inc * m) → Ks [b] H H1 → H1 D = some (.lst acc) → Pile H1 acc ws → ws.length = m → (∀ z ∈ ws, ok z) → Qd H1) :
    LoopC (Itr 0 m) g tYes te vs σ D Qd (upd H D (.lst [])) := by
  have hDb : D ≠ b := hb.ne_new hD
  refine loopCR (fun j H' => Bag H' b (n + inc * j) ∧ Ks [D, b] (upd H D (.lst [])) H' ∧ ∃ acc ws, H' D = some (.lst acc) ∧ Pile H' acc ws ∧ ws.length = j ∧ ∀ z ∈ ws, ok z) ⟨hb.keep (same_new hD), Ks.refl, [], [], upd_same, Pile.nil, rfl, (fun _ h => nomatch h)⟩ ?_ ?_
  · rintro j H3 hj ⟨hb3, k3, acc, ws, hD3, p3, wl, wok⟩
    refine body j H3 hj (fun y H4 => ∃ acc, H4 D = some (.lst acc) ∧ acc.length < sizeLine ∧ _) hb3 k3 fun v z H4 wz oz hb4 k4 => ?_
    have tk4 : Tk H3 H4 := (hb3.ks k4).tk
    have hD4 := k4 _ _ hDb hD3
    refine ⟨acc, hD4, ?_, ?_, ?_, _, _, upd_same, (Pile.app (p3.keep tk4) (Pile.one wz)).keep (Tk.lst hD4), ?_, ?_⟩
    · rw [p3.len]; exact small (by omega)
    · rw [Nat.mul_succ, ← Nat.add_assoc]
      exact hb4.upd hDb
    · exact k3.trans ((Ks.mono (hb3.ks k4) (by simp)).trans (Ks.upd hD4 List.mem_cons_self))
    · rw [List.length_append, wl] <;> rfl
    · intro x hx
      rcases List.mem_append.mp hx with hx | hx
      · exact wok x hx
      · rw [List.mem_singleton.mp hx]; exact oz
  · rintro H3 ⟨hb3, k3, acc, ws, hD3, p3, wl, wok⟩
    exact done H3 acc ws hb3 (Ks.drop k3 (Ks.same (same_new hD)) hD) hD3 p3 wl wok
end
end Wb

/-! Lists of piles as data; sorted. -/
namespace Wc
open PySem PySem.Spec PyProof.Rows L2 Wp Wq Wr Wk Wb
def lD (p : List W) : PyData := .list (p.map wD)
def PsOk (Ps : List (List W)) : Prop := ∀ q ∈ Ps, q.length ≤ 400 ∧ ∀ z ∈ q, Wok z
section
variable {S : List Addr} {H H1 H2 : Hp} {a b D : Addr} {K : PySem.W.Frag} {ys : List V} {Ps : List (List W)} {v : V} {p : List W}
theorem IsLs.dp (h : IsLs S H v p) : Dp K H v (lD p) := by
  obtain ⟨l, vs, rfl, hl, hp, _⟩ := h
  exact hp.dp (SqL.of hl)
theorem Lists.dpAll (h : Lists S H ys Ps) : DpAll K H ys (Ps.map lD) := by
  unfold Lists at h
  induction h with
  | nil => exact .nil
  | cons r t ih => exact .cons (IsLs.dp r) ih
theorem Lists.dp (h : Lists S H ys Ps) (e : SqL K H a ys) : Dp K H (.ref a) (.list (Ps.map lD)) := .lst e (Lists.dpAll h)
theorem lD_lay (h : ∀ z ∈ p, Wok z) : (lD p).canLay0 = true := by
  unfold lD
  simp only [PyData.canLay0]
  exact wDs_lay p h
theorem lDs_lay : ∀ Ps : List (List W), PsOk Ps → PyData.canLayAll0 (Ps.map lD) = true
  | [], _ => by simp [PyData.canLayAll0]
  | p :: Ps, h => by
    rw [List.map_cons]
    simp only [PyData.canLayAll0]
    rw [lD_lay (h p List.mem_cons_self).2, lDs_lay Ps (fun x hx => h x (List.mem_cons_of_mem _ hx))] <;> rfl
theorem lD_depth (p : List W) : (lD p).depth ≤ 2 := by
  have := wDs_depth p
  unfold lD
  simp only [PyData.depth]
  omega
theorem lDs_depth : ∀ Ps : List (List W), PyData.depthAll (Ps.map lD) ≤ 2
  | [] => by simp [PyData.depthAll]
  | p :: Ps => by
    have h := lDs_depth Ps
    have h2 := lD_depth p
    rw [List.map_cons]
    simp only [PyData.depthAll]
    omega
theorem lDs_shaped (h : PsOk Ps) : SeqAt.shaped (.list (Ps.map lD)) = true := by
  have h2 := lDs_depth Ps
  have h3 : (PyData.list (Ps.map lD)).depth ≤ 64 := by
    simp only [PyData.depth]
    omega
  show (PyData.canLay0 (.list (Ps.map lD)) && decide ((PyData.list (Ps.map lD)).depth ≤ 64)) = true
  rw [decide_eq_true h3, Bool.and_true]
  simp only [PyData.canLay0]
  exact lDs_lay Ps h
/-! ### sorted -/
def RB (S : List Addr) (H : Hp) (b : Ws.VD) (p : List W) : Prop := b.2 = lD p ∧ IsLs S H b.1 p
theorem lists_bs (h : Lists S H ys Ps) : ∃ bs : List Ws.VD, bs.map (·.1) = ys ∧ Paired (RB S H) bs Ps := by
  unfold Lists at h
  induction h with
  | nil => exact ⟨[], rfl, .nil⟩
  | @cons x p l1 l2 r t ih =>
    obtain ⟨bs, e, q⟩ := ih
    exact ⟨(x, lD p) :: bs, by rw [List.map_cons, e], .cons ⟨rfl, r⟩ q⟩
theorem bs_lists {bs : List Ws.VD} (h : Paired (RB S H) bs Ps) : Lists S H (bs.map (·.1)) Ps := by
  induction h with
  | nil => exact .nil
  | cons r t ih => exact .cons r.2 ih
theorem perm_pair {α β : Type} {R : α → β → Prop} {l1 l1' : List α} (h : l1'.Perm l1) : ∀ {l2 : List β}, Paired R l1 l2 → ∃ l2', l2'.Perm l2 ∧ Paired R l1' l2' := by
  induction h with
  | nil => intro l2 q; cases q; exact ⟨[], .nil, .nil⟩
  | cons x _ ih =>
    intro l2 q
    cases q with
    | @cons _ y _ t r q =>
      obtain ⟨t', ht, qt⟩ := ih q
      exact ⟨y :: t', .cons _ ht, .cons r qt⟩
  | swap x y l =>
    intro l2 q
    cases q with
    | cons r q => cases q with
      | cons r2 q => exact ⟨_, .swap _ _ _, .cons r2 (.cons r q)⟩
  | trans _ _ ih1 ih2 =>
    intro l2 q
    obtain ⟨m, hm, qm⟩ := ih2 q
    obtain ⟨l', hl, ql⟩ := ih1 qm
    exact ⟨l', hl.trans hm, ql⟩
theorem le_lt {a b : Ws.VD} {p q : List W} (ha : a.2 = lD p) (hb : b.2 = lD q) (h : Ws.leD a b = true) : ltR q p = false := by
  have h2 : (!PySem.W.dataLt b.2 a.2) = true := h
  rw [ha, hb] at h2
  have e : PySem.W.dataLt (lD q) (lD p) = ltR q p := PySem.W.dataLt_list _ _
  rw [e] at h2
  cases c : ltR q p with
  | false => rfl
  | true => rw [c] at h2; cases h2
theorem pair_wise {bs : List Ws.VD} (h : Paired (RB S H) bs Ps) (hs : bs.Pairwise (fun a b => Ws.leD a b = true)) : Ps.Pairwise (fun a b => ltR b a = false) := by
  induction h with
  | nil => exact .nil
  | @cons x p l1 l2 r t ih =>
    rw [List.pairwise_cons] at hs ⊢
    refine ⟨fun q hq => ?_, ih hs.2⟩
    obtain ⟨i, hi⟩ := List.mem_iff_getElem?.mp hq
    obtain ⟨b, hb, rb⟩ := pair_at t hi
    exact le_lt r.1 rb.1 (hs.1 b (List.mem_of_getElem? hb))
theorem leD_total : PySem.W.TotalLe Ws.leD := PySem.W.sortLe_total _ false _
theorem sorted_bs {bs : List Ws.VD} (h : Paired (RB S H) bs Ps) : ∃ Ps', Ps'.Perm Ps ∧ Lists S H ((bs.mergeSort Ws.leD).map (·.1)) Ps' ∧ Ps'.Pairwise (fun a b => ltR b a = false) := by
  obtain ⟨Ps', hp, q⟩ := perm_pair (List.mergeSort_perm bs Ws.leD) h
  exact ⟨Ps', hp, bs_lists q, pair_wise q (PySem.W.sort_pairwise leD_total bs)⟩
theorem bs_dp {bs : List Ws.VD} (h : Paired (RB S H) bs Ps) : ∀ b ∈ bs, Dp K H b.1 b.2 := fun b hb => by
  obtain ⟨i, hi⟩ := List.mem_iff_getElem?.mp hb
  obtain ⟨p, _, e, r⟩ := pair_at1 h hi
  rw [e]
  exact IsLs.dp r
theorem alikeL : ∀ (p q : List W), PySem.W.alikeAll (p.map wD) (q.map wD) = true
  | [], _ => by simp [PySem.W.alikeAll]
  | _ :: _, [] => by simp [PySem.W.alikeAll]
  | x :: p, y :: q => by
    rw [List.map_cons, List.map_cons]
    simp only [PySem.W.alikeAll]
    rw [alikeW, alikeL p q] <;> rfl
theorem bs_alike {bs : List Ws.VD} (h : Paired (RB S H) bs Ps) : PySem.W.AllAlike (bs.map (·.2)) := by
  intro d hd d' hd'
  obtain ⟨b, hb, rfl⟩ := List.mem_map.mp hd
  obtain ⟨b', hb', rfl⟩ := List.mem_map.mp hd'
  obtain ⟨i, hi⟩ := List.mem_iff_getElem?.mp hb
  obtain ⟨j, hj⟩ := List.mem_iff_getElem?.mp hb'
  obtain ⟨p, _, e, _⟩ := pair_at1 h hi
  obtain ⟨q, _, e', _⟩ := pair_at1 h hj
  rw [e, e']
  unfold lD
  simp only [PySem.W.alike]
  exact alikeL p q
theorem bs_sortable {bs : List Ws.VD} (h : Paired (RB S H) bs Ps) : PySem.W.Sortable (bs.map (·.2)) := .inr fun d hd => by
  obtain ⟨b, hb, rfl⟩ := List.mem_map.mp hd
  obtain ⟨i, hi⟩ := List.mem_iff_getElem?.mp hb
  obtain ⟨p, _, e, _⟩ := pair_at1 h hi
  rw [e]
  exact ⟨(fun q => nomatch q), fun xs q => nomatch q⟩
theorem bs_depth {bs : List Ws.VD} (h : Paired (RB S H) bs Ps) : ∀ b ∈ bs, b.2.depth ≤ 60 := fun b hb => by
  obtain ⟨i, hi⟩ := List.mem_iff_getElem?.mp hb
  obtain ⟨p, _, e, _⟩ := pair_at1 h hi
  rw [e]
  exact Nat.le_trans (lD_depth p) (by decide)
/-- the sorted list of piles -/
theorem sort_lists {Q : VK} {X : List V} (h : Lists S H ys Ps) (e : X = [.ref a]) (hs : SqL K H a ys) (q : ∀ (q : Addr) (ys' : List V) (Ps' : List (List W)), H q = none → Ps'.Perm Ps → Lists S H ys' Ps' → Ps'.Pairwise (fun a b => ltR b a = false) → Q (.ref q) (upd H q (.lst ys'))) : Ws.rSortD K X H Q := by
  obtain ⟨bs, eb, hb⟩ := lists_bs h
  obtain ⟨Ps', hp, L, hw⟩ := sorted_bs hb
  exact ⟨a, bs, e, by rw [eb]; exact hs, bs_dp hb, bs_alike hb, bs_sortable hb, bs_depth hb, fun p hp0 => q p _ Ps' hp0 hp L hw⟩
end
/-! ### sums -/
theorem sumL_snoc : ∀ (l : List (List W)) (prev p : List W), sumL prev (l ++ [p]) = sumL prev l + (p.length - lcp (l.getLastD prev) p)
  | [], prev, p => by
    show (p.length - lcp prev p) + 0 = 0 + _
    rw [Nat.add_zero, Nat.zero_add]
    rfl
  | q :: l, prev, p => by
    show (q.length - lcp prev q) + sumL q (l ++ [p]) = (q.length - lcp prev q) + sumL q l + _
    rw [sumL_snoc l q p, Nat.add_assoc]
    congr 3
    cases l <;> simp [List.getLastD]
theorem lcp_step : ∀ {a b : List W} {m : Nat}, m ≤ lcp a b → (m < lcp a b ↔ ∃ z, a[m]? = some z ∧ b[m]? = some z)
  | [], b, m, h => by
    have e : lcp [] b = 0 := lcp_nil b
    rw [e] at h ⊢
    simp
  | x :: xs, [], m, h => by
    have e : lcp (x :: xs) [] = 0 := rfl
    rw [e] at h ⊢
    simp
  | x :: xs, y :: ys, m, h => by
    rw [lcp_cons] at h ⊢
    by_cases c : x = y
    · rw [if_pos c] at h ⊢
      subst c
      cases m with
      | zero => simp
      | succ m =>
        have ih := lcp_step (a := xs) (b := ys) (m := m) (by omega)
        rw [List.getElem?_cons_succ, List.getElem?_cons_succ, ← ih]
        omega
    · rw [if_neg c] at h ⊢
      have e : m = 0 := by omega
      subst e
      simp only [List.getElem?_cons_zero]
      constructor
      · intro q; omega
      · rintro ⟨z, h1, h2⟩
        cases h1
        cases h2
        exact absurd rfl c
theorem cut_drop {xs : List V} {n : Nat} : cutV xs (some (n : Int)) none = xs.drop n := by
  unfold cutV
  rw [show HT.sIx xs.length 0 (some (n : Int)) = min n xs.length from HT.sIx_nat .., show HT.sIx xs.length xs.length none = xs.length from HT.sIx_none ..]
  by_cases h : n ≤ xs.length
  · rw [Nat.min_eq_left h, List.take_of_length_le (by rw [List.length_drop]; omega)]
  · rw [Nat.min_eq_right (by omega), List.drop_of_length_le (Nat.le_refl _), List.drop_of_length_le (by omega), List.take_nil]
theorem Lists.take {S : List Addr} {H : Hp} {ys : List V} {Ps : List (List W)} (h : Lists S H ys Ps) : ∀ n, Lists S H (ys.take n) (Ps.take n) := by
  unfold Lists at *
  induction h with
  | nil => intro n; cases n <;> exact .nil
  | cons r t ih => intro n; cases n with
    | zero => exact .nil
    | succ n => exact .cons r (ih n)
theorem Lists.drop {S : List Addr} {H : Hp} {ys : List V} {Ps : List (List W)} (h : Lists S H ys Ps) : ∀ n, Lists S H (ys.drop n) (Ps.drop n) := by
  unfold Lists at *
  induction h with
  | nil => intro n; cases n <;> exact .nil
  | cons r t ih => intro n; cases n with
    | zero => exact .cons r t
    | succ n => exact ih n
theorem Lists.rev {S : List Addr} {H : Hp} {ys : List V} {Ps : List (List W)} (h : Lists S H ys Ps) : Lists S H ys.reverse Ps.reverse := by
  unfold Lists at *
  induction h with
  | nil => exact .nil
  | cons r t ih =>
    rw [List.reverse_cons, List.reverse_cons]
    exact pair_app ih (.cons r .nil)
theorem revL {σ : L2.St} {H : Hp} {Q : VK} {te : TE} {K : PySem.W.Frag} (h : te σ H fun x H1 => ∃ a xs, x = .ref a ∧ SqL K H1 a xs ∧ ∀ p, H1 p = none → Q (.ref p) (upd H1 p (.lst xs.reverse))) : tRevL K te σ H Q := h
end Wc

namespace K09
open PySem PySem.Spec PyProof.Rows L2 Wp Wq Wr Wb
/-! ### the text by places -/
def topS (i : Nat) : Stmt := PySem.Challenge.pw_manygoings_k09_spots.main.body.getD i (.Pass ⟨0, 0, 0, 0⟩)
abbrev s_beginnings_of : Stmt := topS 1
abbrev s_spots : Stmt := topS 2
abbrev s_cell_at : Stmt := topS 4
abbrev s_bag : Stmt := topS 5
abbrev s_draw : Stmt := topS 6
abbrev s_worth : Stmt := topS 7
abbrev s_whole : Stmt := topS 8
abbrev s_many_piles : Stmt := topS 9
abbrev s_piles : Stmt := topS 10
abbrev s_alike : Stmt := topS 11
abbrev s_lspots : Stmt := topS 12
abbrev s_law : Stmt := topS 13
theorem sc_beginnings_of : FnScope ["piles", "numbers", "pile", "at", "worth"] ["piles"] (defScope s_beginnings_of) := ⟨rfl, rfl, rfl, by decide +kernel, rfl, by decide +kernel, by decide +kernel⟩
theorem sc_spots : FnScope ["piles"] ["piles"] (defScope s_spots) := ⟨rfl, rfl, rfl, by decide +kernel, rfl, by decide +kernel, by decide +kernel⟩
theorem sc_cell_at : FnScope ["script", "k"] ["script", "k"] (defScope s_cell_at) := ⟨rfl, rfl, rfl, by decide +kernel, rfl, by decide +kernel, by decide +kernel⟩
theorem sc_bag : FnScope ["cell", "place"] ["cell", "place"] (defScope s_bag) := ⟨rfl, rfl, rfl, by decide +kernel, rfl, by decide +kernel, by decide +kernel⟩
theorem sc_draw : FnScope ["bag", "many", "found", "mixed"] ["bag", "many"] (defScope s_draw) := ⟨rfl, rfl, rfl, by decide +kernel, rfl, by decide +kernel, by decide +kernel⟩
theorem sc_worth : FnScope ["bag", "few", "at", "word", "number", "k"] ["bag", "few"] (defScope s_worth) := ⟨rfl, rfl, rfl, by decide +kernel, rfl, by decide +kernel, by decide +kernel⟩
theorem sc_whole : FnScope ["found"] ["found"] (defScope s_whole) := ⟨rfl, rfl, rfl, by decide +kernel, rfl, by decide +kernel, by decide +kernel⟩
theorem sc_many_piles : FnScope ["bag", "k", "base", "kinds", "piles", "upto", "more", "j"] ["bag"] (defScope s_many_piles) := ⟨rfl, rfl, rfl, by decide +kernel, rfl, by decide +kernel, by decide +kernel⟩
theorem sc_piles : FnScope ["bag", "great", "few", "many", "most", "piles", "k", "begun", "pile", "old", "j"] ["bag"] (defScope s_piles) := ⟨rfl, rfl, rfl, by decide +kernel, rfl, by decide +kernel, by decide +kernel⟩
theorem sc_alike : FnScope ["one", "other", "many"] ["one", "other"] (defScope s_alike) := ⟨rfl, rfl, rfl, by decide +kernel, rfl, by decide +kernel, by decide +kernel⟩
theorem sc_lspots : FnScope ["piles", "many", "ahead", "pile"] ["piles"] (defScope s_lspots) := ⟨rfl, rfl, rfl, by decide +kernel, rfl, by decide +kernel, by decide +kernel⟩
theorem sc_law : FnScope ["script", "none", "k", "bag", "piles", "at", "some", "handed", "found", "pile"] ["script"] (defScope s_law) := ⟨rfl, rfl, rfl, by decide +kernel, rfl, by decide +kernel, by decide +kernel⟩
/-! ### the facts of the top -/
structure Txt (P : Program) (w : World) (K : PySem.W.Frag) (mg : Str → Option Value) where
  f_beginnings_of : Addr
  fd_beginnings_of : FuncData
  F_beginnings_of : Fun K "beginnings_of" "beginnings_of" s_beginnings_of f_beginnings_of fd_beginnings_of
  b_beginnings_of : Binds K fd_beginnings_of ["piles"] []
  g_beginnings_of : mg "beginnings_of" = some (.ref f_beginnings_of)
  f_spots : Addr
  fd_spots : FuncData
  F_spots : Fun K "spots" "spots" s_spots f_spots fd_spots
  b_spots : Binds K fd_spots ["piles"] []
  g_spots : mg "spots" = some (.ref f_spots)
  f_cell_at : Addr
  fd_cell_at : FuncData
  F_cell_at : Fun K "_law_cell_at" "_law_cell_at" s_cell_at f_cell_at fd_cell_at
  b_cell_at : Binds K fd_cell_at ["script", "k"] []
  g_cell_at : mg "_law_cell_at" = some (.ref f_cell_at)
  f_bag : Addr
  fd_bag : FuncData
  F_bag : Fun K "_law_bag" "_law_bag" s_bag f_bag fd_bag
  b_bag : Binds K fd_bag ["cell", "place"] []
  g_bag : mg "_law_bag" = some (.ref f_bag)
  f_draw : Addr
  fd_draw : FuncData
  F_draw : Fun K "_law_draw" "_law_draw" s_draw f_draw fd_draw
  b_draw : Binds K fd_draw ["bag", "many"] []
  g_draw : mg "_law_draw" = some (.ref f_draw)
  f_worth : Addr
  fd_worth : FuncData
  F_worth : Fun K "_law_worth" "_law_worth" s_worth f_worth fd_worth
  b_worth : Binds K fd_worth ["bag", "few"] []
  g_worth : mg "_law_worth" = some (.ref f_worth)
  f_whole : Addr
  fd_whole : FuncData
  F_whole : Fun K "_law_whole" "_law_whole" s_whole f_whole fd_whole
  b_whole : Binds K fd_whole ["found"] []
  g_whole : mg "_law_whole" = some (.ref f_whole)
  f_many_piles : Addr
  fd_many_piles : FuncData
  F_many_piles : Fun K "_law_many_piles" "_law_many_piles" s_many_piles f_many_piles fd_many_piles
  b_many_piles : Binds K fd_many_piles ["bag"] []
  g_many_piles : mg "_law_many_piles" = some (.ref f_many_piles)
  f_piles : Addr
  fd_piles : FuncData
  F_piles : Fun K "_law_piles" "_law_piles" s_piles f_piles fd_piles
  b_piles : Binds K fd_piles ["bag"] []
  g_piles : mg "_law_piles" = some (.ref f_piles)
  f_alike : Addr
  fd_alike : FuncData
  F_alike : Fun K "_law_alike" "_law_alike" s_alike f_alike fd_alike
  b_alike : Binds K fd_alike ["one", "other"] []
  g_alike : mg "_law_alike" = some (.ref f_alike)
  f_lspots : Addr
  fd_lspots : FuncData
  F_lspots : Fun K "_law_spots" "_law_spots" s_lspots f_lspots fd_lspots
  b_lspots : Binds K fd_lspots ["piles"] []
  g_lspots : mg "_law_spots" = some (.ref f_lspots)
  f_law : Addr
  fd_law : FuncData
  F_law : Fun K "law" "law" s_law f_law fd_law
  b_law : Binds K fd_law ["script"] []
  g_law : mg "law" = some (.ref f_law)
  n_bool : mg "bool" = none
  n_int : mg "int" = none
  n_isinstance : mg "isinstance" = none
  n_len : mg "len" = none
  n_list : mg "list" = none
  n_max : mg "max" = none
  n_min : mg "min" = none
  n_range : mg "range" = none
  n_sorted : mg "sorted" = none

local macro_rules | `(tactic| walk_at "ne") => `(tactic| first
  | assumption
  | (refine Ne.symm ?_; assumption)
  | exact ne_of_none (by assumption) (by assumption)
  | exact (ne_of_none (by assumption) (by assumption)).symm
  | exact ne_of (by assumption) (by assumption) (by intro q; cases q))
local macro_rules | `(tactic| walk_at "hp") => `(tactic| first
  | assumption
  | exact upd_same
  | (refine (upd_ne ?_).trans ?_; (walk_at "ne"); (walk_at "hp")))
local macro_rules | `(tactic| walk_at "sq") => `(tactic| first
  | assumption
  | exact SqL.of (by walk_at "hp")
  | exact SqT.of (by walk_at "hp"))
local macro_rules | `(tactic| walk_at "kind") => `(tactic| first
  | assumption
  | exact Kind.int _
  | exact Kind.str _
  | exact Kind.bl _
  | exact Kind.non
  | exact Kind.tup (by walk_at "hp")
  | exact Kind.lst (by walk_at "hp")
  | exact Kind.dK (by walk_at "hp"))
local macro_rules | `(tactic| walk_at "w1") => `(tactic| first
  | (with_reducible refine Wp.seq ?_)
  | (with_reducible refine Wp.nx_mk ?_)
  | (with_reducible refine Wp.rt_mk ?_)
  | (with_reducible refine Wp.bk_mk ?_)
  | (with_reducible refine Wp.ct_mk ?_)
  | (with_reducible refine Wp.next ?_)
  | (with_reducible refine Wp.asg ?_)
  | ((with_reducible refine' Wp.gname ?e ?_); (case e => (try dsimp only [List.set, L2.wipe, List.map_cons, List.map_nil]); (try exact rfl)))
  | (with_reducible refine Wp.gsub ?_)
  | (with_reducible refine Wp.ret ?_)
  | (with_reducible refine Wp.retN ?_)
  | (with_reducible refine Wp.drop ?_)
  | (with_reducible refine Wp.dput ?_)
  | (with_reducible refine Wp.ifs ?_)
  | ((with_reducible refine' Wp.var ?h ?_); (case h => exact rfl))
  | (with_reducible refine Wp.con ?_)
  | (with_reducible refine Wp.op ?_)
  | (with_reducible refine Wp.un ?_)
  | (with_reducible refine Wp.cb ?_)
  | (with_reducible refine Wp.anil ?_)
  | (with_reducible refine Wp.acons ?_)
  | (with_reducible refine Wp.call ?_)
  | (with_reducible refine Wp.test ?_)
  | (with_reducible refine Wp.tb_ ?_)
  | (with_reducible refine Wp.and_ ?_)
  | (with_reducible refine Wp.or_ ?_)
  | (with_reducible refine Wp.not_ ?_)
  | (with_reducible refine Wp.andV ?_)
  | (with_reducible refine Wp.orV ?_)
  | (with_reducible refine Wp.notV ?_)
  | (with_reducible refine Wp.rI0_ ?_)
  | (with_reducible refine Wp.rU_ ?_)
  | ((with_reducible refine Wp.rEq_ ?k ?_); (case k => exact rfl))
  | ((with_reducible refine Wp.rNe_ ?k ?_); (case k => exact rfl))
  | (with_reducible refine Wp.gcons ?_)
  | (with_reducible refine Wp.gnil ?_)
  | ((with_reducible refine' Wp.gtup ?h ?e ?_); (case h => walk_at "sq"); (case e => exact rfl))
  | (with_reducible refine Wp.sl ?_)
  | (with_reducible refine Wp.part ?_)
  | (with_reducible refine Wp.nopart ?_)
  | (with_reducible refine Wp.ifE ?_)
  | (with_reducible refine Wp.bm0 ?_)
  | (with_reducible refine Wp.bm ?_)
  | (with_reducible refine Wp.lcR1 ?_)
  | (with_reducible refine Wp.lcR2 ?_)
  | (with_reducible refine Wp.lcL ?_)
  | (with_reducible refine Wp.chain ?_)
  | (with_reducible refine Wp.lc2V ?_)
  | (with_reducible refine Wp.piL ?_)
  | (with_reducible refine Wp.yes ?_)
  | (with_reducible refine Wp.dinI ?_)
  | (with_reducible refine Wp.dninI ?_)
  | (with_reducible refine Wp.dget ?_)
  | ((with_reducible refine' ⟨?k, ?_⟩); (case k => show L2.wipe _ _ = L2.wipe _ _; exact rfl))
  | (with_reducible refine Wp.forR1 ?_)
  | (with_reducible refine Wp.forR2 ?_)
  | (with_reducible refine Wp.forL ?_)
  | (with_reducible refine Wp.forT ?_)
  | ((with_reducible refine' ⟨?k, ?_⟩); (case k => exact Wp.tyvL (by walk_at "hp")))
  | ((with_reducible refine' Wp.rev_ ?k ?_); (case k => walk_at "hp"))
  | ((with_reducible refine' Wp.isi ?k ?h ?_); (case k => walk_at "kind"); (case h => decide))
  | ((with_reducible refine' Wp.typ ?k ?_); (case k => walk_at "kind"))
  | (with_reducible refine Wp.slS ?k ?_; (case k => assumption))
  | (with_reducible refine iteT ?_)
  | (with_reducible refine iteF ?_)
  | (with_reducible refine Wc.revL ?_)
  | (with_reducible refine Wd.nm ?_)
  | (with_reducible refine Wd.nget ?_)
  | ((with_reducible refine Wd.tnew ?_); intro p hp)
  | (with_reducible refine Wd.pikn ?_)
  | (with_reducible refine Wt.m1 ?_)
  | (with_reducible refine Wt.m0 ?_)
  | ((with_reducible refine' ⟨?k, ?_⟩); (case k => show ∃ a, _ = V.str a; exact ⟨_, rfl⟩))
  | (with_reducible refine Wt.js_cons ?_)
  | (with_reducible refine Wt.fmt_ ?_)
  | (with_reducible refine Wp.pcons ?_)
  | (with_reducible refine Wp.pnil ?_)
  | ((with_reducible refine' Wp.iteBnT ?h ?_); (case h => show isB _ _ = false; decide))
  | ((with_reducible refine' Wp.iteBnF ?h ?_); (case h => show isB _ _ = true; decide))
  | ((with_reducible refine' Wp.iteBt ?h ?_); (case h => show isB _ _ = true; decide))
  | ((with_reducible refine' Wp.iteBf ?h ?_); (case h => show isB _ _ = false; decide))
  | (with_reducible refine Wp.iteT' ?_)
  | (with_reducible refine Wp.iteF' ?_)
  | (with_reducible refine Wp.rNT_ ?_)
  | ((with_reducible refine Wp.lst ?_))
  | ((with_reducible refine Wp.tup ?_))
  | ((with_reducible refine' Wp.ixL ?h ?e ?_); (case h => walk_at "sq"); (case e => exact rfl))
  | ((with_reducible refine' Wp.ixT ?h ?e ?_); (case h => walk_at "sq"); (case e => exact rfl))
  | ((with_reducible refine' Wp.setL ?h ?e ?_); (case h => walk_at "hp"); (case e => exact rfl))
  | ((with_reducible refine Wp.rI_ ?k ?_); (case k => first | (show (0:Int) < _; omega) | (show CPow _ _; refine' ⟨?_, ?_, ?_⟩ <;> omega) | (show CDiv _ _; refine' ⟨?_, ?_⟩ <;> omega) | (show CMul _ _; refine' Or.inl ⟨?_, ?_⟩ <;> omega) | (show CMul _ _; refine' Or.inr ⟨?_, ?_⟩ <;> first | omega | decide) | (show CDivW _ _; refine' wide_div (b := 240) ?_ ?_ ?_ ?_ <;> first | omega | decide)))
  | ((with_reducible refine ⟨?k, ?_⟩); (case k => first | exact Nat.zero_le _ | (exact Nat.le_of_ble_eq_true rfl)); intro p hp)
  | ((with_reducible refine' ⟨_, _, rfl, .inl ?k, ?_⟩); (case k => walk_at "sq"))
  | ((with_reducible refine' ⟨_, _, rfl, .inr ?k, ?_⟩); (case k => walk_at "sq"))
  | (with_reducible refine ⟨_, rfl, ?_⟩)
  | (with_reducible refine ⟨_, _, rfl, rfl, ?_⟩)
  | (with_reducible refine ⟨_, _, rfl, ?_⟩))
local macro_rules | `(tactic| walk_at "wp") => `(tactic| repeat (walk_at "w1"))

section
variable {P : Program} {w : World} {K : PySem.W.Frag} {mg : Str → Option Value} {base : Heap}
def spCell (K : PySem.W.Frag) : Sp := fun vs H Q _ => ∃ (a : Addr) (ns : List Int) (k : Nat), vs = [.ref a, .int k] ∧ SqL K H a (ns.map V.int) ∧ ∀ v, Q (.int v) H
theorem ok_cell_at (T : Txt P w K mg) : FnOk P w K mg base CX0 1 T.f_cell_at T.fd_cell_at ["script", "k"] (spCell K) := by
  refine T.F_cell_at.ok sc_cell_at (fun vs H Q E h => ?_) (fun cdv A outer s H vs Q E hr h => ?_)
  · obtain ⟨a, ns, k, rfl, _⟩ := h
    rfl
  · obtain ⟨a, ns, k, rfl, hS, q⟩ := h
    refine ⟨_, (pss_cons (ps_if (pt_cmpR op_lt (pv 1) (pe_callB call_len_seq (by rfl) T.n_len (by decide +kernel) (pa_cons (pv 0) pa_nil)) (nomark _)) (pss_one (ps_ret (pe_ix ix_list (pv 0) (pv 1) (fun _ _ => rfl)))) pss_nil)
      (pss_one (ps_ret pe_int))), ?_⟩
    rw [show L2.start ["script", "k"] [.ref a, .int k] = [some (.ref a), some (.int k)] from rfl]
    try dsimp only [cxOf]
    walk_at "wp"
    refine ite_ (fun c => ?_) (fun c => ?_)
    · walk_at "wp"
      have hk : k < ns.length := by
        rw [List.length_map] at c
        omega
      refine ixL hS (atI_nat (v := .int ns[k]) ?_) ?_
      · rw [List.getElem?_map, List.getElem?_eq_getElem hk]
        rfl
      · exact q _
    · walk_at "wp"
      exact q _

def spBag : Sp := fun vs H Q _ => ∃ (c : Int) (p : Nat), vs = [.int c, .int p] ∧ p ≤ 100 ∧ ∀ b H', H b = none → Bag H' b 0 → Same H H' → Q (.ref b) H'
theorem ok_bag (T : Txt P w K mg) : FnOk P w K mg base CX0 1 T.f_bag T.fd_bag ["cell", "place"] spBag := by
  refine T.F_bag.ok sc_bag (fun vs H Q E h => ?_) (fun cdv A outer s H vs Q E hr h => ?_)
  · obtain ⟨c, p, rfl, _⟩ := h
    rfl
  · obtain ⟨c, p, rfl, hp, q⟩ := h
    refine ⟨_, (pss_one (ps_ret (pe_lst (pa_cons (pe_callB (call_max2 rfl) (by rfl) T.n_max (by decide +kernel) (pa_cons pe_int (pa_cons (pe_op op_sub (pv 0) (pe_op op_pow pe_int pe_int)) pa_nil))) (pa_cons (pe_op op_add (pe_op op_mod (pv 0) pe_int) (pe_op op_mul pe_int (pv 1))) (pa_cons pe_int pa_nil)))))), ?_⟩
    rw [show L2.start ["cell", "place"] [.int c, .int p] = [some (.int c), some (.int p)] from rfl]
    try dsimp only [cxOf]
    walk_at "wp"
    refine q _ _ ‹_› ⟨_, _, _, upd_same, ?_, ?_, by omega, by omega⟩ (same_new ‹_›)
    · have := Int.emod_nonneg c (show (2305843009213693951 : Int) ≠ 0 by decide)
      omega
    · have := Int.emod_lt_of_pos c (show (0 : Int) < 2305843009213693951 by decide)
      omega

def spDraw : Sp := fun vs H Q _ => ∃ (b : Addr) (n : Nat) (m : Int), vs = [.ref b, .int m] ∧ Bag H b n ∧ n < 1000000 ∧ 0 < m ∧ m < 2 ^ 240 ∧ ∀ v H', 0 ≤ v → v < m → Bag H' b (n + 1) → Kp b H H' → Q (.int v) H'
theorem ok_draw (T : Txt P w K mg) : FnOk P w K mg base CX0 1 T.f_draw T.fd_draw ["bag", "many"] spDraw := by
  refine T.F_draw.ok sc_draw (fun vs H Q E h => ?_) (fun cdv A outer s H vs Q E hr h => ?_)
  · obtain ⟨b, n, m, rfl, _⟩ := h
    rfl
  · obtain ⟨b, n, m, rfl, ⟨x, y, z, hb, hy, hy2, hz, hz2⟩, hn, hm, hm2, k⟩ := h
    refine ⟨_, (pss_cons (ps_if (pt_cmpR op_gt (pe_ix ix_list (pv 0) pe_int (fun _ _ => rfl)) pe_int (nomark _)) (pss_cons (ps_set (i := 2) sc_draw.nd rfl (.inl rfl) (pe_op op_mod (pe_ix ix_list (pv 0) pe_int (fun _ _ => rfl)) (pv 1)))
      (pss_cons (ps_asg (pe_op op_fdivW (pe_ix ix_list (pv 0) pe_int (fun _ _ => rfl)) (pv 1)) (pg_sub (pv 0) pe_int set_list))
      (pss_one (ps_ret (pv 2))))) pss_nil)
      (pss_cons (ps_asg (pe_op op_add (pe_ix ix_list (pv 0) pe_int (fun _ _ => rfl)) pe_int) (pg_sub (pv 0) pe_int set_list))
      (pss_cons (ps_set (i := 3) sc_draw.nd rfl (.inl rfl) (pe_op op_mod (pe_op op_pow (pe_op op_add (pe_ix ix_list (pv 0) pe_int (fun _ _ => rfl)) (pe_op op_mul pe_int (pe_ix ix_list (pv 0) pe_int (fun _ _ => rfl)))) pe_int) pe_int))
      (pss_cons (ps_set (i := 3) sc_draw.nd rfl (.inl rfl) (pe_op op_mod (pe_op op_pow (pe_op op_add (pv 3) (pe_op op_mul pe_int (pe_ix ix_list (pv 0) pe_int (fun _ _ => rfl)))) pe_int) pe_int))
      (pss_one (ps_ret (pe_op op_mod (pe_op op_fdiv (pv 3) pe_int) (pv 1)))))))), ?_⟩
    rw [show L2.start ["bag", "many", "found", "mixed"] [.ref b, .int m] = [some (.ref b), some (.int m), none, none] from rfl]
    try dsimp only [cxOf]
    walk_at "wp"
    refine ite_ (fun c => ?_) (fun c => ?_)
    · walk_at "wp"
      refine k _ _ ?_ ?_ ⟨_, _, _, upd_same, hy, hy2, hz, by omega⟩ Kp.at
      · exact Int.emod_nonneg _ (by omega)
      · exact Int.emod_lt_of_pos _ hm
    · walk_at "wp"
      refine k _ _ ?_ ?_ ⟨_, _, _, upd_same, hy, hy2, by omega, by omega⟩ Kp.at
      · exact Int.emod_nonneg _ (by omega)
      · exact Int.emod_lt_of_pos _ hm

def spWhole : Sp := fun vs H Q _ => ∃ (v : V) (T : String), vs = [v] ∧ Kind H v T ∧ Q (.bl (decide (T = "int"))) H
theorem ok_whole (T : Txt P w K mg) : FnOk P w K mg base CX0 1 T.f_whole T.fd_whole ["found"] spWhole := by
  refine T.F_whole.ok sc_whole (fun vs H Q E h => ?_) (fun cdv A outer s H vs Q E hr h => ?_)
  · obtain ⟨v, ty, rfl, _⟩ := h
    rfl
  · obtain ⟨v, ty, rfl, hk, q⟩ := h
    refine ⟨_, (pss_one (ps_ret (pe_and (pe_callB call_isi (by rfl) T.n_isinstance (by decide +kernel) (pa_cons (pv 0) (pa_cons (pe_bltn (v := .ty "int") (by rfl) T.n_int (by decide +kernel) rfl) pa_nil))) (pe_one (pe_not (pe_callB call_isi (by rfl) T.n_isinstance (by decide +kernel) (pa_cons (pv 0) (pa_cons (pe_bltn (v := .ty "bool") (by rfl) T.n_bool (by decide +kernel) rfl) pa_nil)))))))), ?_⟩
    rw [show L2.start ["found"] [v] = [some v] from rfl]
    try dsimp only [cxOf]
    walk_at "wp"
    by_cases e1 : ty = "int"
    · subst e1
      walk_at "wp"
      exact q
    · rw [decide_eq_false e1] at q
      by_cases e2 : ty = "bool"
      · subst e2
        walk_at "wp"
        exact q
      · rw [show isB ty "int" = false by unfold isB; rw [decide_eq_false e1, decide_eq_false e2] <;> rfl]
        walk_at "wp"
        exact q

def spWorth : Sp := fun vs H Q _ => ∃ (b : Addr) (n : Nat) (f : Int), vs = [.ref b, .int f] ∧ Bag H b n ∧ n < 800000 ∧ 0 < f ∧ f ≤ 1000 ∧ ∀ v z H', IsW H' v z → Wok z → Bag H' b (n + 6) → Kp b H H' → Q v H'
theorem ok_worth (T : Txt P w K mg) : FnOk P w K mg base CX0 2 T.f_worth T.fd_worth ["bag", "few"] spWorth := by
  have G_draw := ok_draw (base := base) T
  refine T.F_worth.ok sc_worth (fun vs H Q E h => ?_) (fun cdv A outer s H vs Q E hr h => ?_)
  · obtain ⟨b, n, f, rfl, _⟩ := h
    rfl
  · obtain ⟨b, n, f, rfl, hb, hn, f0, f1, k⟩ := h
    refine ⟨_, (pss_cons (ps_set (i := 2) sc_worth.nd rfl (.inl rfl) (pe_call G_draw (hr.mono (by decide)) (by rfl) T.g_draw T.F_draw.kp T.b_draw .nil pass0 (pa_cons (pv 0) (pa_cons (pv 1) pa_nil))))
      (pss_cons (ps_set (i := 3) sc_worth.nd rfl (.inl rfl) (pe_ix ix_list (pe_lst (pa_cons pe_str (pa_cons pe_str (pa_cons pe_str (pa_cons pe_str pa_nil))))) (pe_op op_mod (pv 2) pe_int) (fun _ _ => rfl)))
      (pss_cons (ps_if (pt_cmpR op_lt (pv 2) pe_int (nomark _)) (pss_one (ps_ret (pe_tup (pa_cons (pv 3) (pa_cons (pe_op op_fdiv (pv 2) pe_int) pa_nil))))) pss_nil)
      (pss_cons (ps_set (i := 4) sc_worth.nd rfl (.inl rfl) pe_int)
      (pss_cons (ps_for PassesOwn.never rfl (pi_range1 (by rfl) T.n_range (pa_cons pe_int pa_nil)) (pg_name (i := 5) sc_worth.nd rfl (.inl rfl)) (pss_one (ps_set (i := 4) sc_worth.nd rfl (.inl rfl) (pe_op op_add (pe_op op_mul (pv 4) (pe_op op_pow pe_int pe_int)) (pe_call G_draw (hr.mono (by decide)) (by rfl) T.g_draw T.F_draw.kp T.b_draw .nil pass0 (pa_cons (pv 0) (pa_cons (pe_op op_pow pe_int pe_int) pa_nil)))))))
      (pss_cons (ps_if (PW.pt (pw_and (pt_cmpR op_eq (pv 3) pe_str (nomark _)) (pw_and1 (pt_cmpR op_eq (pe_op op_mod (pv 4) pe_int) pe_int (nomark _))))) (pss_one (ps_ret (pe_tup (pa_cons (pv 3) (pa_cons (pe_op op_sub pe_int (pv 4)) pa_nil))))) pss_nil)
      (pss_one (ps_ret (pe_tup (pa_cons (pv 3) (pa_cons (pv 4) pa_nil))))))))))), ?_⟩
    rw [show L2.start ["bag", "few", "at", "word", "number", "k"] [.ref b, .int f] = [some (.ref b), some (.int f), none, none, none, none] from rfl]
    try dsimp only [cxOf]
    walk_at "wp"
    refine ⟨b, n, _, rfl, hb, by omega, by omega, by omega, fun at_ H1 a0 a1 hb1 k1 => ?_⟩
    walk_at "wp"
    rename_i l hl
    obtain ⟨wd, hwd, hw⟩ : ∃ wd : Str, atI [V.str (Str.ofString "num"), V.str (Str.ofString "at"), V.str (Str.ofString "box"), V.str (Str.ofString "go")] (at_ % 4) = some (V.str wd) ∧ PyData.strOk wd = true := by
      have cc : at_ % 4 = 0 ∨ at_ % 4 = 1 ∨ at_ % 4 = 2 ∨ at_ % 4 = 3 := by omega
      rcases cc with e | e | e | e <;> rw [e] <;> exact ⟨_, rfl, by decide +kernel⟩
    refine ixL (SqL.of upd_same) hwd ?_
    have hb1' := hb1.keep (same_new (o := .lst [V.str (Str.ofString "num"), V.str (Str.ofString "at"), V.str (Str.ofString "box"), V.str (Str.ofString "go")]) hl)
    have k1' : Kp b H (upd H1 l (.lst [V.str (Str.ofString "num"), V.str (Str.ofString "at"), V.str (Str.ofString "box"), V.str (Str.ofString "go")])) := Kp.trans k1 (Kp.new hl)
    generalize upd H1 l (.lst [V.str (Str.ofString "num"), V.str (Str.ofString "at"), V.str (Str.ofString "box"), V.str (Str.ofString "go")]) = H1' at hb1' k1'
    walk_at "wp"
    refine ite_ (fun c => ?_) (fun c => ?_)
    · walk_at "wp"
      rename_i t ht
      exact k _ (wd, _) _ ⟨t, rfl, upd_same⟩ hw ((hb1'.keep (same_new ht)).mono (by omega)) (Kp.trans k1' (Kp.new ht))
    · walk_at "wp"
      refine ⟨by decide, by decide, loopR (fun i σ H' => ∃ (g : Int) (v : Option V), σ = [some (.ref b), some (.int f), some (.int at_), some (.str wd), some (.int g), v] ∧ Bag H' b (n + 1 + i) ∧ Kp b H1' H') ⟨0, none, rfl, hb1', Kp.refl _ _⟩ ?_ ?_⟩
      · rintro i σ H3 hi ⟨g, v, rfl, hb3, k3⟩
        have hi5 : i < 5 := hi
        walk_at "wp"
        refine ⟨b, n + 1 + i, _, rfl, hb3, by omega, by decide, by decide, fun v4 H4 v0 v1 hb4 k4 => ?_⟩
        walk_at "wp"
        exact ⟨hb4, Kp.trans k3 k4⟩
      · rintro σ H3 ⟨g, v, rfl, hb3, k3⟩
        have hb3' : Bag H3 b (n + 6) := hb3
        have kk := Kp.trans k1' k3
        walk_at "wp"
        refine ite_ (fun c => ?_) (fun c => ?_)
        · walk_at "wp"
          refine ite_ (fun c => ?_) (fun c => ?_)
          · walk_at "wp"
            rename_i t ht
            exact k _ (wd, _) _ ⟨t, rfl, upd_same⟩ hw (hb3'.keep (same_new ht)) (Kp.trans kk (Kp.new ht))
          · walk_at "wp"
            rename_i t ht
            exact k _ (wd, _) _ ⟨t, rfl, upd_same⟩ hw (hb3'.keep (same_new ht)) (Kp.trans kk (Kp.new ht))
        · walk_at "wp"
          rename_i t ht
          exact k _ (wd, _) _ ⟨t, rfl, upd_same⟩ hw (hb3'.keep (same_new ht)) (Kp.trans kk (Kp.new ht))

end
end K09

namespace K09
open PySem PySem.Spec PyProof.Rows L2 Wp Wq Wr Wb
local macro_rules | `(tactic| walk_at "ne") => `(tactic| first
  | assumption
  | (refine Ne.symm ?_; assumption)
  | exact ne_of_none (by assumption) (by assumption)
  | exact (ne_of_none (by assumption) (by assumption)).symm
  | exact ne_of (by assumption) (by assumption) (by intro q; cases q))
local macro_rules | `(tactic| walk_at "hp") => `(tactic| first
  | assumption
  | exact upd_same
  | (refine (upd_ne ?_).trans ?_; (walk_at "ne"); (walk_at "hp")))
local macro_rules | `(tactic| walk_at "sq") => `(tactic| first
  | assumption
  | exact SqL.of (by walk_at "hp")
  | exact SqT.of (by walk_at "hp"))
local macro_rules | `(tactic| walk_at "kind") => `(tactic| first
  | assumption
  | exact Kind.int _
  | exact Kind.str _
  | exact Kind.bl _
  | exact Kind.non
  | exact Kind.tup (by walk_at "hp")
  | exact Kind.lst (by walk_at "hp")
  | exact Kind.dK (by walk_at "hp"))
local macro_rules | `(tactic| walk_at "w1") => `(tactic| first
  | (with_reducible refine Wp.seq ?_)
  | (with_reducible refine Wp.nx_mk ?_)
  | (with_reducible refine Wp.rt_mk ?_)
  | (with_reducible refine Wp.bk_mk ?_)
  | (with_reducible refine Wp.ct_mk ?_)
  | (with_reducible refine Wp.next ?_)
  | (with_reducible refine Wp.asg ?_)
  | ((with_reducible refine' Wp.gname ?e ?_); (case e => (try dsimp only [List.set, L2.wipe, List.map_cons, List.map_nil]); (try exact rfl)))
  | (with_reducible refine Wp.gsub ?_)
  | (with_reducible refine Wp.ret ?_)
  | (with_reducible refine Wp.retN ?_)
  | (with_reducible refine Wp.drop ?_)
  | (with_reducible refine Wp.dput ?_)
  | (with_reducible refine Wp.ifs ?_)
  | ((with_reducible refine' Wp.var ?h ?_); (case h => exact rfl))
  | (with_reducible refine Wp.con ?_)
  | (with_reducible refine Wp.op ?_)
  | (with_reducible refine Wp.un ?_)
  | (with_reducible refine Wp.cb ?_)
  | (with_reducible refine Wp.anil ?_)
  | (with_reducible refine Wp.acons ?_)
  | (with_reducible refine Wp.call ?_)
  | (with_reducible refine Wp.test ?_)
  | (with_reducible refine Wp.tb_ ?_)
  | (with_reducible refine Wp.and_ ?_)
  | (with_reducible refine Wp.or_ ?_)
  | (with_reducible refine Wp.not_ ?_)
  | (with_reducible refine Wp.andV ?_)
  | (with_reducible refine Wp.orV ?_)
  | (with_reducible refine Wp.notV ?_)
  | (with_reducible refine Wp.rI0_ ?_)
  | (with_reducible refine Wp.rU_ ?_)
  | ((with_reducible refine Wp.rEq_ ?k ?_); (case k => exact rfl))
  | ((with_reducible refine Wp.rNe_ ?k ?_); (case k => exact rfl))
  | (with_reducible refine Wp.gcons ?_)
  | (with_reducible refine Wp.gnil ?_)
  | ((with_reducible refine' Wp.gtup ?h ?e ?_); (case h => walk_at "sq"); (case e => exact rfl))
  | (with_reducible refine Wp.sl ?_)
  | (with_reducible refine Wp.part ?_)
  | (with_reducible refine Wp.nopart ?_)
  | (with_reducible refine Wp.ifE ?_)
  | (with_reducible refine Wp.bm0 ?_)
  | (with_reducible refine Wp.bm ?_)
  | (with_reducible refine Wp.lcR1 ?_)
  | (with_reducible refine Wp.lcR2 ?_)
  | (with_reducible refine Wp.lcL ?_)
  | (with_reducible refine Wp.chain ?_)
  | (with_reducible refine Wp.lc2V ?_)
  | (with_reducible refine Wp.piL ?_)
  | (with_reducible refine Wp.yes ?_)
  | (with_reducible refine Wp.dinI ?_)
  | (with_reducible refine Wp.dninI ?_)
  | (with_reducible refine Wp.dget ?_)
  | ((with_reducible refine' ⟨?k, ?_⟩); (case k => show L2.wipe _ _ = L2.wipe _ _; exact rfl))
  | (with_reducible refine Wp.forR1 ?_)
  | (with_reducible refine Wp.forR2 ?_)
  | (with_reducible refine Wp.forL ?_)
  | (with_reducible refine Wp.forT ?_)
  | ((with_reducible refine' ⟨?k, ?_⟩); (case k => exact Wp.tyvL (by walk_at "hp")))
  | ((with_reducible refine' Wp.rev_ ?k ?_); (case k => walk_at "hp"))
  | ((with_reducible refine' Wp.isi ?k ?h ?_); (case k => walk_at "kind"); (case h => decide))
  | ((with_reducible refine' Wp.typ ?k ?_); (case k => walk_at "kind"))
  | (with_reducible refine Wp.slS ?k ?_; (case k => assumption))
  | (with_reducible refine iteT ?_)
  | (with_reducible refine iteF ?_)
  | (with_reducible refine Wc.revL ?_)
  | (with_reducible refine Wd.nm ?_)
  | (with_reducible refine Wd.nget ?_)
  | ((with_reducible refine Wd.tnew ?_); intro p hp)
  | (with_reducible refine Wd.pikn ?_)
  | (with_reducible refine Wt.m1 ?_)
  | (with_reducible refine Wt.m0 ?_)
  | ((with_reducible refine' ⟨?k, ?_⟩); (case k => show ∃ a, _ = V.str a; exact ⟨_, rfl⟩))
  | (with_reducible refine Wt.js_cons ?_)
  | (with_reducible refine Wt.fmt_ ?_)
  | (with_reducible refine Wp.pcons ?_)
  | (with_reducible refine Wp.pnil ?_)
  | ((with_reducible refine' Wp.iteBnT ?h ?_); (case h => show isB _ _ = false; decide))
  | ((with_reducible refine' Wp.iteBnF ?h ?_); (case h => show isB _ _ = true; decide))
  | ((with_reducible refine' Wp.iteBt ?h ?_); (case h => show isB _ _ = true; decide))
  | ((with_reducible refine' Wp.iteBf ?h ?_); (case h => show isB _ _ = false; decide))
  | (with_reducible refine Wp.iteT' ?_)
  | (with_reducible refine Wp.iteF' ?_)
  | (with_reducible refine Wp.rNT_ ?_)
  | ((with_reducible refine Wp.lst ?_))
  | ((with_reducible refine Wp.tup ?_))
  | ((with_reducible refine' Wp.ixL ?h ?e ?_); (case h => walk_at "sq"); (case e => exact rfl))
  | ((with_reducible refine' Wp.ixT ?h ?e ?_); (case h => walk_at "sq"); (case e => exact rfl))
  | ((with_reducible refine' Wp.setL ?h ?e ?_); (case h => walk_at "hp"); (case e => exact rfl))
  | ((with_reducible refine Wp.rI_ ?k ?_); (case k => first | (show (0:Int) < _; omega) | (show CPow _ _; refine' ⟨?_, ?_, ?_⟩ <;> omega) | (show CDiv _ _; refine' ⟨?_, ?_⟩ <;> omega) | (show CMul _ _; refine' Or.inl ⟨?_, ?_⟩ <;> omega) | (show CMul _ _; refine' Or.inr ⟨?_, ?_⟩ <;> first | omega | decide) | (show CDivW _ _; refine' wide_div (b := 240) ?_ ?_ ?_ ?_ <;> first | omega | decide)))
  | ((with_reducible refine ⟨?k, ?_⟩); (case k => first | exact Nat.zero_le _ | (exact Nat.le_of_ble_eq_true rfl)); intro p hp)
  | ((with_reducible refine' ⟨_, _, rfl, .inl ?k, ?_⟩); (case k => walk_at "sq"))
  | ((with_reducible refine' ⟨_, _, rfl, .inr ?k, ?_⟩); (case k => walk_at "sq"))
  | (with_reducible refine ⟨_, rfl, ?_⟩)
  | (with_reducible refine ⟨_, _, rfl, rfl, ?_⟩)
  | (with_reducible refine ⟨_, _, rfl, ?_⟩))
local macro_rules | `(tactic| walk_at "wp") => `(tactic| repeat (walk_at "w1"))

section
variable {P : Program} {w : World} {K : PySem.W.Frag} {mg : Str → Option Value} {base : Heap}
def spMany : Sp := fun vs H Q _ => ∃ (b : Addr) (n : Nat), vs = [.ref b] ∧ Bag H b n ∧ n ≤ 100 ∧ ∀ (p : Addr) (ys : List V) (Ps : List (List W)) (H' : Hp), H p = none → H' p = some (.lst ys) → Lists [b] H' ys Ps → (∀ q ∈ Ps, q.length ≤ 400 ∧ ∀ z ∈ q, Wok z) → 1 ≤ Ps.length → Ps.length ≤ 60 → Bag H' b (n + 50000) → Ks [b] H H' → Q (.ref p) H'
theorem ok_many_piles (T : Txt P w K mg) : FnOk P w K mg base CX0 3 T.f_many_piles T.fd_many_piles ["bag"] spMany := by
  have G_draw := ok_draw (base := base) T
  have G_worth := ok_worth (base := base) T
  refine T.F_many_piles.ok sc_many_piles (fun vs H Q E h => ?_) (fun cdv A outer s H vs Q E hr h => ?_)
  · obtain ⟨b, n, rfl, _⟩ := h
    rfl
  · obtain ⟨b, n, rfl, hb, hn, q⟩ := h
    refine ⟨_, (pss_cons (ps_setLc (i := 2) (own := [("k", 1)]) rfl sc_many_piles.nd rfl rfl (sw_true rfl rfl rfl (by decide +kernel)) (pi_range1 (by rfl) T.n_range (pa_cons (pe_call G_draw (hr.mono (by decide)) (by rfl) T.g_draw T.F_draw.kp T.b_draw .nil pass0 (pa_cons (pv 0) (pa_cons pe_int pa_nil))) pa_nil)) (blkOk_by (N := ["bag", "k", "base", "kinds", "piles", "upto", "more", "j"]) (sc := defScope s_many_piles) (by decide +kernel)) (fun _ _ _ _ _ => pg_name (i := 1) sc_many_piles.nd rfl (Or.inl rfl)) (fun _ _ _ _ _ => pts_nil) (fun _ _ _ _ _ => (pe_call G_worth (hr.mono (by decide)) (by rfl) T.g_worth T.F_worth.kp T.b_worth .nil pass0 (pa_cons (pv 0) (pa_cons pe_int pa_nil)))))
      (pss_cons (ps_set (i := 3) sc_many_piles.nd rfl (.inr rfl) (pe_ix ix_list (pe_lst (pa_cons pe_int (pa_cons pe_int pa_nil))) (pe_call G_draw (hr.mono (by decide)) (by rfl) T.g_draw T.F_draw.kp T.b_draw .nil pass0 (pa_cons (pv 0) (pa_cons pe_int pa_nil))) (fun _ _ => rfl)))
      (pss_cons (ps_set (i := 4) sc_many_piles.nd rfl (.inl rfl) (pe_lst pa_nil))
      (pss_cons (ps_for PassesOwn.never rfl (pi_range1 (by rfl) T.n_range (pa_cons (pe_op op_add pe_int (pe_call G_draw (hr.mono (by decide)) (by rfl) T.g_draw T.F_draw.kp T.b_draw .nil pass0 (pa_cons (pv 0) (pa_cons pe_int pa_nil)))) pa_nil)) (pg_name (i := 1) sc_many_piles.nd rfl (.inl rfl)) (pss_cons (ps_set (i := 5) sc_many_piles.nd rfl (.inl rfl) (pe_callB call_len_seq (by rfl) T.n_len (by decide +kernel) (pa_cons (pv 2) pa_nil)))
      (C8.pss_cut (ps_if (pt_cmpR op_eq (pe_call G_draw (hr.mono (by decide)) (by rfl) T.g_draw T.F_draw.kp T.b_draw .nil pass0 (pa_cons (pv 0) (pa_cons pe_int pa_nil))) pe_int (nomark _)) (pss_one (ps_set (i := 5) sc_many_piles.nd rfl (.inl rfl) (pe_call G_draw (hr.mono (by decide)) (by rfl) T.g_draw T.F_draw.kp T.b_draw .nil pass0 (pa_cons (pv 0) (pa_cons (pe_op op_add (pe_callB call_len_seq (by rfl) T.n_len (by decide +kernel) (pa_cons (pv 2) pa_nil)) pe_int) pa_nil))))) pss_nil)
      (pss_cons (ps_setLc (i := 6) (own := [("j", 7)]) rfl sc_many_piles.nd rfl rfl (sw_true rfl rfl rfl (by decide +kernel)) (pi_range1 (by rfl) T.n_range (pa_cons (pe_op op_add pe_int (pe_call G_draw (hr.mono (by decide)) (by rfl) T.g_draw T.F_draw.kp T.b_draw .nil pass0 (pa_cons (pv 0) (pa_cons pe_int pa_nil)))) pa_nil)) (blkOk_by (N := ["bag", "k", "base", "kinds", "piles", "upto", "more", "j"]) (sc := defScope s_many_piles) (by decide +kernel)) (fun _ _ _ _ _ => pg_name (i := 7) sc_many_piles.nd rfl (Or.inl rfl)) (fun _ _ _ _ _ => pts_nil) (fun _ _ _ _ _ => (pe_tup (pa_cons pe_str (pa_cons (pe_call G_draw (hr.mono (by decide)) (by rfl) T.g_draw T.F_draw.kp T.b_draw .nil pass0 (pa_cons (pv 0) (pa_cons (pv 3) pa_nil))) pa_nil)))))
      (pss_one (ps_expr (pe_bm PySem.F.plainAttrs_list PySem.F.slot_list_append PySem.F.type_list_append mt_append (pv 4) (pa_cons (pe_op op_cat (pe_slice sl_list (pv 2) po_none (po_some (pv 5))) (pv 6)) pa_nil))))))))
      (pss_one (ps_ret (pv 4))))))), ?_⟩
    rw [show L2.start ["bag", "k", "base", "kinds", "piles", "upto", "more", "j"] [.ref b] = [some (.ref b), none, none, none, none, none, none, none] from rfl]
    try dsimp only [cxOf]
    walk_at "wp"
    refine ⟨b, n, _, rfl, hb, by omega, by decide, by decide, fun m H1 m0 m1 hb1 k1 => ?_⟩
    walk_at "wp"
    refine ⟨by omega, by omega, fun D hD => lc_worths (inc := 6) (ok := Wok) (by omega) hb1 hD ?_ ?_⟩
    · intro j H2 hj R hb2 k2 k
      walk_at "wp"
      exact ⟨b, n + 1 + 6 * j, 32, rfl, hb2, by omega, by decide, by decide, k⟩
    intro H2 acc base_ hb2 k2 hD2 p2 l2 ok2
    have hDb : D ≠ b := hb1.ne_new hD
    have k02 : Ks [b] H H2 := (hb.ks k1).trans k2
    walk_at "wp"
    rename_i l hl
    refine ⟨b, n + 1 + 6 * m.toNat, _, rfl, hb2.keep (same_new hl), by omega, by decide, by decide, fun v H3 v0 v1 hb3 k3 => ?_⟩
    have hbl := hb2.ne_new hl
    have hl3 : H3 l = _ := k3 _ _ hbl upd_same
    obtain ⟨kinds, hk, kd0, kd1⟩ : ∃ kd : Int, atI [V.int 4, V.int 100] v = some (V.int kd) ∧ 0 < kd ∧ kd ≤ 100 := by
      have cc : v = 0 ∨ v = 1 := by omega
      rcases cc with e | e <;> rw [e]
      · exact ⟨4, rfl, by decide, by decide⟩
      · exact ⟨100, rfl, by decide, by decide⟩
    refine ixL (SqL.of hl3) hk ?_
    walk_at "wp"
    rename_i p hp
    have hDl : D ≠ l := ne_of_none hD2 hl
    have ks3 : Ks [b] H2 H3 := (Ks.new hl).trans ((hb2.keep (same_new hl)).ks k3)
    have ksp : Ks [b] H (upd H3 p (.lst [])) := k02.trans (ks3.trans (Ks.new hp))
    have hD3 := ks3.keep _ _ (fun q => hDb (List.mem_singleton.mp q)) hD2
    have hDp : D ≠ p := ne_of_none hD3 hp
    have hpb : p ≠ b := hb3.ne_new hp
    have pH : H p = none := by
      cases e : H p with
      | none => rfl
      | some o => exact absurd ((k02.trans ks3).keep _ _ (fun q => hpb (List.mem_singleton.mp q)) e) (by rw [hp]; exact fun h => nomatch h)
    have hDS : D ∉ [p, b] := by
      intro h
      rcases List.mem_cons.mp h with e | h
      · exact hDp e
      exact hDb (List.mem_singleton.mp h)
    have hb3' : Bag (upd H3 p (.lst [])) b (n + 200) := (hb3.keep (same_new hp)).mono (by omega)
    have hD3' := (same_new (o := .lst []) hp) _ _ hD3
    have p3' := (p2.keep ks3.tk).keep (Tk.new (o := .lst []) hp)
    have hp3' : upd H3 p (.lst []) p = some (.lst []) := upd_same
    generalize upd H3 p (.lst []) = H3' at ksp hb3' hD3' p3' hp3'
    refine ⟨b, n + 200, _, rfl, hb3', by omega, by decide, by decide, fun many H4 a0 a1 hb4 k4 => ?_⟩
    have ks4 := hb3'.ks k4
    have hD4 := k4 _ _ hDb hD3'
    have p4 := p3'.keep ks4.tk
    have hp4 := k4 _ _ hpb hp3'
    walk_at "wp"
    refine ⟨by omega, by omega, loopR (fun i σ H' => ∃ y1 y5 y6 ys Ps, σ = [some (.ref b), y1, some (.ref D), some (.int kinds), some (.ref p), y5, y6, none] ∧ Bag H' b (n + 201 + 10 * i) ∧ Ks [p, b] H4 H' ∧ H' p = some (.lst ys) ∧ Lists [p, b] H' ys Ps ∧ Ps.length = i ∧ ∀ q ∈ Ps, q.length ≤ 400 ∧ ∀ z ∈ q, Wok z)
      ⟨_, _, _, [], [], rfl, hb4, Ks.refl, hp4, .nil, rfl, (fun _ h => nomatch h)⟩ ?_ ?_⟩
    · rintro i σ H5 hi ⟨y1, y5, y6, ys, Ps, rfl, hb5, k5, hp5, L5, l5, ok5⟩
      have hi60 : i < 60 := by omega
      have hD5 := k5.keep _ _ hDS hD4
      have p5 := p4.keep k5.tk
      rw [Int.zero_add]
      walk_at "wp"
      refine Wp.cut (fun σ' H' => ∃ u : Nat, σ' = [some (.ref b), some (.int i), some (.ref D), some (.int kinds), some (.ref p), some (.int u), y6, none] ∧ u ≤ base_.length ∧ Bag H' b (n + 203 + 10 * i) ∧ Ks [b] H5 H') ?_ ?_
      · walk_at "wp"
        refine ⟨b, n + 201 + 10 * i, _, rfl, hb5, by omega, by decide, by decide, fun c H6 c0 c1 hb6 k6 => ?_⟩
        have ks6 := hb5.ks k6
        have hD6 := k6 _ _ hDb hD5
        walk_at "wp"
        refine ite_ (fun _ => ?_) (fun _ => ?_)
        · walk_at "wp"
          refine ⟨b, _, _, rfl, hb6, by omega, by omega, by rw [p2.len]; omega, fun u H7 u0 u1 hb7 k7 => ?_⟩
          walk_at "wp"
          rw [p2.len] at u1
          obtain ⟨u', rfl⟩ : ∃ u' : Nat, u = (u' : Int) := ⟨u.toNat, by omega⟩
          exact ⟨u', rfl, by omega, hb7.mono (by omega), ks6.trans (hb6.ks k7)⟩
        · walk_at "wp"
          exact ⟨Nat.le_of_eq p2.len, hb6.mono (by omega), ks6⟩
      · rintro σ' H6 ⟨u, rfl, hu, hb6, k6⟩
        walk_at "wp"
        refine ⟨b, n + 203 + 10 * i, _, rfl, hb6, by omega, by decide, by decide, fun c H7 c0 c1 hb7 k7 => ?_⟩
        have ks7 := k6.trans (hb6.ks k7)
        walk_at "wp"
        refine ⟨by omega, by omega, fun E hE => lc_worths (inc := 1) (ok := Wok) (by omega) hb7 hE ?_ ?_⟩
        · intro j H8 hj R hb8 k8 k
          walk_at "wp"
          refine ⟨b, _, kinds, rfl, hb8, by omega, kd0, by omega, fun v H9 v0 v1 hb9 k9 => ?_⟩
          walk_at "wp"
          rename_i t ht
          exact k _ ("go", v) _ ⟨t, rfl, upd_same⟩ (show PyData.strOk ("go" : Str) = true by decide +kernel) ((hb9.keep (same_new ht)).mono (by omega)) (Kp.trans k9 (Kp.new ht))
        · intro H8 more ws hb8 k8 hE8 pE8 lE8 okE8
          have ks8 : Ks [b] H5 H8 := ks7.trans k8
          have hD8 := ks8.keep _ _ (fun q => hDb (List.mem_singleton.mp q)) hD5
          have hp8 := ks8.keep _ _ (fun q => hpb (List.mem_singleton.mp q)) hp5
          have p8 := p5.keep ks8.tk
          walk_at "wp"
          refine slL (SqL.of hD8) fun q1 hq1 => ?_
          rw [cut_take]
          have s1 := same_new (o := .lst (acc.take u)) hq1
          walk_at "wp"
          refine cat_ upd_same (s1 _ _ hE8) (by rw [List.length_take, pE8.len]; have := small (n := 100000) (by decide); omega) fun q2 hq2 => ?_
          have s2 := same_new (o := .lst (acc.take u ++ more)) hq2
          walk_at "wp"
          have ss := s1.trans s2
          refine app_ (ss _ _ hp8) (by rw [L5.len]; exact small (by omega)) ?_
          walk_at "wp"
          have bq : q2 ≠ b := (hb8.keep s1).ne_new hq2
          have pq : q2 ≠ p := (ne_of_none (s1 _ _ hp8) hq2).symm
          have hn2 : q2 ∉ [p, b] := by
            intro h
            rcases List.mem_cons.mp h with e | h
            · exact pq e
            exact bq (List.mem_singleton.mp h)
          have pp : Pile (upd (upd H8 q1 (.lst (acc.take u))) q2 (.lst (acc.take u ++ more))) (acc.take u ++ more) (base_.take u ++ ws) := ((p8.take u).app pE8).keep (Same.tk ss)
          have isl : IsLs [p, b] (upd (upd H8 q1 (.lst (acc.take u))) q2 (.lst (acc.take u ++ more))) (.ref q2) (base_.take u ++ ws) := ⟨q2, _, rfl, upd_same, pp, hn2⟩
          have ku := Ks.upd (S := [p, b]) (o := .lst (ys ++ [.ref q2])) (ss _ _ hp8) List.mem_cons_self
          have kall : Ks [p, b] H5 _ := (Ks.mono ks8 (by simp)).trans ((Ks.same ss).trans ku)
          refine ⟨_, _, _, _, _, rfl, ?_, k5.trans kall, upd_same, pair_app (L5.keep kall) (.cons (isl.keep ku) .nil), ?_, ?_⟩
          · exact Bag.mono ((hb8.keep ss).upd hpb) (by omega)
          · rw [List.length_append, l5] <;> rfl
          · intro q hq
            rcases List.mem_append.mp hq with hq | hq
            · exact ok5 q hq
            · rw [List.mem_singleton.mp hq]
              refine ⟨by rw [List.length_append, List.length_take]; omega, fun z hz => ?_⟩
              rcases List.mem_append.mp hz with hz | hz
              · exact ok2 z (List.mem_of_mem_take hz)
              · exact okE8 z hz
    · rintro σ H5 ⟨y1, y5, y6, ys, Ps, rfl, hb5, k5, hp5, L5, l5, ok5⟩
      walk_at "wp"
      refine q p ys Ps H5 pH hp5 (L5.less (by simp)) ok5 (by omega) (by omega) (hb5.mono (by omega)) ?_
      exact Ks.drop (k5.mono (by simp)) (ksp.trans ks4) pH

end
end K09

namespace K09
open PySem PySem.Spec PyProof.Rows L2 Wp Wq Wr Wb
local macro_rules | `(tactic| walk_at "ne") => `(tactic| first
  | assumption
  | (refine Ne.symm ?_; assumption)
  | exact ne_of_none (by assumption) (by assumption)
  | exact (ne_of_none (by assumption) (by assumption)).symm
  | exact ne_of (by assumption) (by assumption) (by intro q; cases q))
local macro_rules | `(tactic| walk_at "hp") => `(tactic| first
  | assumption
  | exact upd_same
  | (refine (upd_ne ?_).trans ?_; (walk_at "ne"); (walk_at "hp")))
local macro_rules | `(tactic| walk_at "sq") => `(tactic| first
  | assumption
  | exact SqL.of (by walk_at "hp")
  | exact SqT.of (by walk_at "hp"))
local macro_rules | `(tactic| walk_at "kind") => `(tactic| first
  | assumption
  | exact Kind.int _
  | exact Kind.str _
  | exact Kind.bl _
  | exact Kind.non
  | exact Kind.tup (by walk_at "hp")
  | exact Kind.lst (by walk_at "hp")
  | exact Kind.dK (by walk_at "hp"))
local macro_rules | `(tactic| walk_at "w1") => `(tactic| first
  | (with_reducible refine Wp.seq ?_)
  | (with_reducible refine Wp.nx_mk ?_)
  | (with_reducible refine Wp.rt_mk ?_)
  | (with_reducible refine Wp.bk_mk ?_)
  | (with_reducible refine Wp.ct_mk ?_)
  | (with_reducible refine Wp.next ?_)
  | (with_reducible refine Wp.asg ?_)
  | ((with_reducible refine' Wp.gname ?e ?_); (case e => (try dsimp only [List.set, L2.wipe, List.map_cons, List.map_nil]); (try exact rfl)))
  | (with_reducible refine Wp.gsub ?_)
  | (with_reducible refine Wp.ret ?_)
  | (with_reducible refine Wp.retN ?_)
  | (with_reducible refine Wp.drop ?_)
  | (with_reducible refine Wp.dput ?_)
  | (with_reducible refine Wp.ifs ?_)
  | ((with_reducible refine' Wp.var ?h ?_); (case h => exact rfl))
  | (with_reducible refine Wp.con ?_)
  | (with_reducible refine Wp.op ?_)
  | (with_reducible refine Wp.un ?_)
  | (with_reducible refine Wp.cb ?_)
  | (with_reducible refine Wp.anil ?_)
  | (with_reducible refine Wp.acons ?_)
  | (with_reducible refine Wp.call ?_)
  | (with_reducible refine Wp.test ?_)
  | (with_reducible refine Wp.tb_ ?_)
  | (with_reducible refine Wp.and_ ?_)
  | (with_reducible refine Wp.or_ ?_)
  | (with_reducible refine Wp.not_ ?_)
  | (with_reducible refine Wp.andV ?_)
  | (with_reducible refine Wp.orV ?_)
  | (with_reducible refine Wp.notV ?_)
  | (with_reducible refine Wp.rI0_ ?_)
  | (with_reducible refine Wp.rU_ ?_)
  | ((with_reducible refine Wp.rEq_ ?k ?_); (case k => exact rfl))
  | ((with_reducible refine Wp.rNe_ ?k ?_); (case k => exact rfl))
  | (with_reducible refine Wp.gcons ?_)
  | (with_reducible refine Wp.gnil ?_)
  | ((with_reducible refine' Wp.gtup ?h ?e ?_); (case h => walk_at "sq"); (case e => exact rfl))
  | (with_reducible refine Wp.sl ?_)
  | (with_reducible refine Wp.part ?_)
  | (with_reducible refine Wp.nopart ?_)
  | (with_reducible refine Wp.ifE ?_)
  | (with_reducible refine Wp.bm0 ?_)
  | (with_reducible refine Wp.bm ?_)
  | (with_reducible refine Wp.lcR1 ?_)
  | (with_reducible refine Wp.lcR2 ?_)
  | (with_reducible refine Wp.lcL ?_)
  | (with_reducible refine Wp.chain ?_)
  | (with_reducible refine Wp.lc2V ?_)
  | (with_reducible refine Wp.piL ?_)
  | (with_reducible refine Wp.yes ?_)
  | (with_reducible refine Wp.dinI ?_)
  | (with_reducible refine Wp.dninI ?_)
  | (with_reducible refine Wp.dget ?_)
  | ((with_reducible refine' ⟨?k, ?_⟩); (case k => show L2.wipe _ _ = L2.wipe _ _; exact rfl))
  | (with_reducible refine Wp.forR1 ?_)
  | (with_reducible refine Wp.forR2 ?_)
  | (with_reducible refine Wp.forL ?_)
  | (with_reducible refine Wp.forT ?_)
  | ((with_reducible refine' ⟨?k, ?_⟩); (case k => exact Wp.tyvL (by walk_at "hp")))
  | ((with_reducible refine' Wp.rev_ ?k ?_); (case k => walk_at "hp"))
  | ((with_reducible refine' Wp.isi ?k ?h ?_); (case k => walk_at "kind"); (case h => decide))
  | ((with_reducible refine' Wp.typ ?k ?_); (case k => walk_at "kind"))
  | (with_reducible refine Wp.slS ?k ?_; (case k => assumption))
  | (with_reducible refine iteT ?_)
  | (with_reducible refine iteF ?_)
  | (with_reducible refine Wc.revL ?_)
  | (with_reducible refine Wd.nm ?_)
  | (with_reducible refine Wd.nget ?_)
  | ((with_reducible refine Wd.tnew ?_); intro p hp)
  | (with_reducible refine Wd.pikn ?_)
  | (with_reducible refine Wt.m1 ?_)
  | (with_reducible refine Wt.m0 ?_)
  | ((with_reducible refine' ⟨?k, ?_⟩); (case k => show ∃ a, _ = V.str a; exact ⟨_, rfl⟩))
  | (with_reducible refine Wt.js_cons ?_)
  | (with_reducible refine Wt.fmt_ ?_)
  | (with_reducible refine Wp.pcons ?_)
  | (with_reducible refine Wp.pnil ?_)
  | ((with_reducible refine' Wp.iteBnT ?h ?_); (case h => show isB _ _ = false; decide))
  | ((with_reducible refine' Wp.iteBnF ?h ?_); (case h => show isB _ _ = true; decide))
  | ((with_reducible refine' Wp.iteBt ?h ?_); (case h => show isB _ _ = true; decide))
  | ((with_reducible refine' Wp.iteBf ?h ?_); (case h => show isB _ _ = false; decide))
  | (with_reducible refine Wp.iteT' ?_)
  | (with_reducible refine Wp.iteF' ?_)
  | (with_reducible refine Wp.rNT_ ?_)
  | ((with_reducible refine Wp.lst ?_))
  | ((with_reducible refine Wp.tup ?_))
  | ((with_reducible refine' Wp.ixL ?h ?e ?_); (case h => walk_at "sq"); (case e => exact rfl))
  | ((with_reducible refine' Wp.ixT ?h ?e ?_); (case h => walk_at "sq"); (case e => exact rfl))
  | ((with_reducible refine' Wp.setL ?h ?e ?_); (case h => walk_at "hp"); (case e => exact rfl))
  | ((with_reducible refine Wp.rI_ ?k ?_); (case k => first | (show (0:Int) < _; omega) | (show CPow _ _; refine' ⟨?_, ?_, ?_⟩ <;> omega) | (show CDiv _ _; refine' ⟨?_, ?_⟩ <;> omega) | (show CMul _ _; refine' Or.inl ⟨?_, ?_⟩ <;> omega) | (show CMul _ _; refine' Or.inr ⟨?_, ?_⟩ <;> first | omega | decide) | (show CDivW _ _; refine' wide_div (b := 240) ?_ ?_ ?_ ?_ <;> first | omega | decide)))
  | ((with_reducible refine ⟨?k, ?_⟩); (case k => first | exact Nat.zero_le _ | (exact Nat.le_of_ble_eq_true rfl)); intro p hp)
  | ((with_reducible refine' ⟨_, _, rfl, .inl ?k, ?_⟩); (case k => walk_at "sq"))
  | ((with_reducible refine' ⟨_, _, rfl, .inr ?k, ?_⟩); (case k => walk_at "sq"))
  | (with_reducible refine ⟨_, rfl, ?_⟩)
  | (with_reducible refine ⟨_, _, rfl, rfl, ?_⟩)
  | (with_reducible refine ⟨_, _, rfl, ?_⟩))
local macro_rules | `(tactic| walk_at "wp") => `(tactic| repeat (walk_at "w1"))

section
variable {P : Program} {w : World} {K : PySem.W.Frag} {mg : Str → Option Value} {base : Heap}
def spPiles : Sp := fun vs H Q _ => ∃ (b : Addr) (n : Nat), vs = [.ref b] ∧ Bag H b n ∧ n ≤ 90 ∧ ∀ (p : Addr) (ys : List V) (Ps : List (List W)) (H' : Hp), H p = none → H' p = some (.lst ys) → Lists [b] H' ys Ps → (∀ q ∈ Ps, q.length ≤ 400 ∧ ∀ z ∈ q, Wok z) → 1 ≤ Ps.length → Ps.length ≤ 60 → Bag H' b (n + 60000) → Ks [b] H H' → Q (.ref p) H'
theorem ok_piles (T : Txt P w K mg) : FnOk P w K mg base CX0 4 T.f_piles T.fd_piles ["bag"] spPiles := by
  have G_draw := ok_draw (base := base) T
  have G_worth := ok_worth (base := base) T
  have G_many_piles := ok_many_piles (base := base) T
  refine T.F_piles.ok sc_piles (fun vs H Q E h => ?_) (fun cdv A outer s H vs Q E hr h => ?_)
  · obtain ⟨b, n, rfl, _⟩ := h
    rfl
  · obtain ⟨b, n, rfl, hb, hn, q⟩ := h
    refine ⟨_, (pss_cons (ps_set (i := 1) sc_piles.nd rfl (.inl rfl) (pe_call G_draw (hr.mono (by decide)) (by rfl) T.g_draw T.F_draw.kp T.b_draw .nil pass0 (pa_cons (pv 0) (pa_cons pe_int pa_nil))))
      (pss_cons (ps_if (pt_cmpR op_eq (pv 1) pe_int (nomark _)) (pss_one (ps_ret (pe_call G_many_piles (hr.mono (by decide)) (by rfl) T.g_many_piles T.F_many_piles.kp T.b_many_piles .nil pass0 (pa_cons (pv 0) pa_nil)))) pss_nil)
      (pss_cons (ps_set (i := 2) sc_piles.nd rfl (.inr rfl) (pe_ix ix_list (pe_lst (pa_cons pe_int (pa_cons pe_int (pa_cons pe_int pa_nil)))) (pe_call G_draw (hr.mono (by decide)) (by rfl) T.g_draw T.F_draw.kp T.b_draw .nil pass0 (pa_cons (pv 0) (pa_cons pe_int pa_nil))) (fun _ _ => rfl)))
      (pss_cons (ps_set (i := 3) sc_piles.nd rfl (.inl rfl) (pe_op op_add pe_int (pe_call G_draw (hr.mono (by decide)) (by rfl) T.g_draw T.F_draw.kp T.b_draw .nil pass0 (pa_cons (pv 0) (pa_cons pe_int pa_nil)))))
      (pss_cons (ps_set (i := 4) sc_piles.nd rfl (.inl rfl) pe_int)
      (C8.pss_cut (ps_if (pt_cmpR op_eq (pv 1) pe_int (nomark _)) (pss_cons (ps_set (i := 3) sc_piles.nd rfl (.inl rfl) (pe_op op_add pe_int (pe_op op_mod (pv 3) pe_int)))
      (pss_one (ps_set (i := 4) sc_piles.nd rfl (.inl rfl) pe_int))) pss_nil)
      (pss_cons (ps_set (i := 5) sc_piles.nd rfl (.inl rfl) (pe_lst pa_nil))
      (pss_cons (ps_for PassesOwn.never rfl (pi_range1 (by rfl) T.n_range (pa_cons (pv 3) pa_nil)) (pg_name (i := 6) sc_piles.nd rfl (.inl rfl)) (pss_cons (ps_set (i := 7) sc_piles.nd rfl (.inl rfl) (pe_call G_draw (hr.mono (by decide)) (by rfl) T.g_draw T.F_draw.kp T.b_draw .nil pass0 (pa_cons (pv 0) (pa_cons pe_int pa_nil))))
      (pss_cons (ps_set (i := 8) sc_piles.nd rfl (.inl rfl) (pe_lst pa_nil))
      (C8.pss_cut (ps_if (PW.pt (pw_and (pt_cmpR op_gt (pv 6) pe_int (nomark _)) (pw_and1 (pt_cmpR op_gt (pv 7) pe_int (nomark _))))) (pss_cons (ps_set (i := 9) sc_piles.nd rfl (.inl rfl) (pe_ix ix_list (pv 5) (pe_call G_draw (hr.mono (by decide)) (by rfl) T.g_draw T.F_draw.kp T.b_draw .nil pass0 (pa_cons (pv 0) (pa_cons (pv 6) pa_nil))) (fun _ _ => rfl)))
      (pss_one (ps_set (i := 8) sc_piles.nd rfl (.inl rfl) (pe_slice sl_list (pv 9) po_none (po_some (pe_ix ix_list (pe_lst (pa_cons (pe_callB call_len_seq (by rfl) T.n_len (by decide +kernel) (pa_cons (pv 9) pa_nil)) (pa_cons (pe_call G_draw (hr.mono (by decide)) (by rfl) T.g_draw T.F_draw.kp T.b_draw .nil pass0 (pa_cons (pv 0) (pa_cons (pe_op op_add (pe_callB call_len_seq (by rfl) T.n_len (by decide +kernel) (pa_cons (pv 9) pa_nil)) pe_int) pa_nil))) pa_nil))) (pe_callB (call_min2 rfl) (by rfl) T.n_min (by decide +kernel) (pa_cons pe_int (pa_cons (pe_op op_sub (pv 7) pe_int) pa_nil))) (fun _ _ => rfl))))))) pss_nil)
      (pss_one (ps_expr (pe_bm PySem.F.plainAttrs_list PySem.F.slot_list_append PySem.F.type_list_append mt_append (pv 5) (pa_cons (pe_slice sl_list (pe_op op_cat (pv 8) (pe_lc (own := [("j", 10)]) rfl sc_piles.nd (pi_range1 (by rfl) T.n_range (pa_cons (pe_call G_draw (hr.mono (by decide)) (by rfl) T.g_draw T.F_draw.kp T.b_draw .nil pass0 (pa_cons (pv 0) (pa_cons (pv 4) pa_nil))) pa_nil)) (blkOk_by (N := ["bag", "great", "few", "many", "most", "piles", "k", "begun", "pile", "old", "j"]) (sc := defScope s_piles) (by decide +kernel)) (fun _ _ _ _ _ => pg_name (i := 10) sc_piles.nd rfl (Or.inl rfl)) (fun _ _ _ _ _ => pts_nil) (fun _ _ _ _ _ => (pe_call G_worth (hr.mono (by decide)) (by rfl) T.g_worth T.F_worth.kp T.b_worth .nil pass0 (pa_cons (pv 0) (pa_cons (pv 2) pa_nil)))))) po_none (po_some pe_int)) pa_nil))))))))
      (pss_one (ps_ret (pv 5))))))))))), ?_⟩
    rw [show L2.start ["bag", "great", "few", "many", "most", "piles", "k", "begun", "pile", "old", "j"] [.ref b] = [some (.ref b), none, none, none, none, none, none, none, none, none, none] from rfl]
    try dsimp only [cxOf]
    walk_at "wp"
    refine ⟨b, n, _, rfl, hb, by omega, by decide, by decide, fun great H1 m0 m1 hb1 k1 => ?_⟩
    have ks1 := hb.ks k1
    walk_at "wp"
    refine ite_ (fun _ => ?_) (fun _ => ?_)
    · walk_at "wp"
      refine ⟨b, n + 1, rfl, hb1, by omega, fun p ys Ps H2 pn hp L ok l0 l1 hb2 k2 => ?_⟩
      refine q p ys Ps H2 ?_ hp L ok l0 l1 (hb2.mono (by omega)) (ks1.trans k2)
      cases e : H p with
      | none => rfl
      | some o => exact absurd (ks1.keep _ _ (fun q => hb1.ne_new pn (List.mem_singleton.mp q)) e) (by rw [pn]; exact fun h => nomatch h)
    walk_at "wp"
    rename_i l hl
    refine ⟨b, n + 1, _, rfl, hb1.keep (same_new hl), by omega, by decide, by decide, fun v H2 v0 v1 hb2 k2 => ?_⟩
    have hl2 : H2 l = _ := k2 _ _ (hb1.ne_new hl) upd_same
    obtain ⟨few, hf, f0, f1⟩ : ∃ f : Int, atI [V.int 32, V.int 4, V.int 1] v = some (V.int f) ∧ 0 < f ∧ f ≤ 32 := by
      have cc : v = 0 ∨ v = 1 ∨ v = 2 := by omega
      rcases cc with e | e | e <;> rw [e] <;> exact ⟨_, rfl, by decide, by decide⟩
    refine ixL (SqL.of hl2) hf ?_
    walk_at "wp"
    refine ⟨b, n + 2, _, rfl, hb2, by omega, by decide, by decide, fun mm H3 a0 a1 hb3 k3 => ?_⟩
    have ks3 : Ks [b] H H3 := ks1.trans ((Ks.new hl).trans (((hb1.keep (same_new hl)).ks k2).trans (hb2.ks k3)))
    walk_at "wp"
    refine Wp.cut (fun σ' H' => H' = H3 ∧ ∃ many most : Int, σ' = [some (.ref b), some (.int great), some (.int few), some (.int many), some (.int most), none, none, none, none, none, none] ∧ 1 ≤ many ∧ many ≤ 8 ∧ 0 < most ∧ most ≤ 131) ?_ ?_
    · walk_at "wp"
      refine ite_ (fun _ => ?_) (fun _ => ?_)
      · walk_at "wp"
        exact ⟨rfl, _, _, rfl, by omega, by omega, by decide, by decide⟩
      · walk_at "wp"
        exact ⟨rfl, _, _, rfl, by omega, by omega, by decide, by decide⟩
    · rintro σ' H' ⟨rfl, many, most, rfl, m1, m8, t0, t1⟩
      walk_at "wp"
      rename_i p hp
      have hpb : p ≠ b := hb3.ne_new hp
      have pH : H p = none := by
        cases e : H p with
        | none => rfl
        | some o => exact absurd (ks3.keep _ _ (fun q => hpb (List.mem_singleton.mp q)) e) (by rw [hp]; exact fun h => nomatch h)
      refine ⟨by omega, by omega, loopR (fun i σ H4 => ∃ y6 y7 y8 y9 ys Ps, σ = [some (.ref b), some (.int great), some (.int few), some (.int many), some (.int most), some (.ref p), y6, y7, y8, y9, none] ∧ Bag H4 b (n + 3 + 1000 * i) ∧ Ks [p, b] (upd H' p (.lst [])) H4 ∧ H4 p = some (.lst ys) ∧ Lists [p, b] H4 ys Ps ∧ Ps.length = i ∧ ∀ q ∈ Ps, q.length ≤ 400 ∧ ∀ z ∈ q, Wok z)
        ⟨_, _, _, _, [], [], rfl, hb3.keep (same_new hp), Ks.refl, upd_same, .nil, rfl, (fun _ h => nomatch h)⟩ ?_ ?_⟩
      · rintro i σ H5 hi ⟨y6, y7, y8, y9, ys, Ps, rfl, hb5, k5, hp5, L5, l5, ok5⟩
        have hi8 : i < 8 := by omega
        have ly : ys.length = i := by rw [L5.len, l5]
        rw [Int.zero_add]
        walk_at "wp"
        refine ⟨b, _, _, rfl, hb5, by omega, by decide, by decide, fun bg H6 c0 c1 hb6 k6 => ?_⟩
        have ks6 := hb5.ks k6
        walk_at "wp"
        rename_i e he
        have heb : e ≠ b := hb6.ne_new he
        have hp6 := ks6.keep _ _ (fun q => hpb (List.mem_singleton.mp q)) hp5
        have hpe : p ≠ e := ne_of_none hp6 he
        have kse : Ks [b] H5 (upd H6 e (.lst [])) := ks6.trans (Ks.new he)
        have hb6e := hb6.keep (same_new (o := .lst []) he)
        have he6 : upd H6 e (.lst []) e = some (.lst []) := upd_same
        have heS : e ∉ [p, b] := by
          intro h
          rcases List.mem_cons.mp h with q | h
          · exact hpe q.symm
          exact heb (List.mem_singleton.mp h)
        generalize upd H6 e (.lst []) = H6e at kse hb6e he6
        have L6 := L5.keep (Ks.mono kse (S' := [p, b]) (by simp))
        have hp6e := kse.keep _ _ (fun q => hpb (List.mem_singleton.mp q)) hp5
        refine Wp.cut (fun σ' H7 => ∃ y9 pl xs ws, σ' = [some (.ref b), some (.int great), some (.int few), some (.int many), some (.int most), some (.ref p), some (.int i), some (.int bg), some (.ref pl), y9, none] ∧ H7 pl = some (.lst xs) ∧ Pile H7 xs ws ∧ ws.length ≤ 400 ∧ (∀ z ∈ ws, Wok z) ∧ Bag H7 b (n + 3 + 1000 * i + 3) ∧ Ks [b] H6e H7) ?_ ?_
        · have fin : ∀ y9, ∃ y9' pl xs ws, [some (V.ref b), some (.int great), some (.int few), some (.int many), some (.int most), some (.ref p), some (.int i), some (.int bg), some (.ref e), y9, none] = [some (V.ref b), some (.int great), some (.int few), some (.int many), some (.int most), some (.ref p), some (.int i), some (.int bg), some (.ref pl), y9', none] ∧ H6e pl = some (.lst xs) ∧ Pile H6e xs ws ∧ ws.length ≤ 400 ∧ (∀ z ∈ ws, Wok z) ∧ Bag H6e b (n + 3 + 1000 * i + 3) ∧ Ks [b] H6e H6e :=
            fun y9 => ⟨y9, e, [], [], rfl, he6, Pile.nil, by decide, (fun _ h => nomatch h), hb6e.mono (by omega), Ks.refl⟩
          walk_at "wp"
          refine ite_ (fun ck => ?_) (fun _ => ?_)
          · walk_at "wp"
            refine ite_ (fun cb => ?_) (fun _ => ?_)
            · walk_at "wp"
              refine ⟨b, _, _, rfl, hb6e, by omega, by omega, by omega, fun o H7 o0 o1 hb7 k7 => ?_⟩
              have ks7 := hb6e.ks k7
              have hp7 := ks7.keep _ _ (fun q => hpb (List.mem_singleton.mp q)) hp6e
              have L7 := L6.keep (Ks.mono ks7 (S' := [p, b]) (by simp))
              obtain ⟨o', rfl⟩ : ∃ o' : Nat, o = (o' : Int) := ⟨o.toNat, by omega⟩
              have ho : o' < ys.length := by omega
              obtain ⟨x0, hx0⟩ : ∃ x, ys[o']? = some x := ⟨_, List.getElem?_eq_getElem ho⟩
              obtain ⟨ol, hol, lo, xo, rfl, hlo, po, so⟩ := pair_at1 L7 hx0
              have oko := ok5 ol (List.mem_of_getElem? hol)
              walk_at "wp"
              refine ixL (SqL.of hp7) (atI_nat hx0) ?_
              walk_at "wp"
              have lxo := po.len
              refine ⟨b, _, _, rfl, hb7, by omega, by omega, by omega, fun u H8 u0 u1 hb8 k8 => ?_⟩
              have lob : lo ≠ b := fun q => so (by rw [q]; simp)
              have hlo8 := k8 _ _ lob hlo
              have ks8 := ks7.trans (hb7.ks k8)
              have po8 := po.keep (hb7.ks k8).tk
              walk_at "wp"
              rename_i q1 hq1
              obtain ⟨val, hv, hval⟩ : ∃ val : Int, atI [V.int xo.length, V.int u] (if bg - 1 < 1 then bg - 1 else 1) = some (V.int val) ∧ 0 ≤ val := by
                have cc : bg = 1 ∨ bg = 2 ∨ bg = 3 := by omega
                rcases cc with rfl | rfl | rfl
                · exact ⟨_, rfl, by omega⟩
                · exact ⟨_, rfl, u0⟩
                · exact ⟨_, rfl, u0⟩
              refine ixL (SqL.of upd_same) hv ?_
              obtain ⟨val', rfl⟩ : ∃ v' : Nat, val = (v' : Int) := ⟨val.toNat, by omega⟩
              have s1 := same_new (o := .lst [V.int xo.length, V.int u]) hq1
              walk_at "wp"
              refine slL (SqL.of (s1 _ _ hlo8)) fun q2 hq2 => ?_
              rw [cut_take]
              have s2 := same_new (o := .lst (xo.take val')) hq2
              walk_at "wp"
              refine ⟨_, q2, xo.take val', ol.take val', rfl, upd_same, (po8.take val').keep (Same.tk (s1.trans s2)), ?_, fun z hz => oko.2 z (List.mem_of_mem_take hz), ?_, ks8.trans (Ks.same (s1.trans s2))⟩
              · rw [List.length_take]; have := oko.1; omega
              · exact Bag.mono (hb8.keep (s1.trans s2)) (by omega)
            · walk_at "wp"
              exact fin _
          · walk_at "wp"
            exact fin _
        · rintro σ' H7 ⟨y9, pl, xs, ws, rfl, hpl, pp, lw, okw, hb7, k7⟩
          have ksA : Ks [b] H5 H7 := kse.trans k7
          have hp7 := ksA.keep _ _ (fun q => hpb (List.mem_singleton.mp q)) hp5
          walk_at "wp"
          refine ⟨b, _, most, rfl, hb7, by omega, t0, by omega, fun c H8 c0 c1 hb8 k8 => ?_⟩
          have ks8 := ksA.trans (hb7.ks k8)
          have plb : pl ≠ b := fun q => by
            obtain ⟨x, y, z, e1, _⟩ := hb7
            rw [q, e1] at hpl
            cases hpl
            have h3 := pp.len
            cases ws with
            | nil => cases h3
            | cons w1 ws =>
              have h4 : IsW H7 (.int x) w1 := by cases pp with | cons r t => exact r
              obtain ⟨tt, ht, _⟩ := h4
              cases ht
          have hpl8 := k8 _ _ plb hpl
          have pp8 := pp.keep (hb7.ks k8).tk
          walk_at "wp"
          refine ⟨by omega, by omega, fun E hE => lc_worths (inc := 6) (ok := Wok) (by omega) hb8 hE ?_ ?_⟩
          · intro j H9 hj R hb9 k9 k
            walk_at "wp"
            exact ⟨b, _, few, rfl, hb9, by omega, f0, by omega, k⟩
          · intro H9 more wm hb9 k9 hE9 pE9 lE9 okE9
            have hpl9 := k9.keep _ _ (fun q => plb (List.mem_singleton.mp q)) hpl8
            have pp9 := pp8.keep k9.tk
            have ks9 := ks8.trans k9
            have hp9 := ks9.keep _ _ (fun q => hpb (List.mem_singleton.mp q)) hp5
            have lp := pp9.len
            have lm := pE9.len
            have big := small (n := 100000) (by decide)
            refine cat_ hpl9 hE9 (by omega) fun q1 hq1 => ?_
            have s1 := same_new (o := .lst (xs ++ more)) hq1
            walk_at "wp"
            refine slL (SqL.of upd_same) fun q2 hq2 => ?_
            have e400 : cutV (xs ++ more) none (some 400) = (xs ++ more).take 400 := cut_take (n := 400)
            rw [e400]
            have s2 := same_new (o := .lst ((xs ++ more).take 400)) hq2
            have ss := s1.trans s2
            walk_at "wp"
            refine app_ (ss _ _ hp9) (by rw [ly]; omega) ?_
            walk_at "wp"
            have bq : q2 ≠ b := (hb9.keep s1).ne_new hq2
            have pq : q2 ≠ p := (ne_of_none (s1 _ _ hp9) hq2).symm
            have hn2 : q2 ∉ [p, b] := by
              intro h
              rcases List.mem_cons.mp h with e | h
              · exact pq e
              exact bq (List.mem_singleton.mp h)
            have pw : Pile (upd (upd H9 q1 (.lst (xs ++ more))) q2 (.lst ((xs ++ more).take 400))) ((xs ++ more).take 400) ((ws ++ wm).take 400) := ((pp9.app pE9).take 400).keep (Same.tk ss)
            have isl : IsLs [p, b] (upd (upd H9 q1 (.lst (xs ++ more))) q2 (.lst ((xs ++ more).take 400))) (.ref q2) ((ws ++ wm).take 400) := ⟨q2, _, rfl, upd_same, pw, hn2⟩
            have ku := Ks.upd (S := [p, b]) (o := .lst (ys ++ [.ref q2])) (ss _ _ hp9) List.mem_cons_self
            have kall : Ks [p, b] H5 _ := (Ks.mono ks9 (by simp)).trans ((Ks.same ss).trans ku)
            refine ⟨_, _, _, _, _, _, rfl, ?_, k5.trans kall, upd_same, pair_app (L5.keep kall) (.cons (isl.keep ku) .nil), ?_, ?_⟩
            · exact Bag.mono ((hb9.keep ss).upd hpb) (by omega)
            · rw [List.length_append, l5] <;> rfl
            · intro q hq
              rcases List.mem_append.mp hq with hq | hq
              · exact ok5 q hq
              · rw [List.mem_singleton.mp hq]
                refine ⟨List.length_take_le _ _, fun z hz => ?_⟩
                rcases List.mem_append.mp (List.mem_of_mem_take hz) with hz | hz
                · exact okw z hz
                · exact okE9 z hz
      · rintro σ H5 ⟨y6, y7, y8, y9, ys, Ps, rfl, hb5, k5, hp5, L5, l5, ok5⟩
        walk_at "wp"
        refine q p ys Ps H5 pH hp5 (L5.less (by simp)) ok5 (by omega) (by omega) (hb5.mono (by omega)) ?_
        exact Ks.drop (k5.mono (by simp)) (ks3.trans (Ks.new hp)) pH

end
end K09

namespace K09
open PySem PySem.Spec PyProof.Rows L2 Wp Wq Wr Wb
local macro_rules | `(tactic| walk_at "ne") => `(tactic| first
  | assumption
  | (refine Ne.symm ?_; assumption)
  | exact ne_of_none (by assumption) (by assumption)
  | exact (ne_of_none (by assumption) (by assumption)).symm
  | exact ne_of (by assumption) (by assumption) (by intro q; cases q))
local macro_rules | `(tactic| walk_at "hp") => `(tactic| first
  | assumption
  | exact upd_same
  | (refine (upd_ne ?_).trans ?_; (walk_at "ne"); (walk_at "hp")))
local macro_rules | `(tactic| walk_at "sq") => `(tactic| first
  | assumption
  | exact SqL.of (by walk_at "hp")
  | exact SqT.of (by walk_at "hp"))
local macro_rules | `(tactic| walk_at "kind") => `(tactic| first
  | assumption
  | exact Kind.int _
  | exact Kind.str _
  | exact Kind.bl _
  | exact Kind.non
  | exact Kind.tup (by walk_at "hp")
  | exact Kind.lst (by walk_at "hp")
  | exact Kind.dK (by walk_at "hp"))
local macro_rules | `(tactic| walk_at "w1") => `(tactic| first
  | (with_reducible refine Wp.seq ?_)
  | (with_reducible refine Wp.nx_mk ?_)
  | (with_reducible refine Wp.rt_mk ?_)
  | (with_reducible refine Wp.bk_mk ?_)
  | (with_reducible refine Wp.ct_mk ?_)
  | (with_reducible refine Wp.next ?_)
  | (with_reducible refine Wp.asg ?_)
  | ((with_reducible refine' Wp.gname ?e ?_); (case e => (try dsimp only [List.set, L2.wipe, List.map_cons, List.map_nil]); (try exact rfl)))
  | (with_reducible refine Wp.gsub ?_)
  | (with_reducible refine Wp.ret ?_)
  | (with_reducible refine Wp.retN ?_)
  | (with_reducible refine Wp.drop ?_)
  | (with_reducible refine Wp.dput ?_)
  | (with_reducible refine Wp.ifs ?_)
  | ((with_reducible refine' Wp.var ?h ?_); (case h => exact rfl))
  | (with_reducible refine Wp.con ?_)
  | (with_reducible refine Wp.op ?_)
  | (with_reducible refine Wp.un ?_)
  | (with_reducible refine Wp.cb ?_)
  | (with_reducible refine Wp.anil ?_)
  | (with_reducible refine Wp.acons ?_)
  | (with_reducible refine Wp.call ?_)
  | (with_reducible refine Wp.test ?_)
  | (with_reducible refine Wp.tb_ ?_)
  | (with_reducible refine Wp.and_ ?_)
  | (with_reducible refine Wp.or_ ?_)
  | (with_reducible refine Wp.not_ ?_)
  | (with_reducible refine Wp.andV ?_)
  | (with_reducible refine Wp.orV ?_)
  | (with_reducible refine Wp.notV ?_)
  | (with_reducible refine Wp.rI0_ ?_)
  | (with_reducible refine Wp.rU_ ?_)
  | ((with_reducible refine Wp.rEq_ ?k ?_); (case k => exact rfl))
  | ((with_reducible refine Wp.rNe_ ?k ?_); (case k => exact rfl))
  | (with_reducible refine Wp.gcons ?_)
  | (with_reducible refine Wp.gnil ?_)
  | ((with_reducible refine' Wp.gtup ?h ?e ?_); (case h => walk_at "sq"); (case e => exact rfl))
  | (with_reducible refine Wp.sl ?_)
  | (with_reducible refine Wp.part ?_)
  | (with_reducible refine Wp.nopart ?_)
  | (with_reducible refine Wp.ifE ?_)
  | (with_reducible refine Wp.bm0 ?_)
  | (with_reducible refine Wp.bm ?_)
  | (with_reducible refine Wp.lcR1 ?_)
  | (with_reducible refine Wp.lcR2 ?_)
  | (with_reducible refine Wp.lcL ?_)
  | (with_reducible refine Wp.chain ?_)
  | (with_reducible refine Wp.lc2V ?_)
  | (with_reducible refine Wp.piL ?_)
  | (with_reducible refine Wp.yes ?_)
  | (with_reducible refine Wp.dinI ?_)
  | (with_reducible refine Wp.dninI ?_)
  | (with_reducible refine Wp.dget ?_)
  | ((with_reducible refine' ⟨?k, ?_⟩); (case k => show L2.wipe _ _ = L2.wipe _ _; exact rfl))
  | (with_reducible refine Wp.forR1 ?_)
  | (with_reducible refine Wp.forR2 ?_)
  | (with_reducible refine Wp.forL ?_)
  | (with_reducible refine Wp.forT ?_)
  | ((with_reducible refine' ⟨?k, ?_⟩); (case k => exact Wp.tyvL (by walk_at "hp")))
  | ((with_reducible refine' Wp.rev_ ?k ?_); (case k => walk_at "hp"))
  | ((with_reducible refine' Wp.isi ?k ?h ?_); (case k => walk_at "kind"); (case h => decide))
  | ((with_reducible refine' Wp.typ ?k ?_); (case k => walk_at "kind"))
  | (with_reducible refine Wp.slS ?k ?_; (case k => assumption))
  | (with_reducible refine iteT ?_)
  | (with_reducible refine iteF ?_)
  | (with_reducible refine Wc.revL ?_)
  | (with_reducible refine Wd.nm ?_)
  | (with_reducible refine Wd.nget ?_)
  | ((with_reducible refine Wd.tnew ?_); intro p hp)
  | (with_reducible refine Wd.pikn ?_)
  | (with_reducible refine Wt.m1 ?_)
  | (with_reducible refine Wt.m0 ?_)
  | ((with_reducible refine' ⟨?k, ?_⟩); (case k => show ∃ a, _ = V.str a; exact ⟨_, rfl⟩))
  | (with_reducible refine Wt.js_cons ?_)
  | (with_reducible refine Wt.fmt_ ?_)
  | (with_reducible refine Wp.pcons ?_)
  | (with_reducible refine Wp.pnil ?_)
  | ((with_reducible refine' Wp.iteBnT ?h ?_); (case h => show isB _ _ = false; decide))
  | ((with_reducible refine' Wp.iteBnF ?h ?_); (case h => show isB _ _ = true; decide))
  | ((with_reducible refine' Wp.iteBt ?h ?_); (case h => show isB _ _ = true; decide))
  | ((with_reducible refine' Wp.iteBf ?h ?_); (case h => show isB _ _ = false; decide))
  | (with_reducible refine Wp.iteT' ?_)
  | (with_reducible refine Wp.iteF' ?_)
  | (with_reducible refine Wp.rNT_ ?_)
  | ((with_reducible refine Wp.lst ?_))
  | ((with_reducible refine Wp.tup ?_))
  | ((with_reducible refine' Wp.ixL ?h ?e ?_); (case h => walk_at "sq"); (case e => exact rfl))
  | ((with_reducible refine' Wp.ixT ?h ?e ?_); (case h => walk_at "sq"); (case e => exact rfl))
  | ((with_reducible refine' Wp.setL ?h ?e ?_); (case h => walk_at "hp"); (case e => exact rfl))
  | ((with_reducible refine Wp.rI_ ?k ?_); (case k => first | (show (0:Int) < _; omega) | (show CPow _ _; refine' ⟨?_, ?_, ?_⟩ <;> omega) | (show CDiv _ _; refine' ⟨?_, ?_⟩ <;> omega) | (show CMul _ _; refine' Or.inl ⟨?_, ?_⟩ <;> omega) | (show CMul _ _; refine' Or.inr ⟨?_, ?_⟩ <;> first | omega | decide) | (show CDivW _ _; refine' wide_div (b := 240) ?_ ?_ ?_ ?_ <;> first | omega | decide)))
  | ((with_reducible refine ⟨?k, ?_⟩); (case k => first | exact Nat.zero_le _ | (exact Nat.le_of_ble_eq_true rfl)); intro p hp)
  | ((with_reducible refine' ⟨_, _, rfl, .inl ?k, ?_⟩); (case k => walk_at "sq"))
  | ((with_reducible refine' ⟨_, _, rfl, .inr ?k, ?_⟩); (case k => walk_at "sq"))
  | (with_reducible refine ⟨_, rfl, ?_⟩)
  | (with_reducible refine ⟨_, _, rfl, rfl, ?_⟩)
  | (with_reducible refine ⟨_, _, rfl, ?_⟩))
local macro_rules | `(tactic| walk_at "wp") => `(tactic| repeat (walk_at "w1"))

section
variable {P : Program} {w : World} {K : PySem.W.Frag} {mg : Str → Option Value} {base : Heap}
def spBegin (P : Program) (w : World) : Sp := fun vs H Q _ => ∃ (a : Addr) (ys : List V) (Ps : List (List W)), vs = [.ref a] ∧ H a = some (.lst ys) ∧ Lists [] H ys Ps ∧ Ps.length ≤ 61 ∧ (∀ q ∈ Ps, q.length ≤ 400) ∧ ∀ d H', H d = none → Wd.NDict P w H' d (Wk.kvsT (Wk.trie Ps)) → Same H H' → Q (.ref d) H'
theorem ok_beginnings_of (T : Txt P w K mg) : FnOk P w K mg base CX0 1 T.f_beginnings_of T.fd_beginnings_of ["piles"] (spBegin P w) := by
  refine T.F_beginnings_of.ok sc_beginnings_of (fun vs H Q E h => ?_) (fun cdv A outer s H vs Q E hr h => ?_)
  · obtain ⟨a, ys, Ps, rfl, _⟩ := h
    rfl
  · obtain ⟨a, ys, Ps, rfl, ha, L, l60, l400, q⟩ := h
    refine ⟨_, (pss_cons (ps_set (i := 1) sc_beginnings_of.nd rfl (.inl rfl) Wd.pe_new)
      (pss_cons (ps_for PassesOwn.never rfl (pi_list (pv 0)) (pg_name (i := 2) sc_beginnings_of.nd rfl (.inl rfl)) (pss_cons (ps_set (i := 3) sc_beginnings_of.nd rfl (.inl rfl) pe_int)
      (pss_one (ps_for PassesOwn.never rfl (pi_list (pv 2)) (pg_name (i := 4) sc_beginnings_of.nd rfl (.inl rfl)) (pss_one (ps_set (i := 3) sc_beginnings_of.nd rfl (.inl rfl) (Wd.pe_setD hr.units (pv 1) (pa_cons (pe_tup (pa_cons (pv 3) (pa_cons (pv 4) pa_nil))) (pa_cons (pe_op op_add (pe_callB Wd.call_lenN (by rfl) T.n_len (by decide +kernel) (pa_cons (pv 1) pa_nil)) pe_int) pa_nil)))))))))
      (pss_one (ps_ret (pv 1))))), ?_⟩
    rw [show L2.start ["piles", "numbers", "pile", "at", "worth"] [.ref a] = [some (.ref a), none, none, none, none] from rfl]
    try dsimp only [cxOf]
    walk_at "wp"
    rename_i d hd
    have sd := same_new (o := Wd.NO P w d []) hd
    refine ⟨⟨ys, SqL.of (sd _ _ ha)⟩, loopL (xs := ys) (fun i σ H' => ∃ y2 y3 y4, σ = [some (.ref a), some (.ref d), y2, y3, y4] ∧ Wd.NDict P w H' d (Wk.kvsT (Wk.trie (Ps.take i))) ∧ Same H H')
      ⟨_, _, _, rfl, Wd.ndict_new, sd⟩ (fun i σ H' hi h => by obtain ⟨_, _, _, _, _, s⟩ := h; exact SqL.of (s _ _ ha)) ?_ ?_⟩
    · rintro i x σ H1 hx ⟨y2, y3, y4, rfl, nd, s1⟩
      obtain ⟨p, hp, l, vs, rfl, hl, pv, _⟩ := pair_at1 L hx
      have lp4 := l400 p (List.mem_of_getElem? hp)
      have hi : i < Ps.length := (List.getElem?_eq_some_iff.mp hp).1
      have ok0 := Wk.trie_ok (Ps.take i)
      have hl1 := s1 _ _ hl
      have pv1 := pv.keep (Same.tk s1)
      have sz : (Wk.trie (Ps.take i)).length ≤ 61 * 400 := by
        have h1 := Wk.trie_size (ps := Ps.take i) (T := []) (m := 400) (fun q hq => l400 q (List.mem_of_mem_take hq))
        have h2 : (Ps.take i).length ≤ 61 := by rw [List.length_take]; omega
        have h3 : (Wk.trie (Ps.take i)).length ≤ [].length + (Ps.take i).length * 400 := h1
        have h4 : (Ps.take i).length * 400 ≤ 61 * 400 := Nat.mul_le_mul_right _ h2
        rw [List.length_nil] at h3
        omega
      have tnext : Wk.insPile (Wk.trie (Ps.take i)) p = Wk.trie (Ps.take (i + 1)) := by
        rw [List.take_add_one, hp]
        exact (Wk.trie_snoc _ _).symm
      generalize Wk.trie (Ps.take i) = T0 at nd ok0 sz tnext
      walk_at "wp"
      refine ⟨⟨vs, SqL.of hl1⟩, loopL (xs := vs) (fun j σ H' => ∃ y4, σ = [some (.ref a), some (.ref d), some (.ref l), some (.int ((Wk.numOf (Wk.at_ T0 p j) (p.take j) : Nat) : Int)), y4] ∧ Wd.NDict P w H' d (Wk.kvsT (Wk.at_ T0 p j)) ∧ Same H H')
        ⟨_, by rw [List.take_zero, Wk.numOf_nil]; rfl, nd, s1⟩ (fun j σ H' hj h => by obtain ⟨_, _, _, s⟩ := h; exact SqL.of (s _ _ hl)) ?_ ?_⟩
      · rintro j v σ H2 hv ⟨y4, rfl, nd2, s2⟩
        obtain ⟨z, hz, wz⟩ := pv.get hv
        have hj : j < p.length := (List.getElem?_eq_some_iff.mp hz).1
        have okj := Wk.at_ok (p := p) ok0 j (by omega)
        have here := Wk.at_here (T := T0) (p := p) (j := j) (by omega)
        have szj := Wk.at_size (T := T0) (p := p) j
        have wz2 := wz.keep (Same.tk s2)
        obtain ⟨t, rfl, ht⟩ := wz2
        have e1 := Wk.at_succ (T := T0) hz
        have e2 : p.take (j + 1) = p.take j ++ [z] := by rw [List.take_add_one, hz] <;> rfl
        rw [e1, e2]
        generalize Wk.at_ T0 p j = Tj at nd2 okj here szj
        have ssz : Tj.length < sizeLine := Nat.lt_of_le_of_lt (show Tj.length ≤ 25000 by omega) (by decide)
        walk_at "wp"
        refine ⟨⟨d, _, rfl, nd2⟩, ?_⟩
        walk_at "wp"
        rename_i k hk
        have sk := same_new (o := .tup [.int ((Wk.numOf Tj (p.take j) : Nat) : Int), .ref t]) hk
        have nd3 := nd2.same sk
        refine ⟨d, _, rfl, nd3, ?_⟩
        walk_at "wp"
        have isk : Wd.IsKN (upd H2 k (.tup [.int ((Wk.numOf Tj (p.take j) : Nat) : Int), .ref t])) k (((Wk.numOf Tj (p.take j) : Nat) : Int), z) := ⟨t, upd_same, sk _ _ ht⟩
        refine ⟨d, k, _, _, _, rfl, rfl, nd3, isk, by unfold Wk.kvsT; rw [List.length_map]; exact ssz, fun u hu => ?_, fun hn H3 nd4 k4 => ?_⟩
        · by_cases c : p.take j ++ [z] ∈ Tj
          · rw [Wk.step_old okj here c] at hu
            cases hu
            rw [Wk.ins_old c]
            walk_at "wp"
            exact ⟨nd3, s2.trans sk⟩
          · rw [Wk.step_none okj here c] at hu
            cases hu
        · have c : p.take j ++ [z] ∉ Tj := fun c => by
            rw [Wk.step_old okj here c] at hn
            cases hn
          rw [Wk.ins_new c, Wk.step_new okj here c, Wk.numOf_new c (by simp)]
          have el : ((Wk.kvsT Tj).length : Int) + 1 = ((Tj.length + 1 : Nat) : Int) := by
            unfold Wk.kvsT
            rw [List.length_map]
            omega
          rw [el] at nd4 ⊢
          walk_at "wp"
          exact ⟨nd4, fun b o e => k4 _ _ (ne_of_none e hd) ((s2.trans sk) _ _ e)⟩
      · rintro σ H2 ⟨y4, rfl, nd2, s2⟩
        rw [pv.len, Wk.at_len, tnext] at nd2
        walk_at "wp"
        exact ⟨_, _, _, rfl, nd2, s2⟩
    · rintro σ H1 ⟨y2, y3, y4, rfl, nd, s1⟩
      rw [L.len, List.take_length] at nd
      walk_at "wp"
      exact q d H1 hd nd s1

end
end K09

namespace K09
open PySem PySem.Spec PyProof.Rows L2 Wp Wq Wr Wb
local macro_rules | `(tactic| walk_at "ne") => `(tactic| first
  | assumption
  | (refine Ne.symm ?_; assumption)
  | exact ne_of_none (by assumption) (by assumption)
  | exact (ne_of_none (by assumption) (by assumption)).symm
  | exact ne_of (by assumption) (by assumption) (by intro q; cases q))
local macro_rules | `(tactic| walk_at "hp") => `(tactic| first
  | assumption
  | exact upd_same
  | (refine (upd_ne ?_).trans ?_; (walk_at "ne"); (walk_at "hp")))
local macro_rules | `(tactic| walk_at "sq") => `(tactic| first
  | assumption
  | exact SqL.of (by walk_at "hp")
  | exact SqT.of (by walk_at "hp"))
local macro_rules | `(tactic| walk_at "kind") => `(tactic| first
  | assumption
  | exact Kind.int _
  | exact Kind.str _
  | exact Kind.bl _
  | exact Kind.non
  | exact Kind.tup (by walk_at "hp")
  | exact Kind.lst (by walk_at "hp")
  | exact Kind.dK (by walk_at "hp"))
local macro_rules | `(tactic| walk_at "w1") => `(tactic| first
  | (with_reducible refine Wp.seq ?_)
  | (with_reducible refine Wp.nx_mk ?_)
  | (with_reducible refine Wp.rt_mk ?_)
  | (with_reducible refine Wp.bk_mk ?_)
  | (with_reducible refine Wp.ct_mk ?_)
  | (with_reducible refine Wp.next ?_)
  | (with_reducible refine Wp.asg ?_)
  | ((with_reducible refine' Wp.gname ?e ?_); (case e => (try dsimp only [List.set, L2.wipe, List.map_cons, List.map_nil]); (try exact rfl)))
  | (with_reducible refine Wp.gsub ?_)
  | (with_reducible refine Wp.ret ?_)
  | (with_reducible refine Wp.retN ?_)
  | (with_reducible refine Wp.drop ?_)
  | (with_reducible refine Wp.dput ?_)
  | (with_reducible refine Wp.ifs ?_)
  | ((with_reducible refine' Wp.var ?h ?_); (case h => exact rfl))
  | (with_reducible refine Wp.con ?_)
  | (with_reducible refine Wp.op ?_)
  | (with_reducible refine Wp.un ?_)
  | (with_reducible refine Wp.cb ?_)
  | (with_reducible refine Wp.anil ?_)
  | (with_reducible refine Wp.acons ?_)
  | (with_reducible refine Wp.call ?_)
  | (with_reducible refine Wp.test ?_)
  | (with_reducible refine Wp.tb_ ?_)
  | (with_reducible refine Wp.and_ ?_)
  | (with_reducible refine Wp.or_ ?_)
  | (with_reducible refine Wp.not_ ?_)
  | (with_reducible refine Wp.andV ?_)
  | (with_reducible refine Wp.orV ?_)
  | (with_reducible refine Wp.notV ?_)
  | (with_reducible refine Wp.rI0_ ?_)
  | (with_reducible refine Wp.rU_ ?_)
  | ((with_reducible refine Wp.rEq_ ?k ?_); (case k => exact rfl))
  | ((with_reducible refine Wp.rNe_ ?k ?_); (case k => exact rfl))
  | (with_reducible refine Wp.gcons ?_)
  | (with_reducible refine Wp.gnil ?_)
  | ((with_reducible refine' Wp.gtup ?h ?e ?_); (case h => walk_at "sq"); (case e => exact rfl))
  | (with_reducible refine Wp.sl ?_)
  | (with_reducible refine Wp.part ?_)
  | (with_reducible refine Wp.nopart ?_)
  | (with_reducible refine Wp.ifE ?_)
  | (with_reducible refine Wp.bm0 ?_)
  | (with_reducible refine Wp.bm ?_)
  | (with_reducible refine Wp.lcR1 ?_)
  | (with_reducible refine Wp.lcR2 ?_)
  | (with_reducible refine Wp.lcL ?_)
  | (with_reducible refine Wp.chain ?_)
  | (with_reducible refine Wp.lc2V ?_)
  | (with_reducible refine Wp.piL ?_)
  | (with_reducible refine Wp.yes ?_)
  | (with_reducible refine Wp.dinI ?_)
  | (with_reducible refine Wp.dninI ?_)
  | (with_reducible refine Wp.dget ?_)
  | ((with_reducible refine' ⟨?k, ?_⟩); (case k => show L2.wipe _ _ = L2.wipe _ _; exact rfl))
  | (with_reducible refine Wp.forR1 ?_)
  | (with_reducible refine Wp.forR2 ?_)
  | (with_reducible refine Wp.forL ?_)
  | (with_reducible refine Wp.forT ?_)
  | ((with_reducible refine' ⟨?k, ?_⟩); (case k => exact Wp.tyvL (by walk_at "hp")))
  | ((with_reducible refine' Wp.rev_ ?k ?_); (case k => walk_at "hp"))
  | ((with_reducible refine' Wp.isi ?k ?h ?_); (case k => walk_at "kind"); (case h => decide))
  | ((with_reducible refine' Wp.typ ?k ?_); (case k => walk_at "kind"))
  | (with_reducible refine Wp.slS ?k ?_; (case k => assumption))
  | (with_reducible refine iteT ?_)
  | (with_reducible refine iteF ?_)
  | (with_reducible refine Wc.revL ?_)
  | (with_reducible refine Wd.nm ?_)
  | (with_reducible refine Wd.nget ?_)
  | ((with_reducible refine Wd.tnew ?_); intro p hp)
  | (with_reducible refine Wd.pikn ?_)
  | (with_reducible refine Wt.m1 ?_)
  | (with_reducible refine Wt.m0 ?_)
  | ((with_reducible refine' ⟨?k, ?_⟩); (case k => show ∃ a, _ = V.str a; exact ⟨_, rfl⟩))
  | (with_reducible refine Wt.js_cons ?_)
  | (with_reducible refine Wt.fmt_ ?_)
  | (with_reducible refine Wp.pcons ?_)
  | (with_reducible refine Wp.pnil ?_)
  | ((with_reducible refine' Wp.iteBnT ?h ?_); (case h => show isB _ _ = false; decide))
  | ((with_reducible refine' Wp.iteBnF ?h ?_); (case h => show isB _ _ = true; decide))
  | ((with_reducible refine' Wp.iteBt ?h ?_); (case h => show isB _ _ = true; decide))
  | ((with_reducible refine' Wp.iteBf ?h ?_); (case h => show isB _ _ = false; decide))
  | (with_reducible refine Wp.iteT' ?_)
  | (with_reducible refine Wp.iteF' ?_)
  | (with_reducible refine Wp.rNT_ ?_)
  | ((with_reducible refine Wp.lst ?_))
  | ((with_reducible refine Wp.tup ?_))
  | ((with_reducible refine' Wp.ixL ?h ?e ?_); (case h => walk_at "sq"); (case e => exact rfl))
  | ((with_reducible refine' Wp.ixT ?h ?e ?_); (case h => walk_at "sq"); (case e => exact rfl))
  | ((with_reducible refine' Wp.setL ?h ?e ?_); (case h => walk_at "hp"); (case e => exact rfl))
  | ((with_reducible refine Wp.rI_ ?k ?_); (case k => first | (show (0:Int) < _; omega) | (show CPow _ _; refine' ⟨?_, ?_, ?_⟩ <;> omega) | (show CDiv _ _; refine' ⟨?_, ?_⟩ <;> omega) | (show CMul _ _; refine' Or.inl ⟨?_, ?_⟩ <;> omega) | (show CMul _ _; refine' Or.inr ⟨?_, ?_⟩ <;> first | omega | decide) | (show CDivW _ _; refine' wide_div (b := 240) ?_ ?_ ?_ ?_ <;> first | omega | decide)))
  | ((with_reducible refine ⟨?k, ?_⟩); (case k => first | exact Nat.zero_le _ | (exact Nat.le_of_ble_eq_true rfl)); intro p hp)
  | ((with_reducible refine' ⟨_, _, rfl, .inl ?k, ?_⟩); (case k => walk_at "sq"))
  | ((with_reducible refine' ⟨_, _, rfl, .inr ?k, ?_⟩); (case k => walk_at "sq"))
  | (with_reducible refine ⟨_, rfl, ?_⟩)
  | (with_reducible refine ⟨_, _, rfl, rfl, ?_⟩)
  | (with_reducible refine ⟨_, _, rfl, ?_⟩))
local macro_rules | `(tactic| walk_at "wp") => `(tactic| repeat (walk_at "w1"))

section
variable {P : Program} {w : World} {K : PySem.W.Frag} {mg : Str → Option Value} {base : Heap}
def spAlike : Sp := fun vs H Q _ => ∃ (a b : Addr) (xs ys : List V) (ps qs : List W), vs = [.ref a, .ref b] ∧ H a = some (.lst xs) ∧ H b = some (.lst ys) ∧ Pile H xs ps ∧ Pile H ys qs ∧ (∀ z ∈ ps, Wok z) ∧ (∀ z ∈ qs, Wok z) ∧ Q (.int (Wk.lcp ps qs)) H
theorem ok_alike (T : Txt P w K mg) : FnOk P w K mg base CX0 1 T.f_alike T.fd_alike ["one", "other"] spAlike := by
  refine T.F_alike.ok sc_alike (fun vs H Q E h => ?_) (fun cdv A outer s H vs Q E hr h => ?_)
  · obtain ⟨a, b, xs, ys, ps, qs, rfl, _⟩ := h
    rfl
  · obtain ⟨a, b, xs, ys, ps, qs, rfl, ha, hb, pa, pb, oka, okb, q⟩ := h
    have la := pa.len
    have lb := pb.len
    have lc := Wk.lcp_le ps qs
    refine ⟨_, (pss_cons (ps_set (i := 2) sc_alike.nd rfl (.inl rfl) pe_int)
      (pss_cons (ps_while PassesOwn.never (PW.pt (pw_and (pt_cmpR op_lt (pv 2) (pe_callB call_len_seq (by rfl) T.n_len (by decide +kernel) (pa_cons (pv 0) pa_nil)) (nomark _)) (pw_and (pt_cmpR op_lt (pv 2) (pe_callB call_len_seq (by rfl) T.n_len (by decide +kernel) (pa_cons (pv 1) pa_nil)) (nomark _)) (pw_and1 (pt_cmpR (op_eqD hr.units) (pe_ix ix_list (pv 0) (pv 2) (fun _ _ => rfl)) (pe_ix ix_list (pv 1) (pv 2) (fun _ _ => rfl)) (nomark _)))))) (pss_one (ps_set (i := 2) sc_alike.nd rfl (.inl rfl) (pe_op op_add (pv 2) pe_int))))
      (pss_one (ps_ret (pv 2))))), ?_⟩
    rw [show L2.start ["one", "other", "many"] [.ref a, .ref b] = [some (.ref a), some (.ref b), none] from rfl]
    try dsimp only [cxOf]
    walk_at "wp"
    refine whileW (fun m σ H' => H' = H ∧ ∃ k : Nat, σ = [some (.ref a), some (.ref b), some (.int k)] ∧ k ≤ Wk.lcp ps qs ∧ m = ps.length - k) ps.length ⟨rfl, 0, rfl, Nat.zero_le _, rfl⟩ ?_
    rintro m σ H' ⟨rfl, k, rfl, hk, rfl⟩
    have st := Wc.lcp_step hk
    have stop : ¬ k < Wk.lcp ps qs → Q (.int (k : Int)) H' := fun h => by
      rw [show k = Wk.lcp ps qs by omega]
      exact q
    walk_at "wp"
    refine ite_ (fun c1 => ?_) (fun c1 => ?_)
    · walk_at "wp"
      refine ite_ (fun c2 => ?_) (fun c2 => ?_)
      · obtain ⟨v, z, hv, hz, wv⟩ := pa.at (show k < ps.length by omega)
        obtain ⟨u, y, hu, hy, wu⟩ := pb.at (show k < qs.length by omega)
        walk_at "wp"
        refine ixL (SqL.of ha) (atI_nat hv) ?_
        walk_at "wp"
        refine ixL (SqL.of hb) (atI_nat hu) ?_
        refine ⟨_, _, wv.dp, wu.dp, wD_shaped (oka z (List.mem_of_getElem? hz)), wD_shaped (okb y (List.mem_of_getElem? hy)), ?_⟩
        rw [wD_eqv]
        walk_at "wp"
        refine ite_ (fun e => ?_) (fun e => ?_)
        · have lt := st.mpr ⟨z, hz, by rw [hy, e]⟩
          refine ⟨fun σ' H2 => H2 = H' ∧ σ' = [some (.ref a), some (.ref b), some (.int ((k + 1 : Nat) : Int))], ?_, ?_⟩
          · rintro σ' H2 ⟨rfl, rfl⟩
            exact ⟨ps.length - (k + 1), by omega, rfl, k + 1, rfl, by omega, rfl⟩
          · walk_at "wp"
            exact ⟨rfl, rfl⟩
        · walk_at "wp"
          exact stop fun lt => by
            obtain ⟨x, h1, h2⟩ := st.mp lt
            rw [hz] at h1
            rw [hy] at h2
            cases h1
            cases h2
            exact e rfl
      · walk_at "wp"
        exact stop fun lt => by omega
    · walk_at "wp"
      exact stop fun lt => by omega
def spLspots : Sp := fun vs H Q _ => ∃ (a : Addr) (ys : List V) (Ps : List (List W)), vs = [.ref a] ∧ H a = some (.lst ys) ∧ Lists [] H ys Ps ∧ Wc.PsOk Ps ∧ ∀ H', Same H H' → Q (.int (Wk.trie Ps).length) H'
theorem ok_lspots (T : Txt P w K mg) : FnOk P w K mg base CX0 2 T.f_lspots T.fd_lspots ["piles"] spLspots := by
  have G_alike := ok_alike (base := base) T
  refine T.F_lspots.ok sc_lspots (fun vs H Q E h => ?_) (fun cdv A outer s H vs Q E hr h => ?_)
  · obtain ⟨a, ys, Ps, rfl, _⟩ := h
    rfl
  · obtain ⟨a, ys, Ps, rfl, ha, L, ok, q⟩ := h
    refine ⟨_, (pss_cons (ps_set (i := 1) sc_lspots.nd rfl (.inl rfl) pe_int)
      (pss_cons (ps_set (i := 2) sc_lspots.nd rfl (.inl rfl) (pe_lst pa_nil))
      (pss_cons (ps_for PassesOwn.never rfl (pi_list (pe_callB (Ws.cr_sortD hr.units) (by rfl) T.n_sorted (by decide +kernel) (pa_cons (pv 0) pa_nil))) (pg_name (i := 3) sc_lspots.nd rfl (.inl rfl)) (pss_cons (ps_set (i := 1) sc_lspots.nd rfl (.inl rfl) (pe_op op_sub (pe_op op_add (pv 1) (pe_callB call_len_seq (by rfl) T.n_len (by decide +kernel) (pa_cons (pv 3) pa_nil))) (pe_call G_alike (hr.mono (by decide)) (by rfl) T.g_alike T.F_alike.kp T.b_alike .nil pass0 (pa_cons (pv 2) (pa_cons (pv 3) pa_nil)))))
      (pss_one (ps_set (i := 2) sc_lspots.nd rfl (.inl rfl) (pv 3)))))
      (pss_one (ps_ret (pv 1)))))), ?_⟩
    rw [show L2.start ["piles", "many", "ahead", "pile"] [.ref a] = [some (.ref a), none, none, none] from rfl]
    try dsimp only [cxOf]
    walk_at "wp"
    rename_i e he
    have s0 := same_new (o := .lst []) he
    refine Wc.sort_lists (L.keep (Ks.same s0)) rfl (SqL.of (s0 _ _ ha)) fun t ts Qs ht hp Lq hw => ?_
    have st := same_new (o := .lst ts) ht
    have okq : Wc.PsOk Qs := fun z hz => ok z (hp.mem_iff.mp hz)
    have Lt := Lq.keep (Ks.same st)
    have het : upd (upd H e (.lst [])) t (.lst ts) e = some (.lst []) := st _ _ upd_same
    have htt : upd (upd H e (.lst [])) t (.lst ts) t = some (.lst ts) := upd_same
    have ss := s0.trans st
    generalize upd (upd H e (.lst [])) t (.lst ts) = H0 at Lt het htt ss
    walk_at "wp"
    refine ⟨⟨ts, SqL.of htt⟩, loopL (xs := ts) (fun i σ H' => H' = H0 ∧ ∃ (av : Addr) (xs : List V) (y3 : Option V), σ = [some (.ref a), some (.int ((Wk.sumL [] (Qs.take i) : Nat) : Int)), some (.ref av), y3] ∧ H0 av = some (.lst xs) ∧ Pile H0 xs ((Qs.take i).getLastD []) ∧ ∀ z ∈ (Qs.take i).getLastD [], Wok z)
      ⟨rfl, e, [], none, rfl, het, Pile.nil, (fun _ h => nomatch h)⟩ (fun i σ H' hi h => h.1 ▸ SqL.of htt) ?_ ?_⟩
    · rintro i x σ H' hx ⟨rfl, av, xs, y3, rfl, hav, pav, okav⟩
      obtain ⟨p, hpi, l, vs, rfl, hl, pv, _⟩ := pair_at1 Lt hx
      have okp := (okq p (List.mem_of_getElem? hpi)).2
      have lv := pv.len
      walk_at "wp"
      refine ⟨av, l, xs, vs, _, p, rfl, hav, hl, pav, pv, okav, okp, ?_⟩
      walk_at "wp"
      have lc := Wk.lcp_le ((Qs.take i).getLastD []) p
      have e1 : Qs.take (i + 1) = Qs.take i ++ [p] := by rw [List.take_add_one, hpi] <;> rfl
      have e2 : (Qs.take i ++ [p]).getLastD [] = p := by simp
      refine ⟨rfl, l, vs, some (.ref l), ?_, hl, ?_, ?_⟩
      · rw [e1, Wc.sumL_snoc]
        have ee : ((Wk.sumL [] (Qs.take i) : Nat) : Int) + (vs.length : Int) - ((Wk.lcp ((Qs.take i).getLastD []) p : Nat) : Int) = ((Wk.sumL [] (Qs.take i) + (p.length - Wk.lcp ((Qs.take i).getLastD []) p) : Nat) : Int) := by omega
        rw [ee]
      · rw [e1, e2]; exact pv
      · rw [e1, e2]; exact okp
    · rintro σ H' ⟨rfl, av, xs, y3, rfl, hav, pav, okav⟩
      walk_at "wp"
      rw [Lt.len, List.take_length, Wk.sorted_sum hp hw]
      exact q _ ss

end
end K09

namespace K09
open PySem PySem.Spec PyProof.Rows L2 Wp Wq Wr Wb
local macro_rules | `(tactic| walk_at "ne") => `(tactic| first
  | assumption
  | (refine Ne.symm ?_; assumption)
  | exact ne_of_none (by assumption) (by assumption)
  | exact (ne_of_none (by assumption) (by assumption)).symm
  | exact ne_of (by assumption) (by assumption) (by intro q; cases q))
local macro_rules | `(tactic| walk_at "hp") => `(tactic| first
  | assumption
  | exact upd_same
  | (refine (upd_ne ?_).trans ?_; (walk_at "ne"); (walk_at "hp")))
local macro_rules | `(tactic| walk_at "sq") => `(tactic| first
  | assumption
  | exact SqL.of (by walk_at "hp")
  | exact SqT.of (by walk_at "hp"))
local macro_rules | `(tactic| walk_at "kind") => `(tactic| first
  | assumption
  | exact Kind.int _
  | exact Kind.str _
  | exact Kind.bl _
  | exact Kind.non
  | exact Kind.tup (by walk_at "hp")
  | exact Kind.lst (by walk_at "hp")
  | exact Kind.dK (by walk_at "hp"))
local macro_rules | `(tactic| walk_at "w1") => `(tactic| first
  | (with_reducible refine Wp.seq ?_)
  | (with_reducible refine Wp.nx_mk ?_)
  | (with_reducible refine Wp.rt_mk ?_)
  | (with_reducible refine Wp.bk_mk ?_)
  | (with_reducible refine Wp.ct_mk ?_)
  | (with_reducible refine Wp.next ?_)
  | (with_reducible refine Wp.asg ?_)
  | ((with_reducible refine' Wp.gname ?e ?_); (case e => (try dsimp only [List.set, L2.wipe, List.map_cons, List.map_nil]); (try exact rfl)))
  | (with_reducible refine Wp.gsub ?_)
  | (with_reducible refine Wp.ret ?_)
  | (with_reducible refine Wp.retN ?_)
  | (with_reducible refine Wp.drop ?_)
  | (with_reducible refine Wp.dput ?_)
  | (with_reducible refine Wp.ifs ?_)
  | ((with_reducible refine' Wp.var ?h ?_); (case h => exact rfl))
  | (with_reducible refine Wp.con ?_)
  | (with_reducible refine Wp.op ?_)
  | (with_reducible refine Wp.un ?_)
  | (with_reducible refine Wp.cb ?_)
  | (with_reducible refine Wp.anil ?_)
  | (with_reducible refine Wp.acons ?_)
  | (with_reducible refine Wp.call ?_)
  | (with_reducible refine Wp.test ?_)
  | (with_reducible refine Wp.tb_ ?_)
  | (with_reducible refine Wp.and_ ?_)
  | (with_reducible refine Wp.or_ ?_)
  | (with_reducible refine Wp.not_ ?_)
  | (with_reducible refine Wp.andV ?_)
  | (with_reducible refine Wp.orV ?_)
  | (with_reducible refine Wp.notV ?_)
  | (with_reducible refine Wp.rI0_ ?_)
  | (with_reducible refine Wp.rU_ ?_)
  | ((with_reducible refine Wp.rEq_ ?k ?_); (case k => exact rfl))
  | ((with_reducible refine Wp.rNe_ ?k ?_); (case k => exact rfl))
  | (with_reducible refine Wp.gcons ?_)
  | (with_reducible refine Wp.gnil ?_)
  | ((with_reducible refine' Wp.gtup ?h ?e ?_); (case h => walk_at "sq"); (case e => exact rfl))
  | (with_reducible refine Wp.sl ?_)
  | (with_reducible refine Wp.part ?_)
  | (with_reducible refine Wp.nopart ?_)
  | (with_reducible refine Wp.ifE ?_)
  | (with_reducible refine Wp.bm0 ?_)
  | (with_reducible refine Wp.bm ?_)
  | (with_reducible refine Wp.lcR1 ?_)
  | (with_reducible refine Wp.lcR2 ?_)
  | (with_reducible refine Wp.lcL ?_)
  | (with_reducible refine Wp.chain ?_)
  | (with_reducible refine Wp.lc2V ?_)
  | (with_reducible refine Wp.piL ?_)
  | (with_reducible refine Wp.yes ?_)
  | (with_reducible refine Wp.dinI ?_)
  | (with_reducible refine Wp.dninI ?_)
  | (with_reducible refine Wp.dget ?_)
  | ((with_reducible refine' ⟨?k, ?_⟩); (case k => show L2.wipe _ _ = L2.wipe _ _; exact rfl))
  | (with_reducible refine Wp.forR1 ?_)
  | (with_reducible refine Wp.forR2 ?_)
  | (with_reducible refine Wp.forL ?_)
  | (with_reducible refine Wp.forT ?_)
  | ((with_reducible refine' ⟨?k, ?_⟩); (case k => exact Wp.tyvL (by walk_at "hp")))
  | ((with_reducible refine' Wp.rev_ ?k ?_); (case k => walk_at "hp"))
  | ((with_reducible refine' Wp.isi ?k ?h ?_); (case k => walk_at "kind"); (case h => decide))
  | ((with_reducible refine' Wp.typ ?k ?_); (case k => walk_at "kind"))
  | (with_reducible refine Wp.slS ?k ?_; (case k => assumption))
  | (with_reducible refine iteT ?_)
  | (with_reducible refine iteF ?_)
  | (with_reducible refine Wc.revL ?_)
  | (with_reducible refine Wd.nm ?_)
  | (with_reducible refine Wd.nget ?_)
  | ((with_reducible refine Wd.tnew ?_); intro p hp)
  | (with_reducible refine Wd.pikn ?_)
  | (with_reducible refine Wt.m1 ?_)
  | (with_reducible refine Wt.m0 ?_)
  | ((with_reducible refine' ⟨?k, ?_⟩); (case k => show ∃ a, _ = V.str a; exact ⟨_, rfl⟩))
  | (with_reducible refine Wt.js_cons ?_)
  | (with_reducible refine Wt.fmt_ ?_)
  | (with_reducible refine Wp.pcons ?_)
  | (with_reducible refine Wp.pnil ?_)
  | ((with_reducible refine' Wp.iteBnT ?h ?_); (case h => show isB _ _ = false; decide))
  | ((with_reducible refine' Wp.iteBnF ?h ?_); (case h => show isB _ _ = true; decide))
  | ((with_reducible refine' Wp.iteBt ?h ?_); (case h => show isB _ _ = true; decide))
  | ((with_reducible refine' Wp.iteBf ?h ?_); (case h => show isB _ _ = false; decide))
  | (with_reducible refine Wp.iteT' ?_)
  | (with_reducible refine Wp.iteF' ?_)
  | (with_reducible refine Wp.rNT_ ?_)
  | ((with_reducible refine Wp.lst ?_))
  | ((with_reducible refine Wp.tup ?_))
  | ((with_reducible refine' Wp.ixL ?h ?e ?_); (case h => walk_at "sq"); (case e => exact rfl))
  | ((with_reducible refine' Wp.ixT ?h ?e ?_); (case h => walk_at "sq"); (case e => exact rfl))
  | ((with_reducible refine' Wp.setL ?h ?e ?_); (case h => walk_at "hp"); (case e => exact rfl))
  | ((with_reducible refine Wp.rI_ ?k ?_); (case k => first | (show (0:Int) < _; omega) | (show CPow _ _; refine' ⟨?_, ?_, ?_⟩ <;> omega) | (show CDiv _ _; refine' ⟨?_, ?_⟩ <;> omega) | (show CMul _ _; refine' Or.inl ⟨?_, ?_⟩ <;> omega) | (show CMul _ _; refine' Or.inr ⟨?_, ?_⟩ <;> first | omega | decide) | (show CDivW _ _; refine' wide_div (b := 240) ?_ ?_ ?_ ?_ <;> first | omega | decide)))
  | ((with_reducible refine ⟨?k, ?_⟩); (case k => first | exact Nat.zero_le _ | (exact Nat.le_of_ble_eq_true rfl)); intro p hp)
  | ((with_reducible refine' ⟨_, _, rfl, .inl ?k, ?_⟩); (case k => walk_at "sq"))
  | ((with_reducible refine' ⟨_, _, rfl, .inr ?k, ?_⟩); (case k => walk_at "sq"))
  | (with_reducible refine ⟨_, rfl, ?_⟩)
  | (with_reducible refine ⟨_, _, rfl, rfl, ?_⟩)
  | (with_reducible refine ⟨_, _, rfl, ?_⟩))
local macro_rules | `(tactic| walk_at "wp") => `(tactic| repeat (walk_at "w1"))

def Some1 (H : Hp) (x : V) : Prop := ∃ l ys Ps, x = .ref l ∧ H l = some (.lst ys) ∧ Lists [] H ys Ps ∧ Wc.PsOk Ps ∧ Ps.length ≤ 61
theorem Some1.keep {H H' : Hp} {x : V} (h : Some1 H x) (s : Same H H') : Some1 H' x := by
  obtain ⟨l, ys, Ps, e, h1, h2, h3⟩ := h
  exact ⟨l, ys, Ps, e, s _ _ h1, h2.keep (Ks.same s), h3⟩
section
variable {P : Program} {w : World} {K : PySem.W.Frag} {mg : Str → Option Value} {base : Heap}
def spSpots : Sp := fun vs H Q _ => ∃ (a : Addr) (ys : List V) (Ps : List (List W)), vs = [.ref a] ∧ H a = some (.lst ys) ∧ Lists [] H ys Ps ∧ Wc.PsOk Ps ∧ Ps.length ≤ 61 ∧ ∀ H', Same H H' → Q (.int (Wk.trie Ps).length) H'
theorem ok_spots (T : Txt P w K mg) : FnOk P w K mg base CX0 2 T.f_spots T.fd_spots ["piles"] spSpots := by
  have G_beginnings_of := ok_beginnings_of (base := base) T
  refine T.F_spots.ok sc_spots (fun vs H Q E h => ?_) (fun cdv A outer s H vs Q E hr h => ?_)
  · obtain ⟨a, ys, Ps, rfl, _⟩ := h
    rfl
  · obtain ⟨a, ys, Ps, rfl, ha, L, ok, l60, q⟩ := h
    refine ⟨_, (pss_one (ps_ret (pe_callB Wd.call_lenN (by rfl) T.n_len (by decide +kernel) (pa_cons (pe_call G_beginnings_of (hr.mono (by decide)) (by rfl) T.g_beginnings_of T.F_beginnings_of.kp T.b_beginnings_of .nil pass0 (pa_cons (pv 0) pa_nil)) pa_nil)))), ?_⟩
    rw [show L2.start ["piles"] [.ref a] = [some (.ref a)] from rfl]
    try dsimp only [cxOf]
    walk_at "wp"
    refine ⟨a, ys, Ps, rfl, ha, L, l60, fun q hq => (ok q hq).1, fun d H' hd nd s => ?_⟩
    walk_at "wp"
    refine ⟨d, _, rfl, nd, ?_⟩
    unfold Wk.kvsT
    rw [List.length_map]
    exact q _ s
def spLaw (K : PySem.W.Frag) : Sp := fun vs H Q _ => ∃ (a : Addr) (ns : List Int), vs = [.ref a] ∧ SqL K H a (ns.map V.int) ∧ ns.length ≤ 63 ∧ ∀ H', Q (.bl true) H'
theorem ok_law (T : Txt P w K mg) : FnOk P w K mg base CX0 5 T.f_law T.fd_law ["script"] (spLaw K) := by
  have G_cell_at := ok_cell_at (base := base) T
  have G_bag := ok_bag (base := base) T
  have G_draw := ok_draw (base := base) T
  have G_piles := ok_piles (base := base) T
  have G_spots := ok_spots (base := base) T
  have G_lspots := ok_lspots (base := base) T
  have G_whole := ok_whole (base := base) T
  refine T.F_law.ok sc_law (fun vs H Q E h => ?_) (fun cdv A outer s H vs Q E hr h => ?_)
  · obtain ⟨a, ns, rfl, _⟩ := h
    rfl
  · obtain ⟨a, ns, rfl, hS, hl, q⟩ := h
    refine ⟨_, (pss_cons (ps_set (i := 1) sc_law.nd rfl (.inl rfl) (pe_call G_spots (hr.mono (by decide)) (by rfl) T.g_spots T.F_spots.kp T.b_spots .nil pass0 (pa_cons (pe_lst pa_nil) pa_nil)))
      (pss_cons (ps_if (PW.pt (pw_or (pt_not (pt_val (pe_call G_whole (hr.mono (by decide)) (by rfl) T.g_whole T.F_whole.kp T.b_whole .nil pass0 (pa_cons (pv 1) pa_nil)))) (pw_or1 (pt_cmpR op_ne (pv 1) pe_int (nomark _))))) (pss_one (ps_ret pe_bl)) pss_nil)
      (pss_cons (ps_for PassesOwn.never rfl (pi_range1 (by rfl) T.n_range (pa_cons (pe_callB (call_max2 rfl) (by rfl) T.n_max (by decide +kernel) (pa_cons pe_int (pa_cons (pe_callB (call_min2 rfl) (by rfl) T.n_min (by decide +kernel) (pa_cons pe_int (pa_cons (pe_callB call_len_seq (by rfl) T.n_len (by decide +kernel) (pa_cons (pv 0) pa_nil)) pa_nil))) pa_nil))) pa_nil)) (pg_name (i := 2) sc_law.nd rfl (.inl rfl)) (pss_cons (ps_set (i := 3) sc_law.nd rfl (.inl rfl) (pe_call G_bag (hr.mono (by decide)) (by rfl) T.g_bag T.F_bag.kp T.b_bag .nil pass0 (pa_cons (pe_call G_cell_at (hr.mono (by decide)) (by rfl) T.g_cell_at T.F_cell_at.kp T.b_cell_at .nil pass0 (pa_cons (pv 0) (pa_cons (pv 2) pa_nil))) (pa_cons (pv 2) pa_nil))))
      (pss_cons (ps_set (i := 4) sc_law.nd rfl (.inl rfl) (pe_call G_piles (hr.mono (by decide)) (by rfl) T.g_piles T.F_piles.kp T.b_piles .nil pass0 (pa_cons (pv 3) pa_nil)))
      (pss_cons (ps_set (i := 5) sc_law.nd rfl (.inl rfl) (pe_call G_draw (hr.mono (by decide)) (by rfl) T.g_draw T.F_draw.kp T.b_draw .nil pass0 (pa_cons (pv 3) (pa_cons (pe_callB call_len_seq (by rfl) T.n_len (by decide +kernel) (pa_cons (pv 4) pa_nil)) pa_nil))))
      (pss_one (ps_for PassesOwn.never rfl (pi_list (pe_lst (pa_cons (pv 4) (pa_cons (pe_op op_cat (pe_slice sl_list (pv 4) (po_some (pv 5)) po_none) (pe_slice sl_list (pv 4) po_none (po_some (pv 5)))) (pa_cons (pe_op op_cat (pe_slice sl_list (pv 4) po_none (po_some pe_int)) (pe_lst (pa_cons (pe_ix ix_list (pv 4) (pe_callB (call_min2 rfl) (by rfl) T.n_min (by decide +kernel) (pa_cons (pv 5) (pa_cons pe_int pa_nil))) (fun _ _ => rfl)) pa_nil))) (pa_cons (pe_revL (pv 4)) pa_nil)))))) (pg_name (i := 6) sc_law.nd rfl (.inl rfl)) (pss_cons (ps_setLc (i := 7) (own := [("pile", 9)]) rfl sc_law.nd rfl rfl (sw_true rfl rfl rfl (by decide +kernel)) (pi_list (pv 6)) (blkOk_by (N := ["script", "none", "k", "bag", "piles", "at", "some", "handed", "found", "pile"]) (sc := defScope s_law) (by decide +kernel)) (fun _ _ _ _ _ => pg_name (i := 9) sc_law.nd rfl (Or.inl rfl)) (fun _ _ _ _ _ => pts_nil) (fun _ _ _ _ _ => (pe_callTy (show CallR _ _ (Wp.rListS K) from Wp.call_listS) (by rfl) T.n_list (by decide +kernel) (pa_cons (pv 9) pa_nil))))
      (pss_cons (ps_set (i := 8) sc_law.nd rfl (.inl rfl) (pe_call G_spots (hr.mono (by decide)) (by rfl) T.g_spots T.F_spots.kp T.b_spots .nil pass0 (pa_cons (pv 7) pa_nil)))
      (pss_one (ps_if (PW.pt (pw_or (pt_not (pt_val (pe_call G_whole (hr.mono (by decide)) (by rfl) T.g_whole T.F_whole.kp T.b_whole .nil pass0 (pa_cons (pv 8) pa_nil)))) (pw_or (pt_cmpR op_ne (pv 8) (pe_call G_lspots (hr.mono (by decide)) (by rfl) T.g_lspots T.F_lspots.kp T.b_lspots .nil pass0 (pa_cons (pv 6) pa_nil)) (nomark _)) (pw_or1 (pt_cmpR (op_neD hr.units) (pv 7) (pv 6) (nomark _)))))) (pss_one (ps_ret pe_bl)) pss_nil))))))))))
      (pss_one (ps_ret pe_bl))))), ?_⟩
    rw [show L2.start ["script", "none", "k", "bag", "piles", "at", "some", "handed", "found", "pile"] [.ref a] = [some (.ref a), none, none, none, none, none, none, none, none, none] from rfl]
    try dsimp only [cxOf]
    walk_at "wp"
    rename_i e0 he0
    have s0 := same_new (o := .lst []) he0
    refine ⟨e0, [], [], rfl, upd_same, .nil, (fun _ h => nomatch h), by decide, fun H1 s1 => ?_⟩
    have ss1 := s0.trans s1
    have hS1 := ss1.seq hS
    walk_at "wp"
    refine ⟨_, _, rfl, .int _, ?_⟩
    walk_at "wp"
    refine iteN (fun e => absurd rfl e) (fun _ => ?_)
    walk_at "wp"
    refine iteN (fun e => absurd rfl e) (fun _ => ?_)
    walk_at "wp"
    generalize hN : (if (if ((ns.map V.int).length : Int) < 6 then ((ns.map V.int).length : Int) else 6) > 1 then (if ((ns.map V.int).length : Int) < 6 then ((ns.map V.int).length : Int) else 6) else 1) = N
    have hN1 : N ≤ 6 := by
      rw [← hN]
      split <;> (try split) <;> omega
    have hN0 : 0 ≤ N := by
      rw [← hN]
      split <;> (try split) <;> omega
    refine ⟨by omega, by omega, loopR (fun i σ H' => ∃ y1 y2 y3 y4 y5 y6 y7 y8, σ = [some (.ref a), y1, y2, y3, y4, y5, y6, y7, y8, none] ∧ Same H1 H') ⟨_, _, _, _, _, _, _, _, rfl, fun _ _ h => h⟩ ?_ ?_⟩
    · rintro i σ H2 hi ⟨y1, y2, y3, y4, y5, y6, y7, y8, rfl, s2⟩
      rw [Int.zero_add]
      walk_at "wp"
      refine ⟨a, ns, i, rfl, s2.seq hS1, fun c => ?_⟩
      walk_at "wp"
      refine ⟨c, i, rfl, by omega, fun b H3 nb hb3 s3 => ?_⟩
      walk_at "wp"
      refine ⟨b, 0, rfl, hb3, by omega, fun p ys Ps H4 pn hp L ok l0 l1 hb4 k4 => ?_⟩
      have hbH : H1 b = none := by
        cases e : H1 b with
        | none => rfl
        | some o => exact absurd ((s2 _ _ e).symm.trans nb) (by intro q; cases q)
      have s4 : Same H1 H4 := fun c o hc => k4.keep _ _ (fun q => ne_of_none hc hbH (List.mem_singleton.mp q)) (s3 _ _ (s2 _ _ hc))
      have lp := L.len
      walk_at "wp"
      refine ⟨b, _, _, rfl, hb4, by omega, by omega, by omega, fun at_ H5 a0 a1 hb5 k5 => ?_⟩
      have ks5 := hb4.ks k5
      have hpb : p ≠ b := fun q => by
        obtain ⟨x, y, z, e1, _⟩ := hb3
        rw [q] at pn
        rw [pn] at e1
        cases e1
      have hp5 := k5 _ _ hpb hp
      have L5 := (L.keep ks5).less (S' := []) (by simp)
      have s5 : Same H1 H5 := fun c o hc => k5 _ _ (ne_of_none hc hbH) (s4 _ _ hc)
      walk_at "wp"
      have big := small (n := 1000) (by decide)
      obtain ⟨u, rfl⟩ : ∃ u : Nat, at_ = (u : Int) := ⟨at_.toNat, by omega⟩
      refine slL (SqL.of hp5) fun q1 hq1 => ?_
      rw [Wc.cut_drop]
      have t1 := same_new (o := .lst (ys.drop u)) hq1
      walk_at "wp"
      refine slL (SqL.of (t1 _ _ hp5)) fun q2 hq2 => ?_
      rw [cut_take]
      have t2 := same_new (o := .lst (ys.take u)) hq2
      walk_at "wp"
      refine cat_ (t2 _ _ upd_same) upd_same (by rw [List.length_drop, List.length_take]; omega) fun q3 hq3 => ?_
      have t3 := same_new (o := .lst (ys.drop u ++ ys.take u)) hq3
      have h3 : upd (upd (upd H5 q1 (.lst (ys.drop u))) q2 (.lst (ys.take u))) q3 (.lst (ys.drop u ++ ys.take u)) q3 = _ := upd_same
      have t13 := t1.trans (t2.trans t3)
      generalize upd (upd (upd H5 q1 (.lst (ys.drop u))) q2 (.lst (ys.take u))) q3 (.lst (ys.drop u ++ ys.take u)) = H6 at h3 t13
      walk_at "wp"
      refine slL (SqL.of (t13 _ _ hp5)) fun q4 hq4 => ?_
      rw [show cutV ys none (some 59) = ys.take 59 from cut_take (n := 59)]
      have t4 := same_new (o := .lst (ys.take 59)) hq4
      walk_at "wp"
      obtain ⟨x0, hx0⟩ : ∃ x, ys[(if u < 58 then u else 58)]? = some x := ⟨_, List.getElem?_eq_getElem (by split <;> omega)⟩
      obtain ⟨p0, hp0, r0⟩ := pair_at1 L5 hx0
      refine ixL (SqL.of (t4 _ _ (t13 _ _ hp5))) (x := x0) ?_ ?_
      · rw [show (if (58 : Int) < (u : Int) then (58 : Int) else (u : Int)) = ((if u < 58 then u else 58 : Nat) : Int) by split <;> split <;> omega]
        exact atI_nat hx0
      walk_at "wp"
      rename_i q5 hq5
      have t5 := same_new (o := .lst [x0]) hq5
      refine cat_ (t5 _ _ upd_same) upd_same (by rw [List.length_take]; show _ + 1 ≤ _; omega) fun q6 hq6 => ?_
      have t6 := same_new (o := .lst (ys.take 59 ++ [x0])) hq6
      have h6 : upd (upd (upd H6 q4 (.lst (ys.take 59))) q5 (.lst [x0])) q6 (.lst (ys.take 59 ++ [x0])) q6 = _ := upd_same
      have t46 := t4.trans (t5.trans t6)
      generalize upd (upd (upd H6 q4 (.lst (ys.take 59))) q5 (.lst [x0])) q6 (.lst (ys.take 59 ++ [x0])) = H7 at h6 t46
      have hp7 := t46 _ _ (t13 _ _ hp5)
      walk_at "wp"
      refine ⟨p, ys, rfl, SqL.of hp7, fun q7 hq7 => ?_⟩
      have t7 := same_new (o := .lst ys.reverse) hq7
      walk_at "wp"
      rename_i q8 hq8
      have t8 := same_new (o := .lst [.ref p, .ref q3, .ref q6, .ref q7]) hq8
      have t58 : Same H5 _ := (t13.trans t46).trans (t7.trans t8)
      have L8 := L5.keep (Ks.same t58)
      have h38 := t8 _ _ (t7 _ _ (t46 _ _ h3))
      have h68 := t8 _ _ (t7 _ _ h6)
      have h78 := t8 _ _ (upd_same (H := H7) (a := q7) (o := .lst ys.reverse))
      have hp8 := t8 _ _ (t7 _ _ hp7)
      have h88 : upd (upd H7 q7 (.lst ys.reverse)) q8 (.lst [.ref p, .ref q3, .ref q6, .ref q7]) q8 = some (.lst [.ref p, .ref q3, .ref q6, .ref q7]) := upd_same
      have r08 := r0.keep (Ks.same t58)
      generalize upd (upd H7 q7 (.lst ys.reverse)) q8 (.lst [.ref p, .ref q3, .ref q6, .ref q7]) = H8 at t58 L8 h38 h68 h78 hp8 h88 r08
      have ps1 : Wc.PsOk Ps := ok
      have o3 : Wc.PsOk (Ps.drop u ++ Ps.take u) := fun x hx => (List.mem_append.mp hx).elim (fun h => ok x (List.mem_of_mem_drop h)) (fun h => ok x (List.mem_of_mem_take h))
      have o6 : Wc.PsOk (Ps.take 59 ++ [p0]) := fun x hx => (List.mem_append.mp hx).elim (fun h => ok x (List.mem_of_mem_take h)) (fun h => by rw [List.mem_singleton.mp h]; exact ok p0 (List.mem_of_getElem? hp0))
      have o7 : Wc.PsOk Ps.reverse := fun x hx => ok x (List.mem_reverse.mp hx)
      have all4 : ∀ x ∈ [V.ref p, .ref q3, .ref q6, .ref q7], Some1 H8 x := by
        intro x hx
        simp only [List.mem_cons, List.not_mem_nil, or_false] at hx
        rcases hx with rfl | rfl | rfl | rfl
        · exact ⟨p, ys, Ps, rfl, hp8, L8, ps1, by omega⟩
        · exact ⟨q3, _, _, rfl, h38, pair_app (Wc.Lists.drop L8 u) (Wc.Lists.take L8 u), o3, by rw [List.length_append, List.length_drop, List.length_take]; omega⟩
        · exact ⟨q6, _, _, rfl, h68, pair_app (Wc.Lists.take L8 59) (.cons r08 .nil), o6, by rw [List.length_append, List.length_take]; show _ + 1 ≤ _; omega⟩
        · exact ⟨q7, _, _, rfl, h78, Wc.Lists.rev L8, o7, by rw [List.length_reverse]; omega⟩
      have s8 : Same H1 H8 := s5.trans t58
      refine ⟨⟨_, SqL.of h88⟩, loopL (xs := [V.ref p, .ref q3, .ref q6, .ref q7]) (fun j σ H' => ∃ y6 y7 y8, σ = [some (.ref a), y1, some (.int i), some (.ref b), some (.ref p), some (.int u), y6, y7, y8, none] ∧ Same H8 H') ⟨_, _, _, rfl, fun _ _ h => h⟩ (fun j σ H' hj h => by obtain ⟨_, _, _, _, s⟩ := h; exact SqL.of (s _ _ h88)) ?_ ?_⟩
      · rintro j x σ H9 hx ⟨y6, y7, y8, rfl, s9⟩
        obtain ⟨l, zs, Qs, rfl, hl9, L9, ok9, l9⟩ := (all4 x (List.mem_of_getElem? hx)).keep s9
        have lz := L9.len
        walk_at "wp"
        refine ⟨⟨zs, SqL.of hl9⟩, fun D hD => ?_⟩
        refine loopCL (xs := zs) (fun k H' => Same H9 H' ∧ ∃ acc, H' D = some (.lst acc) ∧ Lists [D] H' acc (Qs.take k)) ⟨same_new hD, [], upd_same, .nil⟩ (fun k H' _ h => SqL.of (h.1 _ _ hl9)) ?_ ?_
        · rintro k x H10 hk ⟨s10, acc, hD10, LA⟩
          obtain ⟨pz, hpz, lx, vx, rfl, hlx, px, _⟩ := pair_at1 L9 hk
          walk_at "wp"
          have hlx10 := s10 _ _ hlx
          refine listS_ (SqL.of hlx10) fun nl hnl => ?_
          have tn := same_new (o := .lst vx) hnl
          have hDn : D ≠ nl := ne_of_none hD10 hnl
          have kzs : k < zs.length := (List.getElem?_eq_some_iff.mp hk).1
          refine ⟨acc, tn _ _ hD10, ?_, ?_, _, upd_same, ?_⟩
          · rw [LA.len, List.length_take]; exact small (by omega)
          · intro c o hc
            rw [upd_ne (ne_of_none hc hD)]
            exact tn _ _ (s10 _ _ hc)
          · have ku := Ks.upd (S := [D]) (o := .lst (acc ++ [.ref nl])) (tn _ _ hD10) List.mem_cons_self
            have isl : IsLs [D] (upd H10 nl (.lst vx)) (.ref nl) pz := ⟨nl, vx, rfl, upd_same, (px.keep (Same.tk s10)).keep (Same.tk tn), fun q => hDn (List.mem_singleton.mp q).symm⟩
            rw [List.take_add_one, hpz]
            exact pair_app ((LA.keep (Ks.same tn)).keep ku) (.cons (isl.keep ku) .nil)
        · rintro H10 ⟨s10, acc, hD10, LA⟩
          rw [lz, List.take_length] at LA
          have LA0 := LA.less (S' := []) (by simp)
          have hl10 := s10 _ _ hl9
          have L10 := L9.keep (Ks.same s10)
          walk_at "wp"
          refine ⟨D, acc, Qs, rfl, hD10, LA0, ok9, l9, fun H11 s11 => ?_⟩
          walk_at "wp"
          refine ⟨_, _, rfl, .int _, ?_⟩
          walk_at "wp"
          refine iteN (fun e => absurd rfl e) (fun _ => ?_)
          walk_at "wp"
          refine ⟨l, zs, Qs, rfl, s11 _ _ hl10, L10.keep (Ks.same s11), ok9, fun H12 s12 => ?_⟩
          walk_at "wp"
          refine iteN (fun e => absurd rfl e) (fun _ => ?_)
          have s1112 := s11.trans s12
          have dA := Wc.Lists.dp (K := K) (LA0.keep (Ks.same s1112)) (SqL.of (s1112 _ _ hD10))
          have dL := Wc.Lists.dp (K := K) (L10.keep (Ks.same s1112)) (SqL.of (s1112 _ _ hl10))
          have sh := Wc.lDs_shaped ok9
          walk_at "wp"
          refine neD dA dL sh (Wq.eq_self sh) ?_
          walk_at "wp"
          exact ⟨_, _, _, rfl, s9.trans (s10.trans s1112)⟩
      · rintro σ H9 ⟨y6, y7, y8, rfl, s9⟩
        walk_at "wp"
        exact ⟨_, _, _, _, _, _, _, _, rfl, s8.trans s9⟩
    · rintro σ H2 ⟨y1, y2, y3, y4, y5, y6, y7, y8, rfl, s2⟩
      walk_at "wp"
      exact q _
end
end K09

namespace K09
open PySem PySem.Spec PyProof.Rows L2 Wp Wq Wr Wb
/-! ### what the top has written; the law's own head -/
theorem all_mk {l : PySem.W.OpenLaw} {w : World} {K : PySem.W.Frag} {h : Heap} {mg : Str → Option Value} {fa : Addr} (X : K.In h) (G : h.Ns mainGlobals mg) (hfa : mg "law" = some (.ref fa))
    {f0 : Addr} {od0 an0 : Option Addr} {sl0 : Array (Option Value)} {oc0 kV0 dc0 pm0 cd0 ct0 : Value}
    (a0 : PySem.W.nsIn K mainGlobals "beginnings_of" = some (some (.ref f0))) (l0 : K.lookup f0 = some ⟨oc0, od0, .func (PySem.W.fnOf "beginnings_of" "beginnings_of" (defArgs s_beginnings_of) (defBody s_beginnings_of) (defScope s_beginnings_of) .none kV0 dc0 pm0 an0 cd0 ct0), sl0⟩) (c0 : PySem.W.codeIn K cd0 "beginnings_of" = true) (k0 : PySem.W.keepIn K (.ref f0) = true)
    {f1 : Addr} {od1 an1 : Option Addr} {sl1 : Array (Option Value)} {oc1 kV1 dc1 pm1 cd1 ct1 : Value}
    (a1 : PySem.W.nsIn K mainGlobals "spots" = some (some (.ref f1))) (l1 : K.lookup f1 = some ⟨oc1, od1, .func (PySem.W.fnOf "spots" "spots" (defArgs s_spots) (defBody s_spots) (defScope s_spots) .none kV1 dc1 pm1 an1 cd1 ct1), sl1⟩) (c1 : PySem.W.codeIn K cd1 "spots" = true) (k1 : PySem.W.keepIn K (.ref f1) = true)
    {f2 : Addr} {od2 an2 : Option Addr} {sl2 : Array (Option Value)} {oc2 kV2 dc2 pm2 cd2 ct2 : Value}
    (a2 : PySem.W.nsIn K mainGlobals "_law_cell_at" = some (some (.ref f2))) (l2 : K.lookup f2 = some ⟨oc2, od2, .func (PySem.W.fnOf "_law_cell_at" "_law_cell_at" (defArgs s_cell_at) (defBody s_cell_at) (defScope s_cell_at) .none kV2 dc2 pm2 an2 cd2 ct2), sl2⟩) (c2 : PySem.W.codeIn K cd2 "_law_cell_at" = true) (k2 : PySem.W.keepIn K (.ref f2) = true)
    {f3 : Addr} {od3 an3 : Option Addr} {sl3 : Array (Option Value)} {oc3 kV3 dc3 pm3 cd3 ct3 : Value}
    (a3 : PySem.W.nsIn K mainGlobals "_law_bag" = some (some (.ref f3))) (l3 : K.lookup f3 = some ⟨oc3, od3, .func (PySem.W.fnOf "_law_bag" "_law_bag" (defArgs s_bag) (defBody s_bag) (defScope s_bag) .none kV3 dc3 pm3 an3 cd3 ct3), sl3⟩) (c3 : PySem.W.codeIn K cd3 "_law_bag" = true) (k3 : PySem.W.keepIn K (.ref f3) = true)
    {f4 : Addr} {od4 an4 : Option Addr} {sl4 : Array (Option Value)} {oc4 kV4 dc4 pm4 cd4 ct4 : Value}
    (a4 : PySem.W.nsIn K mainGlobals "_law_draw" = some (some (.ref f4))) (l4 : K.lookup f4 = some ⟨oc4, od4, .func (PySem.W.fnOf "_law_draw" "_law_draw" (defArgs s_draw) (defBody s_draw) (defScope s_draw) .none kV4 dc4 pm4 an4 cd4 ct4), sl4⟩) (c4 : PySem.W.codeIn K cd4 "_law_draw" = true) (k4 : PySem.W.keepIn K (.ref f4) = true)
    {f5 : Addr} {od5 an5 : Option Addr} {sl5 : Array (Option Value)} {oc5 kV5 dc5 pm5 cd5 ct5 : Value}
    (a5 : PySem.W.nsIn K mainGlobals "_law_worth" = some (some (.ref f5))) (l5 : K.lookup f5 = some ⟨oc5, od5, .func (PySem.W.fnOf "_law_worth" "_law_worth" (defArgs s_worth) (defBody s_worth) (defScope s_worth) .none kV5 dc5 pm5 an5 cd5 ct5), sl5⟩) (c5 : PySem.W.codeIn K cd5 "_law_worth" = true) (k5 : PySem.W.keepIn K (.ref f5) = true)
    {f6 : Addr} {od6 an6 : Option Addr} {sl6 : Array (Option Value)} {oc6 kV6 dc6 pm6 cd6 ct6 : Value}
    (a6 : PySem.W.nsIn K mainGlobals "_law_whole" = some (some (.ref f6))) (l6 : K.lookup f6 = some ⟨oc6, od6, .func (PySem.W.fnOf "_law_whole" "_law_whole" (defArgs s_whole) (defBody s_whole) (defScope s_whole) .none kV6 dc6 pm6 an6 cd6 ct6), sl6⟩) (c6 : PySem.W.codeIn K cd6 "_law_whole" = true) (k6 : PySem.W.keepIn K (.ref f6) = true)
    {f7 : Addr} {od7 an7 : Option Addr} {sl7 : Array (Option Value)} {oc7 kV7 dc7 pm7 cd7 ct7 : Value}
    (a7 : PySem.W.nsIn K mainGlobals "_law_many_piles" = some (some (.ref f7))) (l7 : K.lookup f7 = some ⟨oc7, od7, .func (PySem.W.fnOf "_law_many_piles" "_law_many_piles" (defArgs s_many_piles) (defBody s_many_piles) (defScope s_many_piles) .none kV7 dc7 pm7 an7 cd7 ct7), sl7⟩) (c7 : PySem.W.codeIn K cd7 "_law_many_piles" = true) (k7 : PySem.W.keepIn K (.ref f7) = true)
    {f8 : Addr} {od8 an8 : Option Addr} {sl8 : Array (Option Value)} {oc8 kV8 dc8 pm8 cd8 ct8 : Value}
    (a8 : PySem.W.nsIn K mainGlobals "_law_piles" = some (some (.ref f8))) (l8 : K.lookup f8 = some ⟨oc8, od8, .func (PySem.W.fnOf "_law_piles" "_law_piles" (defArgs s_piles) (defBody s_piles) (defScope s_piles) .none kV8 dc8 pm8 an8 cd8 ct8), sl8⟩) (c8 : PySem.W.codeIn K cd8 "_law_piles" = true) (k8 : PySem.W.keepIn K (.ref f8) = true)
    {f9 : Addr} {od9 an9 : Option Addr} {sl9 : Array (Option Value)} {oc9 kV9 dc9 pm9 cd9 ct9 : Value}
    (a9 : PySem.W.nsIn K mainGlobals "_law_alike" = some (some (.ref f9))) (l9 : K.lookup f9 = some ⟨oc9, od9, .func (PySem.W.fnOf "_law_alike" "_law_alike" (defArgs s_alike) (defBody s_alike) (defScope s_alike) .none kV9 dc9 pm9 an9 cd9 ct9), sl9⟩) (c9 : PySem.W.codeIn K cd9 "_law_alike" = true) (k9 : PySem.W.keepIn K (.ref f9) = true)
    {f10 : Addr} {od10 an10 : Option Addr} {sl10 : Array (Option Value)} {oc10 kV10 dc10 pm10 cd10 ct10 : Value}
    (a10 : PySem.W.nsIn K mainGlobals "_law_spots" = some (some (.ref f10))) (l10 : K.lookup f10 = some ⟨oc10, od10, .func (PySem.W.fnOf "_law_spots" "_law_spots" (defArgs s_lspots) (defBody s_lspots) (defScope s_lspots) .none kV10 dc10 pm10 an10 cd10 ct10), sl10⟩) (c10 : PySem.W.codeIn K cd10 "_law_spots" = true) (k10 : PySem.W.keepIn K (.ref f10) = true)
    {f11 : Addr} {od11 an11 : Option Addr} {sl11 : Array (Option Value)} {oc11 kV11 dc11 pm11 cd11 ct11 : Value}
    (a11 : PySem.W.nsIn K mainGlobals "law" = some (some (.ref f11))) (l11 : K.lookup f11 = some ⟨oc11, od11, .func (PySem.W.fnOf "law" "law" (defArgs s_law) (defBody s_law) (defScope s_law) .none kV11 dc11 pm11 an11 cd11 ct11), sl11⟩) (c11 : PySem.W.codeIn K cd11 "law" = true) (k11 : PySem.W.keepIn K (.ref f11) = true)
    (z_bool : PySem.W.nsIn K mainGlobals "bool" = some none)
    (z_int : PySem.W.nsIn K mainGlobals "int" = some none)
    (z_isinstance : PySem.W.nsIn K mainGlobals "isinstance" = some none)
    (z_len : PySem.W.nsIn K mainGlobals "len" = some none)
    (z_list : PySem.W.nsIn K mainGlobals "list" = some none)
    (z_max : PySem.W.nsIn K mainGlobals "max" = some none)
    (z_min : PySem.W.nsIn K mainGlobals "min" = some none)
    (z_range : PySem.W.nsIn K mainGlobals "range" = some none)
    (z_sorted : PySem.W.nsIn K mainGlobals "sorted" = some none)
    : ∃ fd : FuncData, (∀ (s : Shared) (v : Value), BindsTo s fd ⟨[v], []⟩ [("script", v)]) ∧ ∀ base : Heap, K.In base → base.Ns mainGlobals mg → FnOk l.prog w K mg base CX0 5 fa fd ["script"] (spLaw K) := by
  have e := hfa.symm.trans (PySem.W.mg_of X G a11)
  cases e
  have F0 := fun_mk (st := s_beginnings_of) l0 c0 k0
  have F1 := fun_mk (st := s_spots) l1 c1 k1
  have F2 := fun_mk (st := s_cell_at) l2 c2 k2
  have F3 := fun_mk (st := s_bag) l3 c3 k3
  have F4 := fun_mk (st := s_draw) l4 c4 k4
  have F5 := fun_mk (st := s_worth) l5 c5 k5
  have F6 := fun_mk (st := s_whole) l6 c6 k6
  have F7 := fun_mk (st := s_many_piles) l7 c7 k7
  have F8 := fun_mk (st := s_piles) l8 c8 k8
  have F9 := fun_mk (st := s_alike) l9 c9 k9
  have F10 := fun_mk (st := s_lspots) l10 c10 k10
  have F11 := fun_mk (st := s_law) l11 c11 k11
  let T : Txt l.prog w K mg := {
    f_beginnings_of := f0,
    fd_beginnings_of := _,
    F_beginnings_of := F0,
    b_beginnings_of := F0.binds (ps := ["piles"]) fun _ _ _ _ _ _ us hl => match us, hl with | [_], _ => rfl,
    g_beginnings_of := PySem.W.mg_of X G a0,
    f_spots := f1,
    fd_spots := _,
    F_spots := F1,
    b_spots := F1.binds (ps := ["piles"]) fun _ _ _ _ _ _ us hl => match us, hl with | [_], _ => rfl,
    g_spots := PySem.W.mg_of X G a1,
    f_cell_at := f2,
    fd_cell_at := _,
    F_cell_at := F2,
    b_cell_at := F2.binds (ps := ["script", "k"]) fun _ _ _ _ _ _ us hl => match us, hl with | [_, _], _ => rfl,
    g_cell_at := PySem.W.mg_of X G a2,
    f_bag := f3,
    fd_bag := _,
    F_bag := F3,
    b_bag := F3.binds (ps := ["cell", "place"]) fun _ _ _ _ _ _ us hl => match us, hl with | [_, _], _ => rfl,
    g_bag := PySem.W.mg_of X G a3,
    f_draw := f4,
    fd_draw := _,
    F_draw := F4,
    b_draw := F4.binds (ps := ["bag", "many"]) fun _ _ _ _ _ _ us hl => match us, hl with | [_, _], _ => rfl,
    g_draw := PySem.W.mg_of X G a4,
    f_worth := f5,
    fd_worth := _,
    F_worth := F5,
    b_worth := F5.binds (ps := ["bag", "few"]) fun _ _ _ _ _ _ us hl => match us, hl with | [_, _], _ => rfl,
    g_worth := PySem.W.mg_of X G a5,
    f_whole := f6,
    fd_whole := _,
    F_whole := F6,
    b_whole := F6.binds (ps := ["found"]) fun _ _ _ _ _ _ us hl => match us, hl with | [_], _ => rfl,
    g_whole := PySem.W.mg_of X G a6,
    f_many_piles := f7,
    fd_many_piles := _,
    F_many_piles := F7,
    b_many_piles := F7.binds (ps := ["bag"]) fun _ _ _ _ _ _ us hl => match us, hl with | [_], _ => rfl,
    g_many_piles := PySem.W.mg_of X G a7,
    f_piles := f8,
    fd_piles := _,
    F_piles := F8,
    b_piles := F8.binds (ps := ["bag"]) fun _ _ _ _ _ _ us hl => match us, hl with | [_], _ => rfl,
    g_piles := PySem.W.mg_of X G a8,
    f_alike := f9,
    fd_alike := _,
    F_alike := F9,
    b_alike := F9.binds (ps := ["one", "other"]) fun _ _ _ _ _ _ us hl => match us, hl with | [_, _], _ => rfl,
    g_alike := PySem.W.mg_of X G a9,
    f_lspots := f10,
    fd_lspots := _,
    F_lspots := F10,
    b_lspots := F10.binds (ps := ["piles"]) fun _ _ _ _ _ _ us hl => match us, hl with | [_], _ => rfl,
    g_lspots := PySem.W.mg_of X G a10,
    f_law := fa,
    fd_law := _,
    F_law := F11,
    b_law := F11.binds (ps := ["script"]) fun _ _ _ _ _ _ us hl => match us, hl with | [_], _ => rfl,
    g_law := PySem.W.mg_of X G a11,
    n_bool := PySem.W.mg_none_of X G z_bool,
    n_int := PySem.W.mg_none_of X G z_int,
    n_isinstance := PySem.W.mg_none_of X G z_isinstance,
    n_len := PySem.W.mg_none_of X G z_len,
    n_list := PySem.W.mg_none_of X G z_list,
    n_max := PySem.W.mg_none_of X G z_max,
    n_min := PySem.W.mg_none_of X G z_min,
    n_range := PySem.W.mg_none_of X G z_range,
    n_sorted := PySem.W.mg_none_of X G z_sorted }
  exact ⟨PySem.W.fnOf "law" "law" (defArgs s_law) (defBody s_law) (defScope s_law) .none kV11 dc11 pm11 an11 cd11 ct11, fun s v => .of_eq rfl, fun base _ _ => ok_law T⟩
end K09
open PySem PySem.W PyProof.Rows
set_option maxHeartbeats 0 in
theorem PySem.Challenge.cw_manygoings_k09_spots_holds : PySem.Challenge.rw_manygoings_k09_spots.Holds := by
  w_on; o_law; k_head; (case hw => w_witness2)
  k_fill
  refine L2.walk_of (l := PySem.Challenge.rw_manygoings_k09_spots) (n := 63) (k := 5) (x := "script") (CX := fun _ => L2.CX0) (sp := fun w => K09.spLaw _) rfl (by decide) rfl ⟨rfl, by decide, by decide⟩ (fun w h Y => PySem.W.kIn_of Y) ?F (fun _ _ a ns hl _ hS => ⟨a, ns, rfl, hS, hl, fun _ => rfl⟩) (fun _ _ _ _ _ h => h)
  case F =>
    intro w mg fa h KX G hmg
    refine' K09.all_mk KX G hmg ?a0 ?l0 ?c0 ?k0 ?a1 ?l1 ?c1 ?k1 ?a2 ?l2 ?c2 ?k2 ?a3 ?l3 ?c3 ?k3 ?a4 ?l4 ?c4 ?k4 ?a5 ?l5 ?c5 ?k5 ?a6 ?l6 ?c6 ?k6 ?a7 ?l7 ?c7 ?k7 ?a8 ?l8 ?c8 ?k8 ?a9 ?l9 ?c9 ?k9 ?a10 ?l10 ?c10 ?k10 ?a11 ?l11 ?c11 ?k11 ?z_bool ?z_int ?z_isinstance ?z_len ?z_list ?z_max ?z_min ?z_range ?z_sorted
    (case a0 => k_is); (case l0 => k_is); (case c0 => k_is); (case k0 => k_is); (case a1 => k_is); (case l1 => k_is); (case c1 => k_is); (case k1 => k_is); (case a2 => k_is); (case l2 => k_is); (case c2 => k_is); (case k2 => k_is); (case a3 => k_is); (case l3 => k_is); (case c3 => k_is); (case k3 => k_is); (case a4 => k_is); (case l4 => k_is); (case c4 => k_is); (case k4 => k_is); (case a5 => k_is); (case l5 => k_is); (case c5 => k_is); (case k5 => k_is); (case a6 => k_is); (case l6 => k_is); (case c6 => k_is); (case k6 => k_is); (case a7 => k_is); (case l7 => k_is); (case c7 => k_is); (case k7 => k_is); (case a8 => k_is); (case l8 => k_is); (case c8 => k_is); (case k8 => k_is); (case a9 => k_is); (case l9 => k_is); (case c9 => k_is); (case k9 => k_is); (case a10 => k_is); (case l10 => k_is); (case c10 => k_is); (case k10 => k_is); (case a11 => k_is); (case l11 => k_is); (case c11 => k_is); (case k11 => k_is); (case z_bool => k_is); (case z_int => k_is); (case z_isinstance => k_is); (case z_len => k_is); (case z_list => k_is); (case z_max => k_is); (case z_min => k_is); (case z_range => k_is); (case z_sorted => k_is)

