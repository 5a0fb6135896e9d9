import PyProof.Rows.All
import Wide.All
import OpenK.AllK
import Wide.FinOn
import HandS.ForMost
import HandS.IsInst
import HandS.Wide
import HandS.More
import HandS.Codes
import HandS.Deep
import HandS.Conv
import PySem.Challenge.RW_manygoings_k02_things_of_lists
set_option Elab.async false
set_option linter.all false
set_option maxRecDepth 100000
set_option maxHeartbeats 4000000
/-! Steps over the readings of the hand layer: one lemma a form, and a walk by them. -/
namespace Wp
open PySem PySem.Spec PyProof.Rows L2
section
variable {σ : L2.St} {H : Hp} {Q : VK} {D : Ends} {te ta tb tc : TE} {t u v : TS} {c c2 : TT} {x y z : V} {i : Nat} {K : PySem.W.Frag}
theorem seq (h : t { D with nx := u D } σ H) : tSeq t u D σ H := h
theorem nx_mk {n : L2.St → Hp → Prop} {r : VK} {b k : L2.St → Hp → Prop} (h : n σ H) : (Ends.mk n r b k).nx σ H := h
theorem rt_mk {n : L2.St → Hp → Prop} {r : VK} {b k : L2.St → Hp → Prop} (h : r x H) : (Ends.mk n r b k).rt x H := h
theorem bk_mk {n : L2.St → Hp → Prop} {r : VK} {b k : L2.St → Hp → Prop} (h : b σ H) : (Ends.mk n r b k).bk σ H := h
theorem ct_mk {n : L2.St → Hp → Prop} {r : VK} {b k : L2.St → Hp → Prop} (h : k σ H) : (Ends.mk n r b k).ct σ H := h
theorem next (h : D.nx σ H) : tNext D σ H := h
theorem asg {g : TG} (h : te σ H fun x H1 => g x σ H1 D.nx) : tAsg te g D σ H := h
theorem gname {R : L2.St → Hp → Prop} {σ' : L2.St} (e : σ.set i (some x) = σ') (h : R σ' H) : gName i x σ H R := by subst e; exact h
theorem gsub {s : TSet} {R : L2.St → Hp → Prop} (h : ta σ H fun o H1 => tb σ H1 fun i H2 => s o i x H2 fun H3 => R σ H3) : gSub ta tb s x σ H R := h
theorem ret (h : te σ H D.rt) : tRet te D σ H := h
theorem retN (h : D.rt .non H) : tRetN D σ H := h
theorem drop (h : te σ H fun _ H1 => D.nx σ H1) : tDrop te D σ H := h
theorem ifs (h : c σ H fun b H1 => if b = true then t D σ H1 else u D σ H1) : tIfS c t u D σ H := h
theorem var (h : σ[i]? = some (some x)) (q : Q x H) : tVar i σ H Q := ⟨x, h, q⟩
theorem con (q : Q x H) : tC x σ H Q := q
theorem op {r : R2} (h : ta σ H fun x H1 => tb σ H1 fun y H2 => r x y H2 Q) : tOp r ta tb σ H Q := h
theorem un {r : V → Hp → VK → Prop} (h : ta σ H fun x H1 => r x H1 Q) : tUn r ta σ H Q := h
theorem cb {r : List V → Hp → VK → Prop} {t : TA} (h : t σ H fun vs H1 => r vs H1 Q) : tCB r t σ H Q := h
theorem anil {R : List V → Hp → Prop} (h : R [] H) : tNil σ H R := h
theorem acons {tr : TA} {R : List V → Hp → Prop} (h : te σ H fun x H1 => tr σ H1 fun xs H2 => R (x :: xs) H2) : tCons te tr σ H R := h
theorem call {sp : Sp} {dvs : List V} {E : XK} {t : TA} (h : t σ H fun vs H1 => sp (vs ++ dvs) H1 Q E) : tCall sp dvs E t σ H Q := h
theorem lst {t : TA} (h : t σ H fun xs H1 => xs.length ≤ sizeLine ∧ ∀ p, H1 p = none → Q (.ref p) (upd H1 p (.lst xs))) : tLst t σ H Q := h
theorem tup {t : TA} (h : t σ H fun xs H1 => xs.length ≤ sizeLine ∧ ∀ p, H1 p = none → Q (.ref p) (upd H1 p (.tup xs))) : tTup t σ H Q := h
theorem test {R : Bool → Hp → Prop} (h : te σ H fun x H1 => ∃ k, x = .bl k ∧ R k H1) : tTest te σ H R := h
theorem tb_ {R : Bool → Hp → Prop} (h : te σ H fun x H1 => ∃ k, x = .bl k ∧ R k H1) : tB te σ H R := h
theorem and_ {R : Bool → Hp → Prop} (h : c σ H fun b H1 => if b = true then c2 σ H1 R else R false H1) : tAnd c c2 σ H R := h
theorem or_ {R : Bool → Hp → Prop} (h : c σ H fun b H1 => if b = true then R true H1 else c2 σ H1 R) : tOr c c2 σ H R := h
theorem not_ {R : Bool → Hp → Prop} (h : c σ H fun b H1 => R (!b) H1) : tNot c σ H R := h
theorem andV (h : ta σ H fun x H1 => ∃ c, x = .bl c ∧ if c = true then tb σ H1 Q else Q (.bl false) H1) : tAndV ta tb σ H Q := h
theorem orV (h : ta σ H fun x H1 => ∃ c, x = .bl c ∧ if c = true then Q (.bl true) H1 else tb σ H1 Q) : tOrV ta tb σ H Q := h
theorem notV (h : ta σ H fun x H1 => ∃ c, x = .bl c ∧ Q (.bl (!c)) H1) : tNotV ta σ H Q := h
theorem rI0_ {g : Int → Int → V} {a b : Int} (q : Q (g a b) H) : rI0 g (.int a) (.int b) H Q := ⟨a, b, rfl, rfl, q⟩
theorem rI_ {C : Int → Int → Prop} {g : Int → Int → V} {a b : Int} (k : C a b) (q : Q (g a b) H) : rI C g (.int a) (.int b) H Q := ⟨a, b, rfl, rfl, k, q⟩
theorem rU_ {g : Int → V} {a : Int} (q : Q (g a) H) : rU g (.int a) H Q := ⟨a, rfl, q⟩
theorem rEq_ {x y : V} (k : scal x y = true) (q : Q (.bl (decide (x = y))) H) : rEq x y H Q := ⟨k, q⟩
theorem rNe_ {x y : V} (k : scal x y = true) (q : Q (.bl (!decide (x = y))) H) : rNe x y H Q := ⟨k, q⟩
theorem ixL {p : Addr} {xs : List V} {j : Int} (h : SqL K H p xs) (e : atI xs j = some x) (q : Q x H) : rIxL K (.ref p) (.int j) H Q := ⟨p, xs, j, x, rfl, rfl, h, e, q⟩
theorem ixT {p : Addr} {xs : List V} {j : Int} (h : SqT K H p xs) (e : atI xs j = some x) (q : Q x H) : rIxT K (.ref p) (.int j) H Q := ⟨p, xs, j, x, rfl, rfl, h, e, q⟩
theorem setL {p : Addr} {xs : List V} {j : Int} {n : Nat} {R : Hp → Prop} (h : H p = some (.lst xs)) (e : ixN xs.length j = some n) (q : R (upd H p (.lst (xs.set n x)))) : rSetL (.ref p) (.int j) x H R := ⟨p, xs, j, n, rfl, rfl, h, e, q⟩
/-- a test's two ways -/
theorem ite_ {p A B : Prop} [Decidable p] (h1 : p → A) (h2 : ¬ p → B) : if decide p = true then A else B := by
  by_cases h : p
  · rw [if_pos (decide_eq_true h)]; exact h1 h
  · rw [if_neg (by rw [decide_eq_false h]; exact Bool.false_ne_true)]; exact h2 h
theorem iteN {p A B : Prop} [Decidable p] (h1 : ¬ p → A) (h2 : p → B) : if (!decide p) = true then A else B := by
  by_cases h : p
  · rw [decide_eq_true h]; exact iteF (h2 h)
  · rw [decide_eq_false h]; exact iteT (h1 h)
theorem iteB {b : Bool} {A B : Prop} (h1 : b = true → A) (h2 : b = false → B) : if b = true then A else B := by
  cases b with
  | true => exact iteT (h1 rfl)
  | false => exact iteF (h2 rfl)
end
/-! ### the walk -/
/-- all but the object at b is kept -/
def Kp (b : Addr) (H H' : Hp) : Prop := ∀ a o, a ≠ b → H a = some o → H' a = some o
theorem Kp.refl (b : Addr) (H : Hp) : Kp b H H := fun _ _ _ h => h
theorem Kp.trans {b : Addr} {H H1 H2 : Hp} (x : Kp b H H1) (y : Kp b H1 H2) : Kp b H H2 := fun a o n h => y a o n (x a o n h)
theorem Kp.new {b p : Addr} {H : Hp} {o : HO} (h : H p = none) : Kp b H (upd H p o) := fun a u _ e => by rw [upd_ne (ne_of_none e h)]; exact e
theorem Kp.at {b : Addr} {H : Hp} {o : HO} : Kp b H (upd H b o) := fun a u n e => by rw [upd_ne n]; exact e
section
variable {σ : L2.St} {H H1 H2 : Hp} {Q : VK} {D : Ends} {te ta tb tc : TE} {t u v : TS} {c c2 : TT} {x y z : V} {i : Nat} {K : PySem.W.Frag} {a b p : Addr} {xs ys : List V}
theorem gtup {tt : TGs} {R : L2.St → Hp → Prop} {n : Nat} (h : SqT K H a xs) (e : xs.length = n) (q : tt xs σ H R) : gTup K n tt (.ref a) σ H R := ⟨a, xs, rfl, h, e, q⟩
theorem gcons {g : TG} {tt : TGs} {R : L2.St → Hp → Prop} {r : List V} (q : g x σ H fun σ' H' => tt r σ' H' R) : gCons g tt (x :: r) σ H R := ⟨x, r, rfl, q⟩
theorem gnil {R : L2.St → Hp → Prop} (q : R σ H) : gNil [] σ H R := ⟨rfl, q⟩
theorem sl {r : V → Option Int → Option Int → Hp → VK → Prop} {tl th : TO} (h : te σ H fun x H1 => tl σ H1 fun l H2 => th σ H2 fun u H3 => r x l u H3 Q) : tSl r te tl th σ H Q := h
theorem part {R : Option Int → Hp → Prop} (h : te σ H fun x H1 => ∃ i, x = .int i ∧ R (some i) H1) : tPart te σ H R := h
theorem nopart {R : Option Int → Hp → Prop} (h : R none H) : tNoPart σ H R := h
theorem slS {zs : Str} {lo hi : Option Int} (h : zs.length ≤ sizeLine) (q : Q (.str (cutS zs lo hi)) H) : rSlS (.str zs) lo hi H Q := ⟨zs, rfl, h, q⟩
theorem ifE (h : c σ H fun b H1 => if b = true then ta σ H1 Q else tb σ H1 Q) : tIf c ta tb σ H Q := h
theorem bm0 {T : String} {r : V → List V → Hp → VK → Prop} (h : te σ H fun x H1 => tyV K T x H1 ∧ r x [] H1 Q) : tBM0 K T r te σ H Q := h
theorem bm {T : String} {r : V → List V → Hp → VK → Prop} {tt : TA} (h : te σ H fun x H1 => tyV K T x H1 ∧ tt σ H1 fun xs H2 => r x xs H2 Q) : tBM K T r te tt σ H Q := h
theorem lcat {t u : List V} {R : Addr → Hp → Prop} (h : ∀ p, H p = none → R p (upd H p (.lst (t ++ u)))) : ∀ p, H p = none → R p (upd H p (.lst (t ++ u))) := h
theorem iteT' {A B : Prop} (h : A) : if (!false) = true then A else B := iteT h
theorem iteF' {A B : Prop} (h : B) : if (!true) = true then A else B := iteF h
theorem iteBt {b : Bool} {A B : Prop} (h : b = true) (q : A) : if b = true then A else B := by rw [h]; exact iteT q
theorem iteBf {b : Bool} {A B : Prop} (h : b = false) (q : B) : if b = true then A else B := by rw [h]; exact iteF q
theorem cutS_len (z : Str) (lo hi : Option Int) : (cutS z lo hi).length ≤ z.length := by
  show ((z.cps.toList.drop (HT.sIx z.length 0 lo)).take (HT.sIx z.length z.length hi - HT.sIx z.length 0 lo)).toArray.size ≤ z.cps.size
  rw [List.size_toArray, List.length_take, List.length_drop, Array.length_toList]
  omega
theorem app_len (x y : Str) : (x ++ y).length = x.length + y.length := by
  show (x.cps ++ y.cps).size = x.cps.size + y.cps.size
  exact Array.size_append
theorem str1_len (c : Nat) : (⟨#[c]⟩ : Str).length = 1 := rfl
theorem iteBnT {b : Bool} {A B : Prop} (h : b = false) (q : A) : if (!b) = true then A else B := by rw [h]; exact iteT q
theorem iteBnF {b : Bool} {A B : Prop} (h : b = true) (q : B) : if (!b) = true then A else B := by rw [h]; exact iteF q
theorem pcons {tk tv : TE} {r : List (TE × TE)} {R : List (V × V) → Hp → Prop} (h : tk σ H fun x H1 => tv σ H1 fun y H2 => tPairs r σ H2 fun ps H3 => R ((x, y) :: ps) H3) : tPairs ((tk, tv) :: r) σ H R := h
theorem pnil {R : List (V × V) → Hp → Prop} (h : R [] H) : tPairs [] σ H R := h
/-! ### a written dict with text keys -/
def keysAre : List DictEntry → List (Str × V) → Prop
  | [], [] => True
  | e :: r, (k, v) :: s => (∃ t, e.key = .str k t) ∧ RelV v e.val ∧ keysAre r s
  | _, _ => False
def seek (z : Str) : List (Str × V) → Option V
  | [] => none
  | (k, v) :: s => if k = z then some v else seek z s
theorem keys_find {z : Str} : ∀ {l : List DictEntry} {ks : List (Str × V)}, keysAre l ks →
    (l.any (·.refKey) = false) ∧ ((∃ v e, seek z ks = some v ∧ l.find? (·.key.isStr z) = some e ∧ RelV v e.val) ∨ (seek z ks = none ∧ l.find? (·.key.isStr z) = none))
  | [], [], _ => ⟨rfl, .inr ⟨rfl, rfl⟩⟩
  | [], _ :: _, h => h.elim
  | _ :: _, [], h => h.elim
  | e :: r, (k, v) :: s, ⟨⟨t, hk⟩, hv, h⟩ => by
    obtain ⟨h1, h2⟩ := keys_find (z := z) h
    refine ⟨?_, ?_⟩
    · rw [List.any_cons, h1, Bool.or_false]
      show DictEntry.refKey e = false
      unfold DictEntry.refKey
      rw [hk] <;> rfl
    · rw [List.find?_cons]
      have e1 : (e.key.isStr z) = decide (k = z) := by
        rw [hk, PySem.W.isStr_of]
        show (k == z) = decide (k = z)
        exact Bool.beq_eq_decide_eq k z
      show (∃ v' e', (if k = z then some v else seek z s) = some v' ∧ _) ∨ ((if k = z then some v else seek z s) = none ∧ _)
      by_cases c : k = z
      · rw [if_pos c, e1, decide_eq_true c]
        exact .inl ⟨v, e, rfl, rfl, hv⟩
      · rw [if_neg c, e1, decide_eq_false c]
        exact h2
theorem ns_seek {d : Addr} {es : Array DictEntry} {n : Nat} {ks : List (Str × V)} (hl : K.lookup d = some ⟨.type "dict", none, .dict es n, #[]⟩) (hk : keysAre es.toList ks) (z : Str) :
    (∃ v u, seek z ks = some v ∧ PySem.W.nsIn K d z = some (some u) ∧ RelV v u) ∨ (seek z ks = none ∧ PySem.W.nsIn K d z = some none) := by
  obtain ⟨h1, h2⟩ := keys_find (z := z) hk
  unfold PySem.W.nsIn
  rw [hl]
  dsimp only
  rcases h2 with ⟨v, e, e1, e2, r⟩ | ⟨e1, e2⟩
  · rw [e2]
    exact .inl ⟨v, e.val, e1, rfl, r⟩
  · rw [e2]
    dsimp only
    rw [h1]
    exact .inr ⟨e1, rfl⟩
theorem ixS_any {zs : Str} {j : Int} (hz : zs.length ≤ sizeLine) (h0 : 0 ≤ j) (h1 : j < zs.length) (q : ∀ c, Q (.str ⟨#[c]⟩) H) : rIxS (.str zs) (.int j) H Q := by
  have h2 : j.toNat < zs.cps.toList.length := by
    rw [Array.length_toList]
    show j.toNat < zs.length
    omega
  obtain ⟨c, hc⟩ : ∃ c, zs.cps.toList[j.toNat]? = some c := ⟨_, List.getElem?_eq_getElem h2⟩
  have e : ((j.toNat : Nat) : Int) = j := by omega
  have hc2 := atI_nat hc
  rw [e] at hc2
  exact ⟨zs, j, c, rfl, rfl, hz, hc2, q c⟩
theorem tyvL {p : Addr} {xs : List V} (h : H p = some (.lst xs)) : tyV K "list" (.ref p) H := .inl ⟨rfl, _, SqL.of h⟩
theorem app_ {p : Addr} {xs : List V} {y : V} (h : H p = some (.lst xs)) (hl : xs.length < sizeLine) (q : Q .non (upd H p (.lst (xs ++ [y])))) : rAppend (.ref p) [y] H Q := ⟨p, xs, y, rfl, rfl, h, hl, q⟩
theorem rev_ {p : Addr} {xs : List V} (h : H p = some (.lst xs)) (q : Q .non (upd H p (.lst xs.reverse))) : rReverse (.ref p) [] H Q := ⟨p, xs, rfl, rfl, h, q⟩
theorem slL {p : Addr} {xs : List V} {lo hi : Option Int} (h : SqL K H p xs) (q : ∀ p, H p = none → Q (.ref p) (upd H p (.lst (cutV xs lo hi)))) : rSlL K (.ref p) lo hi H Q := ⟨p, xs, rfl, h, q⟩
theorem cat_ {l b : Addr} {xs zs : List V} (h : H l = some (.lst xs)) (h2 : H b = some (.lst zs)) (hl : xs.length + zs.length ≤ sizeLine) (q : ∀ p, H p = none → Q (.ref p) (upd H p (.lst (xs ++ zs)))) : rCat (.ref l) (.ref b) H Q :=
  ⟨l, b, xs, zs, rfl, rfl, h, h2, hl, q⟩
theorem un65 {k : Nat} {A : Around} (r : Room k A) : A.units + 65 < cLine := by have := r.un; omega
theorem eqD {x y : V} {d : PyData} (h1 : Dp K H x d) (h2 : Dp K H y d) (s : SeqAt.shaped d = true) (e : PyData.eqv d d = true) (q : Q (.bl true) H) : rEqD K x y H Q := ⟨d, d, h1, h2, s, s, by rw [e]; exact q⟩
theorem neD {x y : V} {d : PyData} (h1 : Dp K H x d) (h2 : Dp K H y d) (s : SeqAt.shaped d = true) (e : PyData.eqv d d = true) (q : Q (.bl false) H) : rNeD K x y H Q := ⟨d, d, h1, h2, s, s, by rw [e]; exact q⟩
theorem cut_take {xs : List V} {n : Nat} : cutV xs none (some (n : Int)) = xs.take n := by
  unfold cutV
  rw [show HT.sIx xs.length 0 none = 0 from HT.sIx_none .., show HT.sIx xs.length xs.length (some (n : Int)) = min n xs.length from HT.sIx_nat ..]
  show (xs.drop 0).take (min n xs.length - 0) = xs.take n
  rw [List.drop_zero, Nat.sub_zero]
  by_cases h : n ≤ xs.length
  · rw [Nat.min_eq_left h]
  · rw [Nat.min_eq_right (by omega), List.take_of_length_le (Nat.le_refl _), List.take_of_length_le (by omega)]
theorem dput {td tk tv : TE} (h : tv σ H fun v H1 => td σ H1 fun x H2 => tk σ H2 fun y H3 => ∃ a H', x = .ref a ∧ DPut H3 a y v H' ∧ D.nx σ H') : sDPut td tk tv D σ H := h
theorem cut (Mid : L2.St → Hp → Prop) (h1 : t { D with nx := Mid } σ H) (h2 : ∀ σ' H', Mid σ' H' → u D σ' H') : C8.tCut t u D σ H := ⟨Mid, h1, h2⟩
theorem len_take {xs : List V} {n m : Nat} (h : n ≤ m) : (xs.take n).length ≤ m := Nat.le_trans (List.length_take_le _ _) h
/-! ### loops -/
/-- the loop over J -/
def Loop (J : It) (g : TG) (tb : TS) (D : Ends) (σ : L2.St) (H : Hp) : Prop := ∃ W : Nat → Nat → L2.St → Hp → Prop, (∃ m, W 0 m σ H) ∧ ∀ i m σ H, W i m σ H →
  (J.stop i H ∧ D.nx σ H) ∨ (J.go i H ∧ ∃ N : L2.St → Hp → Prop, (∀ σ' H', N σ' H' → ∃ m', m' < m ∧ W (i + 1) m' σ' H') ∧ ∀ x H', J.yld i H x H' → g x σ H' fun σ2 H2 => tb { D with nx := N, ct := N, bk := D.nx } σ2 H2)
theorem forR1 {ta : TA} {g : TG} {tb : TS} (h : ta σ H fun vs H1 => ∃ j : Int, vs = [.int j] ∧ -(2 ^ 62) ≤ j ∧ j < 2 ^ 62 ∧ Loop (Itr 0 j.toNat) g tb D σ H1) : tFor (iRng1 ta) g tb D σ H := h
theorem forR2 {ta : TA} {g : TG} {tb : TS} (h : ta σ H fun vs H1 => ∃ i j : Int, vs = [.int i, .int j] ∧ (-(2 ^ 62) ≤ i ∧ i < 2 ^ 62 ∧ -(2 ^ 62) ≤ j ∧ j < 2 ^ 62) ∧ Loop (Itr i (j - i).toNat) g tb D σ H1) : tFor (iRng2 ta) g tb D σ H := h
theorem forL {g : TG} {tb : TS} (h : te σ H fun x H1 => ∃ a, x = .ref a ∧ (∃ xs, SqL K H1 a xs) ∧ Loop (Itl K a) g tb D σ H1) : tFor (iList K te) g tb D σ H := h
theorem forT {g : TG} {tb : TS} (h : te σ H fun x H1 => ∃ a, x = .ref a ∧ (∃ xs, SqT K H1 a xs) ∧ Loop (Itt K a) g tb D σ H1) : tFor (iTup K te) g tb D σ H := h
theorem loopR {lo : Int} {n : Nat} {g : TG} {tb : TS} (Pv : Nat → L2.St → Hp → Prop) (h0 : Pv 0 σ H)
    (hs : ∀ i σ H, i < n → Pv i σ H → g (.int (lo + i)) σ H fun σ2 H2 => tb { D with nx := Pv (i + 1), ct := Pv (i + 1), bk := D.nx } σ2 H2) (hd : ∀ σ H, Pv n σ H → D.nx σ H) : Loop (Itr lo n) g tb D σ H := for_range Pv h0 hs hd
theorem loopL {g : TG} {tb : TS} {xs : List V} (Pv : Nat → L2.St → Hp → Prop) (h0 : Pv 0 σ H) (hl : ∀ i σ H, i ≤ xs.length → Pv i σ H → SqL K H a xs)
    (hs : ∀ i x σ H, xs[i]? = some x → Pv i σ H → g x σ H fun σ2 H2 => tb { D with nx := Pv (i + 1), ct := Pv (i + 1), bk := D.nx } σ2 H2) (hd : ∀ σ H, Pv xs.length σ H → D.nx σ H) : Loop (Itl K a) g tb D σ H := for_list Pv h0 hl hs hd
/-! ### kinds -/
/-- a value's built-in type, of what is known of it -/
inductive Kind (H : Hp) : V → String → Prop where
  | non : Kind H .non "NoneType"
  | bl (b : Bool) : Kind H (.bl b) "bool"
  | int (i : Int) : Kind H (.int i) "int"
  | str (x : Str) : Kind H (.str x) "str"
  | lst {a : Addr} {xs : List V} (h : H a = some (.lst xs)) : Kind H (.ref a) "list"
  | tup {a : Addr} {xs : List V} (h : H a = some (.tup xs)) : Kind H (.ref a) "tuple"
  | dK {a : Addr} {kvs : List (Key × V)} (h : H a = some (.dK kvs)) : Kind H (.ref a) "dict"
theorem Kind.tyB {T : String} (k : Kind H x T) : TyB K H x T := by
  cases k with
  | non => exact .non
  | bl b => exact .bl b
  | int i => exact .int i
  | str s => exact .str s
  | lst h => exact .lst (SqL.of h)
  | tup h => exact .tup (SqT.of h)
  | dK h => exact .dK h
theorem Kind.tyX {T : String} (k : Kind H x T) : TyX K H x (.type T) := by
  cases k with
  | non => exact .base .non
  | bl b => exact .base (.bl b)
  | int i => exact .base (.int i)
  | str s => exact .base (.str s)
  | lst h => exact .base (.lst h)
  | tup h => exact .base (.tup h)
  | dK h => exact .base (.dK h)
def isB (T C : String) : Bool := decide (T = C) || (decide (T = "bool") && decide (C = "int"))
theorem isB_eq {T C : String} (h : C ≠ "int") : isB T C = decide (T = C) := by
  unfold isB
  rw [decide_eq_false h, Bool.and_false, Bool.or_false]
theorem Kind.kit {T : String} (k : Kind H x T) {C : String} (hC : C = "int" ∨ C = "bool" ∨ C = "str" ∨ C = "tuple" ∨ C = "list") : PySem.W.kitOne K (.type T) (.type C) = some (isB T C) := by
  rcases hC with rfl | rfl | rfl | rfl | rfl <;> cases k <;> exact kit_ty (by decide +kernel)
theorem isi {T C : String} (k : Kind H x T) (hC : C = "int" ∨ C = "bool" ∨ C = "str" ∨ C = "tuple" ∨ C = "list") (q : Q (.bl (isB T C)) H) : rIsi K [x, .ty C] H Q :=
  ⟨x, .ty C, _, _, _, rfl, .ty C, k.tyX, k.kit hC, q⟩
theorem typ {T : String} (k : Kind H x T) (q : Q (.ty T) H) : rTyp K [x] H Q := ⟨x, T, rfl, k.tyB, q⟩
theorem rNT_ {s1 s2 : String} (q : Q (.bl (!decide (s1 = s2))) H) : rNT (.ty s1) (.ty s2) H Q := ⟨s1, s2, rfl, rfl, q⟩
/-! ### heaps -/
theorem Kp.same (h : H b = none) (k : Kp b H H1) : Same H H1 := fun a o e => k a o (ne_of_none e h) e
theorem Same.kp (k : Same H H1) : Kp b H H1 := fun a o _ e => k a o e
theorem same_new {o : HO} (h : H p = none) : Same H (upd H p o) := fun a u e => by rw [upd_ne (ne_of_none e h)]; exact e
theorem Kp.kind {T : String} {bs : List V} (k : Kp b H H1) (hb : H b = some (.lst bs)) (q : Kind H x T) (n : x ≠ .ref b) : Kind H1 x T := by
  cases q with
  | non => exact .non
  | bl b => exact .bl b
  | int i => exact .int i
  | str s => exact .str s
  | lst h => exact .lst (k _ _ (fun e => n (by rw [e])) h)
  | tup h => exact .tup (k _ _ (fun e => n (by rw [e])) h)
  | dK h => exact .dK (k _ _ (fun e => n (by rw [e])) h)
theorem Same.kind {T : String} (k : Same H H1) (q : Kind H x T) : Kind H1 x T := by
  cases q with
  | non => exact .non
  | bl b => exact .bl b
  | int i => exact .int i
  | str s => exact .str s
  | lst h => exact .lst (k _ _ h)
  | tup h => exact .tup (k _ _ h)
  | dK h => exact .dK (k _ _ h)
theorem atI_of {α : Type} {xs : List α} {x : α} {j : Int} {n : Nat} (e : j = n) (h : xs[n]? = some x) : atI xs j = some x := by rw [e]; exact atI_nat h
end
end Wp

/-! Worths and piles as data: (text, int), lists of such; what is kept of them. -/
namespace Wq
open PySem PySem.Spec PyProof.Rows L2 Wp
abbrev W := Str × Int
def wD (w : W) : PyData := .tuple [.str w.1, .int w.2]
def IsW (H : Hp) (v : V) (w : W) : Prop := ∃ t, v = .ref t ∧ H t = some (.tup [.str w.1, .int w.2])
def Pile (H : Hp) (vs : List V) (ws : List W) : Prop := Paired (IsW H) vs ws
/-- the tuples stay -/
def Tk (H H' : Hp) : Prop := ∀ t xs, H t = some (.tup xs) → H' t = some (.tup xs)
section
variable {H H1 H2 : Hp} {a b p : Addr} {v x y : V} {w : W} {vs us : List V} {ws zs : List W} {K : PySem.W.Frag}
theorem Tk.refl : Tk H H := fun _ _ h => h
theorem Tk.trans (h : Tk H H1) (k : Tk H1 H2) : Tk H H2 := fun t xs e => k t xs (h t xs e)
theorem Same.tk (s : Same H H1) : Tk H H1 := fun t xs e => s t _ e
theorem Kp.tk {bs : List V} (k : Kp b H H1) (h : H b = some (.lst bs)) : Tk H H1 := fun t xs e => k t _ (ne_of e h (by intro q; cases q)) e
theorem Tk.lst {o : HO} {bs : List V} (h : H b = some (.lst bs)) : Tk H (upd H b o) := fun t xs e => by rw [upd_ne (ne_of e h (by intro q; cases q))]; exact e
theorem Tk.dT {o : HO} {bs : List (List Key × V)} (h : H b = some (.dT bs)) : Tk H (upd H b o) := fun t xs e => by rw [upd_ne (ne_of e h (by intro q; cases q))]; exact e
theorem Tk.dK {o : HO} {bs : List (Key × V)} (h : H b = some (.dK bs)) : Tk H (upd H b o) := fun t xs e => by rw [upd_ne (ne_of e h (by intro q; cases q))]; exact e
theorem Tk.new {o : HO} (h : H p = none) : Tk H (upd H p o) := fun t xs e => by rw [upd_ne (ne_of_none e h)]; exact e
theorem IsW.keep (h : IsW H v w) (k : Tk H H1) : IsW H1 v w := by
  obtain ⟨t, e, h⟩ := h
  exact ⟨t, e, k _ _ h⟩
theorem Pile.keep (h : Pile H vs ws) (k : Tk H H1) : Pile H1 vs ws := Paired.mapP h fun _ _ q => q.keep k
theorem Pile.len (h : Pile H vs ws) : vs.length = ws.length := Paired.length h
theorem Pile.nil : Pile H [] [] := Paired.nil
theorem Pile.app (h : Pile H vs ws) (k : Pile H us zs) : Pile H (vs ++ us) (ws ++ zs) := by
  unfold Pile at *
  induction h with
  | nil => exact k
  | cons r t ih => exact .cons r ih
theorem Pile.one (h : IsW H v w) : Pile H [v] [w] := Paired.cons h Paired.nil
theorem Pile.take (h : Pile H vs ws) : ∀ n, Pile H (vs.take n) (ws.take n) := by
  unfold Pile at *
  induction h with
  | nil => intro n; cases n <;> exact .nil
  | cons r t ih => intro n; cases n with
    | zero => exact .nil
    | succ n => exact .cons r (ih n)
theorem Pile.drop (h : Pile H vs ws) : ∀ n, Pile H (vs.drop n) (ws.drop n) := by
  unfold Pile at *
  induction h with
  | nil => intro n; cases n <;> exact .nil
  | cons r t ih => intro n; cases n with
    | zero => exact .cons r t
    | succ n => exact ih n
theorem Pile.rev (h : Pile H vs ws) : Pile H vs.reverse ws.reverse := by
  unfold Pile at *
  induction h with
  | nil => exact .nil
  | cons r t ih =>
    rw [List.reverse_cons, List.reverse_cons]
    exact Pile.app ih (Pile.one r)
theorem Pile.get (h : Pile H vs ws) : ∀ {i : Nat}, vs[i]? = some v → ∃ w, ws[i]? = some w ∧ IsW H v w := by
  unfold Pile at h
  induction h with
  | nil => intro i e; cases i <;> cases e
  | cons r t ih => intro i e; cases i with
    | zero => cases e; exact ⟨_, rfl, r⟩
    | succ n => exact ih e
theorem Pile.at (h : Pile H vs ws) {i : Nat} (hi : i < ws.length) : ∃ v w, vs[i]? = some v ∧ ws[i]? = some w ∧ IsW H v w := by
  have h2 : i < vs.length := by rw [h.len]; exact hi
  obtain ⟨w, hw, q⟩ := h.get (List.getElem?_eq_getElem h2)
  exact ⟨_, w, List.getElem?_eq_getElem h2, hw, q⟩
/-! ### as data -/
theorem IsW.dp (h : IsW H v w) : Dp K H v (wD w) := by
  obtain ⟨t, rfl, h⟩ := h
  exact .tup (SqT.of h) (.cons (.str _) (.cons (.int _) .nil))
theorem Pile.dpAll (h : Pile H vs ws) : DpAll K H vs (ws.map wD) := by
  unfold Pile at h
  induction h with
  | nil => exact .nil
  | cons r t ih => exact .cons r.dp ih
theorem Pile.dp (h : Pile H vs ws) (e : SqL K H a vs) : Dp K H (.ref a) (.list (ws.map wD)) := .lst e h.dpAll
/-- texts as worths have them -/
def Wok (w : W) : Prop := PyData.strOk w.1 = true
theorem wD_lay (h : Wok w) : (wD w).canLay0 = true := by
  unfold wD
  simp only [PyData.canLay0, PyData.canLayAll0]
  rw [show PyData.strOk w.1 = true from h]
  rfl
theorem wD_depth : (wD w).depth = 1 := by simp [wD, PyData.depth, PyData.depthAll]
theorem wDs_lay : ∀ ws : List W, (∀ w ∈ ws, Wok w) → PyData.canLayAll0 (ws.map wD) = true
  | [], _ => by simp [PyData.canLayAll0]
  | w :: ws, h => by
    rw [List.map_cons]
    simp only [PyData.canLayAll0]
    rw [wD_lay (h w List.mem_cons_self), wDs_lay ws (fun x hx => h x (List.mem_cons_of_mem _ hx))] <;> rfl
theorem wDs_depth : ∀ ws : List W, PyData.depthAll (ws.map wD) ≤ 1
  | [] => by simp [PyData.depthAll]
  | w :: ws => by
    have h := wDs_depth ws
    rw [List.map_cons]
    simp only [PyData.depthAll]
    rw [wD_depth]
    omega
theorem wD_shaped (h : Wok w) : SeqAt.shaped (wD w) = true := by
  unfold SeqAt.shaped
  rw [wD_lay h, wD_depth] <;> rfl
theorem wDs_shaped (h : ∀ w ∈ ws, Wok w) : SeqAt.shaped (.list (ws.map wD)) = true := by
  have h2 := wDs_depth ws
  have h3 : (PyData.list (ws.map wD)).depth ≤ 64 := by
    simp only [PyData.depth]
    omega
  show (PyData.canLay0 (.list (ws.map wD)) && decide ((PyData.list (ws.map wD)).depth ≤ 64)) = true
  rw [decide_eq_true h3, Bool.and_true]
  simp only [PyData.canLay0]
  exact wDs_lay ws h
theorem wD_eqv (w z : W) : PyData.eqv (wD w) (wD z) = decide (w = z) := by
  unfold wD
  simp only [PyData.eqv, PyData.eqvAll, Bool.and_true]
  obtain ⟨s, n⟩ := w
  obtain ⟨t, m⟩ := z
  rw [Bool.beq_eq_decide_eq, Bool.beq_eq_decide_eq]
  by_cases e1 : s = t
  · by_cases e2 : n = m
    · subst e1 e2; simp
    · simp [e1, e2]
  · simp [e1]
theorem any_wD (w : W) : ∀ ws : List W, ((ws.map wD).any fun z => PyData.eqv z (wD w)) = decide (w ∈ ws)
  | [] => rfl
  | z :: ws => by
    rw [List.map_cons, List.any_cons, any_wD w ws, wD_eqv]
    by_cases e : z = w
    · subst e; simp
    · rw [decide_eq_false e, Bool.false_or]
      exact decide_eq_decide.mpr ⟨fun h => List.mem_cons_of_mem _ h, fun h => (List.mem_cons.mp h).elim (fun q => absurd q.symm e) id⟩
theorem eq_self {d : PyData} (h : SeqAt.shaped d = true) : PyData.eqv d d = true := by
  refine PySem.SeqAt.eqv_refl d ?_
  have h2 : (d.canLay0 && decide (d.depth ≤ 64)) = true := h
  rw [Bool.and_eq_true] at h2
  exact h2.1
end
end Wq

namespace K02
open PySem PySem.Spec PyProof.Rows L2 Wp Wq
/-! ### the text by places -/
def topS (i : Nat) : Stmt := PySem.Challenge.pw_manygoings_k02_things_of_lists.main.body.getD i (.Pass ⟨0, 0, 0, 0⟩)
abbrev s_is_thing : Stmt := topS 1
abbrev s_things_of : Stmt := topS 2
abbrev s_cell_at : Stmt := topS 4
abbrev s_bag : Stmt := topS 5
abbrev s_draw : Stmt := topS 6
abbrev s_number : Stmt := topS 7
abbrev s_whole : Stmt := topS 8
abbrev s_same : Stmt := topS 9
abbrev s_same_pile : Stmt := topS 10
abbrev s_worth : Stmt := topS 11
abbrev s_things : Stmt := topS 12
abbrev s_law : Stmt := topS 13
theorem sc_is_thing : FnScope ["worth"] ["worth"] (defScope s_is_thing) := ⟨rfl, rfl, rfl, by decide +kernel, rfl, by decide +kernel, by decide +kernel⟩
theorem sc_things_of : FnScope ["worths", "found", "worth"] ["worths"] (defScope s_things_of) := ⟨rfl, rfl, rfl, by decide +kernel, rfl, by decide +kernel, by decide +kernel⟩
theorem sc_cell_at : FnScope ["script", "k"] ["script", "k"] (defScope s_cell_at) := ⟨rfl, rfl, rfl, by decide +kernel, rfl, by decide +kernel, by decide +kernel⟩
theorem sc_bag : FnScope ["cell", "place"] ["cell", "place"] (defScope s_bag) := ⟨rfl, rfl, rfl, by decide +kernel, rfl, by decide +kernel, by decide +kernel⟩
theorem sc_draw : FnScope ["bag", "many", "found", "mixed"] ["bag", "many"] (defScope s_draw) := ⟨rfl, rfl, rfl, by decide +kernel, rfl, by decide +kernel, by decide +kernel⟩
theorem sc_number : FnScope ["bag", "way", "bound", "found", "k"] ["bag"] (defScope s_number) := ⟨rfl, rfl, rfl, by decide +kernel, rfl, by decide +kernel, by decide +kernel⟩
theorem sc_whole : FnScope ["found"] ["found"] (defScope s_whole) := ⟨rfl, rfl, rfl, by decide +kernel, rfl, by decide +kernel, by decide +kernel⟩
theorem sc_same : FnScope ["found", "due"] ["found", "due"] (defScope s_same) := ⟨rfl, rfl, rfl, by decide +kernel, rfl, by decide +kernel, by decide +kernel⟩
theorem sc_same_pile : FnScope ["found", "due", "k"] ["found", "due"] (defScope s_same_pile) := ⟨rfl, rfl, rfl, by decide +kernel, rfl, by decide +kernel, by decide +kernel⟩
theorem sc_worth : FnScope ["bag", "few", "at", "number"] ["bag", "few"] (defScope s_worth) := ⟨rfl, rfl, rfl, by decide +kernel, rfl, by decide +kernel, by decide +kernel⟩
theorem sc_things : FnScope ["row", "due", "worth"] ["row"] (defScope s_things) := ⟨rfl, rfl, rfl, by decide +kernel, rfl, by decide +kernel, by decide +kernel⟩
theorem sc_law : FnScope ["script", "row", "few", "k", "bag", "j", "due", "handed", "found"] ["script"] (defScope s_law) := ⟨rfl, rfl, rfl, by decide +kernel, rfl, by decide +kernel, by decide +kernel⟩
/-! ### the facts of the top -/
structure Txt (P : Program) (w : World) (K : PySem.W.Frag) (mg : Str → Option Value) where
  f_is_thing : Addr
  fd_is_thing : FuncData
  F_is_thing : Fun K "is_thing" "is_thing" s_is_thing f_is_thing fd_is_thing
  b_is_thing : Binds K fd_is_thing ["worth"] []
  g_is_thing : mg "is_thing" = some (.ref f_is_thing)
  f_things_of : Addr
  fd_things_of : FuncData
  F_things_of : Fun K "things_of" "things_of" s_things_of f_things_of fd_things_of
  b_things_of : Binds K fd_things_of ["worths"] []
  g_things_of : mg "things_of" = some (.ref f_things_of)
  f_cell_at : Addr
  fd_cell_at : FuncData
  F_cell_at : Fun K "_law_cell_at" "_law_cell_at" s_cell_at f_cell_at fd_cell_at
  b_cell_at : Binds K fd_cell_at ["script", "k"] []
  g_cell_at : mg "_law_cell_at" = some (.ref f_cell_at)
  f_bag : Addr
  fd_bag : FuncData
  F_bag : Fun K "_law_bag" "_law_bag" s_bag f_bag fd_bag
  b_bag : Binds K fd_bag ["cell", "place"] []
  g_bag : mg "_law_bag" = some (.ref f_bag)
  f_draw : Addr
  fd_draw : FuncData
  F_draw : Fun K "_law_draw" "_law_draw" s_draw f_draw fd_draw
  b_draw : Binds K fd_draw ["bag", "many"] []
  g_draw : mg "_law_draw" = some (.ref f_draw)
  f_number : Addr
  fd_number : FuncData
  F_number : Fun K "_law_number" "_law_number" s_number f_number fd_number
  b_number : Binds K fd_number ["bag"] []
  g_number : mg "_law_number" = some (.ref f_number)
  f_whole : Addr
  fd_whole : FuncData
  F_whole : Fun K "_law_whole" "_law_whole" s_whole f_whole fd_whole
  b_whole : Binds K fd_whole ["found"] []
  g_whole : mg "_law_whole" = some (.ref f_whole)
  f_same : Addr
  fd_same : FuncData
  F_same : Fun K "_law_same" "_law_same" s_same f_same fd_same
  b_same : Binds K fd_same ["found", "due"] []
  g_same : mg "_law_same" = some (.ref f_same)
  f_same_pile : Addr
  fd_same_pile : FuncData
  F_same_pile : Fun K "_law_same_pile" "_law_same_pile" s_same_pile f_same_pile fd_same_pile
  b_same_pile : Binds K fd_same_pile ["found", "due"] []
  g_same_pile : mg "_law_same_pile" = some (.ref f_same_pile)
  f_worth : Addr
  fd_worth : FuncData
  F_worth : Fun K "_law_worth" "_law_worth" s_worth f_worth fd_worth
  b_worth : Binds K fd_worth ["bag", "few"] []
  g_worth : mg "_law_worth" = some (.ref f_worth)
  f_things : Addr
  fd_things : FuncData
  F_things : Fun K "_law_things" "_law_things" s_things f_things fd_things
  b_things : Binds K fd_things ["row"] []
  g_things : mg "_law_things" = some (.ref f_things)
  f_law : Addr
  fd_law : FuncData
  F_law : Fun K "law" "law" s_law f_law fd_law
  b_law : Binds K fd_law ["script"] []
  g_law : mg "law" = some (.ref f_law)
  n_bool : mg "bool" = none
  n_int : mg "int" = none
  n_isinstance : mg "isinstance" = none
  n_len : mg "len" = none
  n_list : mg "list" = none
  n_max : mg "max" = none
  n_min : mg "min" = none
  n_range : mg "range" = none
  n_str : mg "str" = none
  n_tuple : mg "tuple" = none

local macro_rules | `(tactic| walk_at "ne") => `(tactic| first
  | assumption
  | (refine Ne.symm ?_; assumption)
  | exact ne_of_none (by assumption) (by assumption)
  | exact (ne_of_none (by assumption) (by assumption)).symm
  | exact ne_of (by assumption) (by assumption) (by intro q; cases q))
local macro_rules | `(tactic| walk_at "hp") => `(tactic| first
  | assumption
  | exact upd_same
  | (refine (upd_ne ?_).trans ?_; (walk_at "ne"); (walk_at "hp")))
local macro_rules | `(tactic| walk_at "sq") => `(tactic| first
  | assumption
  | exact SqL.of (by walk_at "hp")
  | exact SqT.of (by walk_at "hp"))
local macro_rules | `(tactic| walk_at "kind") => `(tactic| first
  | assumption
  | exact Kind.int _
  | exact Kind.str _
  | exact Kind.bl _
  | exact Kind.non
  | exact Kind.tup (by walk_at "hp")
  | exact Kind.lst (by walk_at "hp")
  | exact Kind.dK (by walk_at "hp"))
local macro_rules | `(tactic| walk_at "w1") => `(tactic| first
  | (with_reducible refine Wp.seq ?_)
  | (with_reducible refine Wp.nx_mk ?_)
  | (with_reducible refine Wp.rt_mk ?_)
  | (with_reducible refine Wp.bk_mk ?_)
  | (with_reducible refine Wp.ct_mk ?_)
  | (with_reducible refine Wp.next ?_)
  | (with_reducible refine Wp.asg ?_)
  | ((with_reducible refine' Wp.gname ?e ?_); (case e => (try dsimp only [List.set]); (try exact rfl)))
  | (with_reducible refine Wp.gsub ?_)
  | (with_reducible refine Wp.ret ?_)
  | (with_reducible refine Wp.retN ?_)
  | (with_reducible refine Wp.drop ?_)
  | (with_reducible refine Wp.dput ?_)
  | (with_reducible refine Wp.ifs ?_)
  | ((with_reducible refine' Wp.var ?h ?_); (case h => exact rfl))
  | (with_reducible refine Wp.con ?_)
  | (with_reducible refine Wp.op ?_)
  | (with_reducible refine Wp.un ?_)
  | (with_reducible refine Wp.cb ?_)
  | (with_reducible refine Wp.anil ?_)
  | (with_reducible refine Wp.acons ?_)
  | (with_reducible refine Wp.call ?_)
  | (with_reducible refine Wp.test ?_)
  | (with_reducible refine Wp.tb_ ?_)
  | (with_reducible refine Wp.and_ ?_)
  | (with_reducible refine Wp.or_ ?_)
  | (with_reducible refine Wp.not_ ?_)
  | (with_reducible refine Wp.andV ?_)
  | (with_reducible refine Wp.orV ?_)
  | (with_reducible refine Wp.notV ?_)
  | (with_reducible refine Wp.rI0_ ?_)
  | (with_reducible refine Wp.rU_ ?_)
  | ((with_reducible refine Wp.rEq_ ?k ?_); (case k => exact rfl))
  | ((with_reducible refine Wp.rNe_ ?k ?_); (case k => exact rfl))
  | (with_reducible refine Wp.gcons ?_)
  | (with_reducible refine Wp.gnil ?_)
  | ((with_reducible refine' Wp.gtup ?h ?e ?_); (case h => walk_at "sq"); (case e => exact rfl))
  | (with_reducible refine Wp.sl ?_)
  | (with_reducible refine Wp.part ?_)
  | (with_reducible refine Wp.nopart ?_)
  | (with_reducible refine Wp.ifE ?_)
  | (with_reducible refine Wp.bm0 ?_)
  | (with_reducible refine Wp.bm ?_)
  | (with_reducible refine Wp.forR1 ?_)
  | (with_reducible refine Wp.forR2 ?_)
  | (with_reducible refine Wp.forL ?_)
  | (with_reducible refine Wp.forT ?_)
  | ((with_reducible refine' ⟨?k, ?_⟩); (case k => exact Wp.tyvL (by walk_at "hp")))
  | ((with_reducible refine' Wp.rev_ ?k ?_); (case k => walk_at "hp"))
  | ((with_reducible refine' Wp.isi ?k ?h ?_); (case k => walk_at "kind"); (case h => decide))
  | ((with_reducible refine' Wp.typ ?k ?_); (case k => walk_at "kind"))
  | (with_reducible refine Wp.slS ?k ?_; (case k => assumption))
  | (with_reducible refine iteT ?_)
  | (with_reducible refine iteF ?_)
  | (with_reducible refine Wp.pcons ?_)
  | (with_reducible refine Wp.pnil ?_)
  | ((with_reducible refine' Wp.iteBnT ?h ?_); (case h => show isB _ _ = false; decide))
  | ((with_reducible refine' Wp.iteBnF ?h ?_); (case h => show isB _ _ = true; decide))
  | ((with_reducible refine' Wp.iteBt ?h ?_); (case h => show isB _ _ = true; decide))
  | ((with_reducible refine' Wp.iteBf ?h ?_); (case h => show isB _ _ = false; decide))
  | (with_reducible refine Wp.iteT' ?_)
  | (with_reducible refine Wp.iteF' ?_)
  | (with_reducible refine Wp.rNT_ ?_)
  | ((with_reducible refine Wp.lst ?_))
  | ((with_reducible refine Wp.tup ?_))
  | ((with_reducible refine' Wp.ixL ?h ?e ?_); (case h => walk_at "sq"); (case e => exact rfl))
  | ((with_reducible refine' Wp.ixT ?h ?e ?_); (case h => walk_at "sq"); (case e => exact rfl))
  | ((with_reducible refine' Wp.setL ?h ?e ?_); (case h => walk_at "hp"); (case e => exact rfl))
  | ((with_reducible refine Wp.rI_ ?k ?_); (case k => first | (show (0:Int) < _; omega) | (show CPow _ _; refine' ⟨?_, ?_, ?_⟩ <;> omega) | (show CDiv _ _; refine' ⟨?_, ?_⟩ <;> omega) | (show CMul _ _; refine' Or.inl ⟨?_, ?_⟩ <;> omega) | (show CMul _ _; refine' Or.inr ⟨?_, ?_⟩ <;> first | omega | decide) | (show CDivW _ _; refine' wide_div (b := 240) ?_ ?_ ?_ ?_ <;> first | omega | decide)))
  | ((with_reducible refine ⟨?k, ?_⟩); (case k => first | exact Nat.zero_le _ | (exact Nat.le_of_ble_eq_true rfl)); intro p hp)
  | ((with_reducible refine' ⟨_, _, rfl, .inl ?k, ?_⟩); (case k => walk_at "sq"))
  | ((with_reducible refine' ⟨_, _, rfl, .inr ?k, ?_⟩); (case k => walk_at "sq"))
  | (with_reducible refine ⟨_, rfl, ?_⟩)
  | (with_reducible refine ⟨_, _, rfl, rfl, ?_⟩)
  | (with_reducible refine ⟨_, _, rfl, ?_⟩))
local macro_rules | `(tactic| walk_at "wp") => `(tactic| repeat (walk_at "w1"))

section
variable {P : Program} {w : World} {K : PySem.W.Frag} {mg : Str → Option Value} {base : Heap}
/-- a bag: three ints, the second below 2 ^ 62, the third at most n -/
def Bag (H : Hp) (b : Addr) (n : Nat) : Prop := ∃ x y z : Int, H b = some (.lst [.int x, .int y, .int z]) ∧ 0 ≤ y ∧ y < 4611686018427387904 ∧ 0 ≤ z ∧ z ≤ n
theorem Bag.mono {H : Hp} {b : Addr} {n m : Nat} (h : Bag H b n) (k : n ≤ m) : Bag H b m := by
  obtain ⟨x, y, z, h1, h2, h3, h4, h5⟩ := h
  exact ⟨x, y, z, h1, h2, h3, h4, by omega⟩
theorem Bag.ne_new {H : Hp} {b p : Addr} {n : Nat} (h : Bag H b n) (k : H p = none) : p ≠ b := by
  obtain ⟨x, y, z, h1, h⟩ := h
  exact (ne_of_none h1 k).symm
theorem Bag.keep {H H' : Hp} {b : Addr} {n : Nat} (h : Bag H b n) (k : Same H H') : Bag H' b n := by
  obtain ⟨x, y, z, h1, h⟩ := h
  exact ⟨x, y, z, k _ _ h1, h⟩

def spCell (K : PySem.W.Frag) : Sp := fun vs H Q _ => ∃ (a : Addr) (ns : List Int) (k : Nat), vs = [.ref a, .int k] ∧ SqL K H a (ns.map V.int) ∧ ∀ v, Q (.int v) H
theorem ok_cell_at (T : Txt P w K mg) : FnOk P w K mg base CX0 1 T.f_cell_at T.fd_cell_at ["script", "k"] (spCell K) := by
  refine T.F_cell_at.ok sc_cell_at (fun vs H Q E h => ?_) (fun cdv A outer s H vs Q E hr h => ?_)
  · obtain ⟨a, ns, k, rfl, _⟩ := h
    rfl
  · obtain ⟨a, ns, k, rfl, hS, q⟩ := h
    refine ⟨_, (pss_cons (ps_if (pt_cmpR op_lt (pv 1) (pe_callB call_len_seq (by rfl) T.n_len (by decide +kernel) (pa_cons (pv 0) pa_nil)) (nomark _)) (pss_one (ps_ret (pe_ix ix_list (pv 0) (pv 1) (fun _ _ => rfl)))) pss_nil)
      (pss_one (ps_ret pe_int))), ?_⟩
    rw [show L2.start ["script", "k"] [.ref a, .int k] = [some (.ref a), some (.int k)] from rfl]
    try dsimp only [cxOf]
    walk_at "wp"
    refine ite_ (fun c => ?_) (fun c => ?_)
    · walk_at "wp"
      have hk : k < ns.length := by
        rw [List.length_map] at c
        omega
      refine ixL hS (atI_nat (v := .int ns[k]) ?_) ?_
      · rw [List.getElem?_map, List.getElem?_eq_getElem hk]
        rfl
      · exact q _
    · walk_at "wp"
      exact q _

def spBag : Sp := fun vs H Q _ => ∃ (c : Int) (p : Nat), vs = [.int c, .int p] ∧ p ≤ 100 ∧ ∀ b H', H b = none → Bag H' b 0 → Same H H' → Q (.ref b) H'
theorem ok_bag (T : Txt P w K mg) : FnOk P w K mg base CX0 1 T.f_bag T.fd_bag ["cell", "place"] spBag := by
  refine T.F_bag.ok sc_bag (fun vs H Q E h => ?_) (fun cdv A outer s H vs Q E hr h => ?_)
  · obtain ⟨c, p, rfl, _⟩ := h
    rfl
  · obtain ⟨c, p, rfl, hp, q⟩ := h
    refine ⟨_, (pss_one (ps_ret (pe_lst (pa_cons (pe_callB (call_max2 rfl) (by rfl) T.n_max (by decide +kernel) (pa_cons pe_int (pa_cons (pe_op op_sub (pv 0) (pe_op op_pow pe_int pe_int)) pa_nil))) (pa_cons (pe_op op_add (pe_op op_mod (pv 0) pe_int) (pe_op op_mul pe_int (pv 1))) (pa_cons pe_int pa_nil)))))), ?_⟩
    rw [show L2.start ["cell", "place"] [.int c, .int p] = [some (.int c), some (.int p)] from rfl]
    try dsimp only [cxOf]
    walk_at "wp"
    refine q _ _ ‹_› ⟨_, _, _, upd_same, ?_, ?_, by omega, by omega⟩ (same_new ‹_›)
    · have := Int.emod_nonneg c (show (2305843009213693951 : Int) ≠ 0 by decide)
      omega
    · have := Int.emod_lt_of_pos c (show (0 : Int) < 2305843009213693951 by decide)
      omega

def spDraw : Sp := fun vs H Q _ => ∃ (b : Addr) (n : Nat) (m : Int), vs = [.ref b, .int m] ∧ Bag H b n ∧ n < 1000 ∧ 0 < m ∧ m < 2 ^ 240 ∧ ∀ v H', 0 ≤ v → v < m → Bag H' b (n + 1) → Kp b H H' → Q (.int v) H'
theorem ok_draw (T : Txt P w K mg) : FnOk P w K mg base CX0 1 T.f_draw T.fd_draw ["bag", "many"] spDraw := by
  refine T.F_draw.ok sc_draw (fun vs H Q E h => ?_) (fun cdv A outer s H vs Q E hr h => ?_)
  · obtain ⟨b, n, m, rfl, _⟩ := h
    rfl
  · obtain ⟨b, n, m, rfl, ⟨x, y, z, hb, hy, hy2, hz, hz2⟩, hn, hm, hm2, k⟩ := h
    refine ⟨_, (pss_cons (ps_if (pt_cmpR op_gt (pe_ix ix_list (pv 0) pe_int (fun _ _ => rfl)) pe_int (nomark _)) (pss_cons (ps_set (i := 2) sc_draw.nd rfl (.inl rfl) (pe_op op_mod (pe_ix ix_list (pv 0) pe_int (fun _ _ => rfl)) (pv 1)))
      (pss_cons (ps_asg (pe_op op_fdivW (pe_ix ix_list (pv 0) pe_int (fun _ _ => rfl)) (pv 1)) (pg_sub (pv 0) pe_int set_list))
      (pss_one (ps_ret (pv 2))))) pss_nil)
      (pss_cons (ps_asg (pe_op op_add (pe_ix ix_list (pv 0) pe_int (fun _ _ => rfl)) pe_int) (pg_sub (pv 0) pe_int set_list))
      (pss_cons (ps_set (i := 3) sc_draw.nd rfl (.inl rfl) (pe_op op_mod (pe_op op_pow (pe_op op_add (pe_ix ix_list (pv 0) pe_int (fun _ _ => rfl)) (pe_op op_mul pe_int (pe_ix ix_list (pv 0) pe_int (fun _ _ => rfl)))) pe_int) pe_int))
      (pss_cons (ps_set (i := 3) sc_draw.nd rfl (.inl rfl) (pe_op op_mod (pe_op op_pow (pe_op op_add (pv 3) (pe_op op_mul pe_int (pe_ix ix_list (pv 0) pe_int (fun _ _ => rfl)))) pe_int) pe_int))
      (pss_one (ps_ret (pe_op op_mod (pe_op op_fdiv (pv 3) pe_int) (pv 1)))))))), ?_⟩
    rw [show L2.start ["bag", "many", "found", "mixed"] [.ref b, .int m] = [some (.ref b), some (.int m), none, none] from rfl]
    try dsimp only [cxOf]
    walk_at "wp"
    refine ite_ (fun c => ?_) (fun c => ?_)
    · walk_at "wp"
      refine k _ _ ?_ ?_ ⟨_, _, _, upd_same, hy, hy2, hz, by omega⟩ Kp.at
      · exact Int.emod_nonneg _ (by omega)
      · exact Int.emod_lt_of_pos _ hm
    · walk_at "wp"
      refine k _ _ ?_ ?_ ⟨_, _, _, upd_same, hy, hy2, by omega, by omega⟩ Kp.at
      · exact Int.emod_nonneg _ (by omega)
      · exact Int.emod_lt_of_pos _ hm

def spNumber : Sp := fun vs H Q _ => ∃ (b : Addr) (n : Nat), vs = [.ref b] ∧ Bag H b n ∧ n < 900 ∧ ∀ v H', 0 ≤ v → Bag H' b (n + 7) → Kp b H H' → Q (.int v) H'
theorem ok_number (T : Txt P w K mg) : FnOk P w K mg base CX0 2 T.f_number T.fd_number ["bag"] spNumber := by
  have G_draw := ok_draw (base := base) T
  refine T.F_number.ok sc_number (fun vs H Q E h => ?_) (fun cdv A outer s H vs Q E hr h => ?_)
  · obtain ⟨b, n, rfl, _⟩ := h
    rfl
  · obtain ⟨b, n, rfl, hb, hn, k⟩ := h
    refine ⟨_, (pss_cons (ps_set (i := 1) sc_number.nd rfl (.inl rfl) (pe_call G_draw (hr.mono (by decide)) (by rfl) T.g_draw T.F_draw.kp T.b_draw .nil pass0 (pa_cons (pv 0) (pa_cons pe_int pa_nil))))
      (pss_cons (ps_if (pt_cmpR op_lt (pv 1) pe_int (nomark _)) (pss_one (ps_ret (pe_call G_draw (hr.mono (by decide)) (by rfl) T.g_draw T.F_draw.kp T.b_draw .nil pass0 (pa_cons (pv 0) (pa_cons (pe_ix ix_list (pe_lst (pa_cons pe_int (pa_cons pe_int pa_nil))) (pv 1) (fun _ _ => rfl)) pa_nil))))) pss_nil)
      (pss_cons (ps_set (i := 2) sc_number.nd rfl (.inl rfl) (pe_ix ix_list (pe_lst (pa_cons pe_int (pa_cons pe_int (pa_cons (pe_op op_pow pe_int pe_int) (pa_cons (pe_op op_pow pe_int pe_int) (pa_cons (pe_op op_pow pe_int pe_int) (pa_cons (pe_op op_pow pe_int pe_int) (pa_cons (pe_op op_pow pe_int pe_int) pa_nil)))))))) (pe_call G_draw (hr.mono (by decide)) (by rfl) T.g_draw T.F_draw.kp T.b_draw .nil pass0 (pa_cons (pv 0) (pa_cons pe_int pa_nil))) (fun _ _ => rfl)))
      (pss_cons (ps_set (i := 3) sc_number.nd rfl (.inl rfl) pe_int)
      (pss_cons (ps_for PassesOwn.never rfl (pi_range1 (by rfl) T.n_range (pa_cons pe_int pa_nil)) (pg_name (i := 4) sc_number.nd rfl (.inl rfl)) (pss_one (ps_set (i := 3) sc_number.nd rfl (.inl rfl) (pe_op op_add (pe_op op_mul (pv 3) (pe_op op_pow pe_int pe_int)) (pe_call G_draw (hr.mono (by decide)) (by rfl) T.g_draw T.F_draw.kp T.b_draw .nil pass0 (pa_cons (pv 0) (pa_cons (pe_op op_pow pe_int pe_int) pa_nil)))))))
      (pss_one (ps_ret (pe_op op_mod (pv 3) (pv 2))))))))), ?_⟩
    rw [show L2.start ["bag", "way", "bound", "found", "k"] [.ref b] = [some (.ref b), none, none, none, none] from rfl]
    try dsimp only [cxOf]
    walk_at "wp"
    refine ⟨b, n, _, rfl, hb, by omega, by decide, by decide, fun way H1 w0 w1 hb1 k1 => ?_⟩
    walk_at "wp"
    refine ite_ (fun c => ?_) (fun c => ?_)
    · walk_at "wp"
      have cc : way = 0 ∨ way = 1 := by omega
      rcases cc with rfl | rfl
      · refine ixL (SqL.of upd_same) rfl ?_
        walk_at "wp"
        refine ⟨b, n + 1, _, rfl, hb1.keep (same_new ‹_›), by omega, by decide, by decide, fun v H2 v0 v1 hb2 k2 => ?_⟩
        walk_at "wp"
        exact k _ _ v0 (hb2.mono (by omega)) (Kp.trans k1 (Kp.trans (Kp.new ‹_›) k2))
      · refine ixL (SqL.of upd_same) rfl ?_
        walk_at "wp"
        refine ⟨b, n + 1, _, rfl, hb1.keep (same_new ‹_›), by omega, by decide, by decide, fun v H2 v0 v1 hb2 k2 => ?_⟩
        walk_at "wp"
        exact k _ _ v0 (hb2.mono (by omega)) (Kp.trans k1 (Kp.trans (Kp.new ‹_›) k2))
    · walk_at "wp"
      rename_i p hp
      refine ⟨b, n + 1, _, rfl, hb1.keep (same_new hp), by omega, by decide, by decide, fun at_ H2 v0 v1 hb2 k2 => ?_⟩
      have hpl : H2 p = _ := k2 _ _ (hb1.ne_new hp) upd_same
      obtain ⟨bd, hbd, bd0⟩ : ∃ bd : Int, atI [V.int 10, V.int 100, V.int (10 ^ Int.toNat 5), V.int (10 ^ Int.toNat 18), V.int (10 ^ Int.toNat 30), V.int (10 ^ Int.toNat 59), V.int (10 ^ Int.toNat 60)] at_ = some (V.int bd) ∧ 0 < bd := by
        have cc : at_ = 0 ∨ at_ = 1 ∨ at_ = 2 ∨ at_ = 3 ∨ at_ = 4 ∨ at_ = 5 ∨ at_ = 6 := by omega
        rcases cc with rfl | rfl | rfl | rfl | rfl | rfl | rfl <;> exact ⟨_, rfl, by decide⟩
      refine ixL (SqL.of hpl) hbd ?_
      walk_at "wp"
      refine ⟨by decide, by decide, loopR (fun i σ H' => ∃ (f : Int) (v : Option V), σ = [some (.ref b), some (.int way), some (.int bd), some (.int f), v] ∧ Bag H' b (n + 2 + i) ∧ Kp b H2 H') ⟨0, none, rfl, hb2, Kp.refl _ _⟩ ?_ ?_⟩
      · rintro i σ H3 hi ⟨f, v, rfl, hb3, k3⟩
        have hi5 : i < 5 := hi
        walk_at "wp"
        refine ⟨b, n + 2 + i, _, rfl, hb3, by omega, by decide, by decide, fun v4 H4 v0 v1 hb4 k4 => ?_⟩
        walk_at "wp"
        exact ⟨hb4, Kp.trans k3 k4⟩
      · rintro σ H3 ⟨f, v, rfl, hb3, k3⟩
        walk_at "wp"
        exact k _ _ (Int.emod_nonneg _ (by omega)) hb3 (Kp.trans k1 (Kp.trans (Kp.new hp) (Kp.trans k2 k3)))

def spWhole : Sp := fun vs H Q _ => ∃ (v : V) (T : String), vs = [v] ∧ Kind H v T ∧ Q (.bl (decide (T = "int"))) H
theorem ok_whole (T : Txt P w K mg) : FnOk P w K mg base CX0 1 T.f_whole T.fd_whole ["found"] spWhole := by
  refine T.F_whole.ok sc_whole (fun vs H Q E h => ?_) (fun cdv A outer s H vs Q E hr h => ?_)
  · obtain ⟨v, ty, rfl, _⟩ := h
    rfl
  · obtain ⟨v, ty, rfl, hk, q⟩ := h
    refine ⟨_, (pss_one (ps_ret (pe_and (pe_callB call_isi (by rfl) T.n_isinstance (by decide +kernel) (pa_cons (pv 0) (pa_cons (pe_bltn (v := .ty "int") (by rfl) T.n_int (by decide +kernel) rfl) pa_nil))) (pe_one (pe_not (pe_callB call_isi (by rfl) T.n_isinstance (by decide +kernel) (pa_cons (pv 0) (pa_cons (pe_bltn (v := .ty "bool") (by rfl) T.n_bool (by decide +kernel) rfl) pa_nil)))))))), ?_⟩
    rw [show L2.start ["found"] [v] = [some v] from rfl]
    try dsimp only [cxOf]
    walk_at "wp"
    by_cases e1 : ty = "int"
    · subst e1
      walk_at "wp"
      exact q
    · rw [decide_eq_false e1] at q
      by_cases e2 : ty = "bool"
      · subst e2
        walk_at "wp"
        exact q
      · rw [show isB ty "int" = false by unfold isB; rw [decide_eq_false e1, decide_eq_false e2] <;> rfl]
        walk_at "wp"
        exact q

end
end K02

namespace K02
open PySem PySem.Spec PyProof.Rows L2 Wp Wq
local macro_rules | `(tactic| walk_at "ne") => `(tactic| first
  | assumption
  | (refine Ne.symm ?_; assumption)
  | exact ne_of_none (by assumption) (by assumption)
  | exact (ne_of_none (by assumption) (by assumption)).symm
  | exact ne_of (by assumption) (by assumption) (by intro q; cases q))
local macro_rules | `(tactic| walk_at "hp") => `(tactic| first
  | assumption
  | exact upd_same
  | (refine (upd_ne ?_).trans ?_; (walk_at "ne"); (walk_at "hp")))
local macro_rules | `(tactic| walk_at "sq") => `(tactic| first
  | assumption
  | exact SqL.of (by walk_at "hp")
  | exact SqT.of (by walk_at "hp"))
local macro_rules | `(tactic| walk_at "kind") => `(tactic| first
  | assumption
  | exact Kind.int _
  | exact Kind.str _
  | exact Kind.bl _
  | exact Kind.non
  | exact Kind.tup (by walk_at "hp")
  | exact Kind.lst (by walk_at "hp")
  | exact Kind.dK (by walk_at "hp"))
local macro_rules | `(tactic| walk_at "w1") => `(tactic| first
  | (with_reducible refine Wp.seq ?_)
  | (with_reducible refine Wp.nx_mk ?_)
  | (with_reducible refine Wp.rt_mk ?_)
  | (with_reducible refine Wp.bk_mk ?_)
  | (with_reducible refine Wp.ct_mk ?_)
  | (with_reducible refine Wp.next ?_)
  | (with_reducible refine Wp.asg ?_)
  | ((with_reducible refine' Wp.gname ?e ?_); (case e => (try dsimp only [List.set]); (try exact rfl)))
  | (with_reducible refine Wp.gsub ?_)
  | (with_reducible refine Wp.ret ?_)
  | (with_reducible refine Wp.retN ?_)
  | (with_reducible refine Wp.drop ?_)
  | (with_reducible refine Wp.dput ?_)
  | (with_reducible refine Wp.ifs ?_)
  | ((with_reducible refine' Wp.var ?h ?_); (case h => exact rfl))
  | (with_reducible refine Wp.con ?_)
  | (with_reducible refine Wp.op ?_)
  | (with_reducible refine Wp.un ?_)
  | (with_reducible refine Wp.cb ?_)
  | (with_reducible refine Wp.anil ?_)
  | (with_reducible refine Wp.acons ?_)
  | (with_reducible refine Wp.call ?_)
  | (with_reducible refine Wp.test ?_)
  | (with_reducible refine Wp.tb_ ?_)
  | (with_reducible refine Wp.and_ ?_)
  | (with_reducible refine Wp.or_ ?_)
  | (with_reducible refine Wp.not_ ?_)
  | (with_reducible refine Wp.andV ?_)
  | (with_reducible refine Wp.orV ?_)
  | (with_reducible refine Wp.notV ?_)
  | (with_reducible refine Wp.rI0_ ?_)
  | (with_reducible refine Wp.rU_ ?_)
  | ((with_reducible refine Wp.rEq_ ?k ?_); (case k => exact rfl))
  | ((with_reducible refine Wp.rNe_ ?k ?_); (case k => exact rfl))
  | (with_reducible refine Wp.gcons ?_)
  | (with_reducible refine Wp.gnil ?_)
  | ((with_reducible refine' Wp.gtup ?h ?e ?_); (case h => walk_at "sq"); (case e => exact rfl))
  | (with_reducible refine Wp.sl ?_)
  | (with_reducible refine Wp.part ?_)
  | (with_reducible refine Wp.nopart ?_)
  | (with_reducible refine Wp.ifE ?_)
  | (with_reducible refine Wp.bm0 ?_)
  | (with_reducible refine Wp.bm ?_)
  | (with_reducible refine Wp.forR1 ?_)
  | (with_reducible refine Wp.forR2 ?_)
  | (with_reducible refine Wp.forL ?_)
  | (with_reducible refine Wp.forT ?_)
  | ((with_reducible refine' ⟨?k, ?_⟩); (case k => exact Wp.tyvL (by walk_at "hp")))
  | ((with_reducible refine' Wp.rev_ ?k ?_); (case k => walk_at "hp"))
  | ((with_reducible refine' Wp.isi ?k ?h ?_); (case k => walk_at "kind"); (case h => decide))
  | ((with_reducible refine' Wp.typ ?k ?_); (case k => walk_at "kind"))
  | (with_reducible refine Wp.slS ?k ?_; (case k => assumption))
  | (with_reducible refine iteT ?_)
  | (with_reducible refine iteF ?_)
  | (with_reducible refine Wp.pcons ?_)
  | (with_reducible refine Wp.pnil ?_)
  | ((with_reducible refine' Wp.iteBnT ?h ?_); (case h => show isB _ _ = false; decide))
  | ((with_reducible refine' Wp.iteBnF ?h ?_); (case h => show isB _ _ = true; decide))
  | ((with_reducible refine' Wp.iteBt ?h ?_); (case h => show isB _ _ = true; decide))
  | ((with_reducible refine' Wp.iteBf ?h ?_); (case h => show isB _ _ = false; decide))
  | (with_reducible refine Wp.iteT' ?_)
  | (with_reducible refine Wp.iteF' ?_)
  | (with_reducible refine Wp.rNT_ ?_)
  | ((with_reducible refine Wp.lst ?_))
  | ((with_reducible refine Wp.tup ?_))
  | ((with_reducible refine' Wp.ixL ?h ?e ?_); (case h => walk_at "sq"); (case e => exact rfl))
  | ((with_reducible refine' Wp.ixT ?h ?e ?_); (case h => walk_at "sq"); (case e => exact rfl))
  | ((with_reducible refine' Wp.setL ?h ?e ?_); (case h => walk_at "hp"); (case e => exact rfl))
  | ((with_reducible refine Wp.rI_ ?k ?_); (case k => first | (show (0:Int) < _; omega) | (show CPow _ _; refine' ⟨?_, ?_, ?_⟩ <;> omega) | (show CDiv _ _; refine' ⟨?_, ?_⟩ <;> omega) | (show CMul _ _; refine' Or.inl ⟨?_, ?_⟩ <;> omega) | (show CMul _ _; refine' Or.inr ⟨?_, ?_⟩ <;> first | omega | decide) | (show CDivW _ _; refine' wide_div (b := 240) ?_ ?_ ?_ ?_ <;> first | omega | decide)))
  | ((with_reducible refine ⟨?k, ?_⟩); (case k => first | exact Nat.zero_le _ | (exact Nat.le_of_ble_eq_true rfl)); intro p hp)
  | ((with_reducible refine' ⟨_, _, rfl, .inl ?k, ?_⟩); (case k => walk_at "sq"))
  | ((with_reducible refine' ⟨_, _, rfl, .inr ?k, ?_⟩); (case k => walk_at "sq"))
  | (with_reducible refine ⟨_, rfl, ?_⟩)
  | (with_reducible refine ⟨_, _, rfl, rfl, ?_⟩)
  | (with_reducible refine ⟨_, _, rfl, ?_⟩))
local macro_rules | `(tactic| walk_at "wp") => `(tactic| repeat (walk_at "w1"))

/-! ### the mathematics -/
def isT (w : W) : Bool := inV (.str w.1) [.str "box", .str "go"]
theorem isT_eq (w : W) : isT w = (decide (w.1 = "box") || decide (w.1 = "go")) := by
  show (((Str.ofString "box") == w.1) || (((Str.ofString "go") == w.1) || false)) = _
  rw [Bool.or_false, Bool.beq_eq_decide_eq, Bool.beq_eq_decide_eq]
  congr 1
  · exact decide_eq_decide.mpr ⟨fun h => h.symm, fun h => h.symm⟩
  · exact decide_eq_decide.mpr ⟨fun h => h.symm, fun h => h.symm⟩
def stepT (acc : List W) (w : W) : List W := if isT w = true ∧ w ∉ acc then acc ++ [w] else acc
def thingsM (ws : List W) : List W := ws.foldl stepT []
theorem step_mem {acc : List W} {w x : W} (h : x ∈ acc) : x ∈ stepT acc w := by
  unfold stepT
  split
  · exact List.mem_append_left _ h
  · exact h
theorem fold_mem {x : W} : ∀ {ws acc : List W}, x ∈ acc → x ∈ ws.foldl stepT acc
  | [], _, h => h
  | w :: ws, _, h => fold_mem (ws := ws) (step_mem h)
theorem fold_in {x : W} (hx : isT x = true) : ∀ {ws acc : List W}, x ∈ ws → x ∈ ws.foldl stepT acc
  | w :: ws, acc, h => by
    rw [List.foldl_cons]
    rcases List.mem_cons.mp h with e | h
    · subst e
      refine fold_mem ?_
      unfold stepT
      split
      · exact List.mem_append_right _ List.mem_cons_self
      · rename_i c
        exact Classical.not_not.mp fun n => c ⟨hx, n⟩
    · exact fold_in hx h
theorem fold_stay : ∀ {ws acc : List W}, (∀ x ∈ ws, isT x = true → x ∈ acc) → ws.foldl stepT acc = acc
  | [], _, _ => rfl
  | w :: ws, acc, h => by
    rw [List.foldl_cons]
    have e : stepT acc w = acc := by
      unfold stepT
      rw [if_neg]
      rintro ⟨h1, h2⟩
      exact h2 (h w List.mem_cons_self h1)
    rw [e]
    exact fold_stay fun x hx => h x (List.mem_cons_of_mem _ hx)
theorem things_twice (ws : List W) : thingsM (ws ++ ws) = thingsM ws := by
  unfold thingsM
  rw [List.foldl_append]
  exact fold_stay fun x hx ht => fold_in ht hx
theorem step_len {acc : List W} {w : W} : (stepT acc w).length ≤ acc.length + 1 := by
  unfold stepT
  split
  · rw [List.length_append] <;> exact Nat.le_refl _
  · omega
theorem step_ok {acc : List W} {w : W} (h : ∀ x ∈ acc, Wok x) (hw : Wok w) : ∀ x ∈ stepT acc w, Wok x := by
  unfold stepT
  split
  · intro x hx
    rcases List.mem_append.mp hx with hx | hx
    · exact h x hx
    · rw [List.mem_singleton.mp hx]; exact hw
  · exact h
theorem fold_ok : ∀ {ws acc : List W}, (∀ x ∈ acc, Wok x) → (∀ x ∈ ws, Wok x) → ∀ x ∈ ws.foldl stepT acc, Wok x
  | [], _, h, _ => h
  | w :: ws, _, h, hw => fold_ok (ws := ws) (step_ok h (hw w List.mem_cons_self)) fun x hx => hw x (List.mem_cons_of_mem _ hx)
theorem fold_len : ∀ {ws acc : List W}, (ws.foldl stepT acc).length ≤ acc.length + ws.length
  | [], _ => Nat.le_refl _
  | w :: ws, acc => by
    rw [List.foldl_cons, List.length_cons]
    have h1 := fold_len (ws := ws) (acc := stepT acc w)
    have h2 := step_len (acc := acc) (w := w)
    omega
theorem take_fold {ws : List W} {i : Nat} {w : W} {acc : List W} (h : ws[i]? = some w) : (ws.take (i + 1)).foldl stepT acc = stepT ((ws.take i).foldl stepT acc) w := by
  rw [List.take_add_one, h, List.foldl_append]
  rfl
/-! ### the dict -/
def keyT (w : W) : List Key := [.inr w.1, .inl w.2]
def ent (w : W) : List Key × V := (keyT w, .bl true)
theorem keyT_inj {w z : W} (h : keyT w = keyT z) : w = z := by
  obtain ⟨s, n⟩ := w
  obtain ⟨t, m⟩ := z
  unfold keyT at h
  simp at h
  rw [h.1, h.2]
theorem put_step (acc : List W) (w : W) (h : isT w = true) : putK (acc.map ent) (keyT w) (.bl true) = (stepT acc w).map ent := by
  have e : ((acc.map ent).any fun kv => decide (kv.1 = keyT w)) = decide (w ∈ acc) := by
    rw [List.any_map]
    by_cases c : w ∈ acc
    · rw [decide_eq_true c, List.any_eq_true]
      exact ⟨w, c, decide_eq_true rfl⟩
    · rw [decide_eq_false c, List.any_eq_false]
      intro x hx
      show ¬ decide (keyT x = keyT w) = true
      rw [decide_eq_true_eq]
      intro q
      exact c (keyT_inj q ▸ hx)
  unfold putK stepT
  rw [e]
  by_cases c : w ∈ acc
  · rw [if_pos (decide_eq_true c), if_neg (fun q => q.2 c), List.map_map]
    refine List.map_congr_left fun x hx => ?_
    show (if keyT x = keyT w then ((ent x).1, V.bl true) else ent x) = ent x
    split <;> rfl
  · rw [if_neg (by rw [decide_eq_false c]; exact Bool.false_ne_true), if_pos ⟨h, c⟩, List.map_append]
    rfl
theorem keys_pile {H : Hp} : ∀ {ws : List W} {bs : List Addr}, IsKeys H (ws.map ent) bs → Pile H (bs.map V.ref) ws
  | [], _, h => by
    cases h
    exact Pile.nil
  | w :: ws, _, h => by
    cases h with
    | cons r t => exact Paired.cons ⟨_, rfl, r⟩ (keys_pile t)
section
variable {P : Program} {w : World} {K : PySem.W.Frag} {mg : Str → Option Value} {base : Heap}
def spIsThing : Sp := fun vs H Q _ => ∃ (v : V) (z : W), vs = [v] ∧ IsW H v z ∧ ∀ H', Same H H' → Q (.bl (isT z)) H'
theorem ok_is_thing (T : Txt P w K mg) : FnOk P w K mg base CX0 1 T.f_is_thing T.fd_is_thing ["worth"] spIsThing := by
  refine T.F_is_thing.ok sc_is_thing (fun vs H Q E h => ?_) (fun cdv A outer s H vs Q E hr h => ?_)
  · obtain ⟨v, z, rfl, _⟩ := h
    rfl
  · obtain ⟨v, z, rfl, ⟨t, rfl, ht⟩, q⟩ := h
    refine ⟨_, (pss_one (ps_ret (pe_cmpR op_in_seq (pe_ix ix_tup (pv 0) pe_int (fun _ _ => rfl)) (pe_tup (pa_cons pe_str (pa_cons pe_str pa_nil))) (by rfl)))), ?_⟩
    rw [show L2.start ["worth"] [.ref t] = [some (.ref t)] from rfl]
    try dsimp only [cxOf]
    walk_at "wp"
    rename_i p hp
    refine ⟨p, _, rfl, .inr (SqT.of upd_same), rfl, rfl, ?_⟩
    exact q _ (same_new hp)
def spThingsOf (K : PySem.W.Frag) : Sp := fun vs H Q _ => ∃ (a : Addr) (xs : List V) (ws : List W), vs = [.ref a] ∧ SqL K H a xs ∧ Pile H xs ws ∧ ws.length ≤ 1000 ∧
  ∀ p ys H', H p = none → H' p = some (.lst ys) → Pile H' ys (thingsM ws) → Same H H' → Q (.ref p) H'
theorem ok_things_of (T : Txt P w K mg) : FnOk P w K mg base CX0 2 T.f_things_of T.fd_things_of ["worths"] (spThingsOf K) := by
  have G_is_thing := ok_is_thing (base := base) T
  refine T.F_things_of.ok sc_things_of (fun vs H Q E h => ?_) (fun cdv A outer s H vs Q E hr h => ?_)
  · obtain ⟨a, xs, ws, rfl, _⟩ := h
    rfl
  · obtain ⟨a, xs, ws, rfl, hS, hP, hl, q⟩ := h
    refine ⟨_, (pss_cons (ps_set (i := 1) sc_things_of.nd rfl (.inl rfl) pe_dnewT)
      (pss_cons (ps_for PassesOwn.never rfl (pi_list (pv 0)) (pg_name (i := 2) sc_things_of.nd rfl (.inl rfl)) (pss_one (ps_if (pt_val (pe_call G_is_thing (hr.mono (by decide)) (by rfl) T.g_is_thing T.F_is_thing.kp T.b_is_thing .nil pass0 (pa_cons (pv 2) pa_nil))) (pss_one (ps_dput (hu_of hr) (pv 1) (pv 2) pe_bl rfl)) pss_nil)))
      (pss_one (ps_ret (pe_callTy (call_list_dT rfl) (by rfl) T.n_list (by decide +kernel) (pa_cons (pv 1) pa_nil)))))), ?_⟩
    rw [show L2.start ["worths", "found", "worth"] [.ref a] = [some (.ref a), none, none] from rfl]
    try dsimp only [cxOf]
    walk_at "wp"
    intro d hd
    walk_at "wp"
    have s0 := same_new (o := .dT []) hd
    refine ⟨⟨xs, s0.seq hS⟩, loopL (xs := xs) (fun i σ H' => ∃ y2, σ = [some (.ref a), some (.ref d), y2] ∧ Same H H' ∧ H' d = some (.dT (((ws.take i).foldl stepT []).map ent))) ⟨_, rfl, s0, upd_same⟩ (fun i σ H' _ ⟨_, _, s, _⟩ => s.seq hS) ?_ ?_⟩
    · rintro i x σ H1 hi ⟨y2, rfl, s1, h1⟩
      obtain ⟨z, hz, hw⟩ := hP.get hi
      have hw1 := hw.keep (Same.tk s1)
      walk_at "wp"
      refine ⟨x, z, rfl, hw1, fun H2 s2 => ?_⟩
      walk_at "wp"
      refine iteB (fun e => ?_) (fun e => ?_)
      · obtain ⟨t, rfl, ht⟩ := hw1
        walk_at "wp"
        have ht2 := s2 _ _ ht
        have hd2 := s2 _ _ h1
        refine ⟨d, _, rfl, DPut.t (k := keyT z) hd2 ht2 ?_, ?_⟩
        · rw [List.length_map]
          have := fold_len (ws := ws.take i) (acc := [])
          rw [List.length_take] at this
          exact small1000 (by show _ ≤ 1000; simp at this; omega)
        · rw [put_step _ _ e, ← take_fold hz]
          walk_at "wp"
          refine ⟨?_, upd_same⟩
          have s3 := s1.trans s2
          intro b o hb
          rw [upd_ne (ne_of_none hb hd)]
          exact s3 _ _ hb
      · walk_at "wp"
        refine ⟨s1.trans s2, ?_⟩
        rw [take_fold hz]
        unfold stepT
        rw [if_neg (fun q => by rw [e] at q; exact Bool.false_ne_true q.1)]
        exact s2 _ _ h1
    · rintro σ H1 ⟨y2, rfl, s1, h1⟩
      walk_at "wp"
      rw [hP.len, List.take_of_length_le (Nat.le_refl _)] at h1
      refine ⟨d, _, rfl, .inl h1, fun p bs hp hk => ?_⟩
      have s2 := same_new (o := .lst (bs.map V.ref)) hp
      walk_at "wp"
      exact q _ _ _ (s1.free hp) upd_same ((keys_pile hk).keep (Same.tk s2)) (s1.trans s2)
def spSame : Sp := fun vs H Q _ => ∃ (v u : V) (z : W), vs = [v, u] ∧ IsW H v z ∧ IsW H u z ∧ Wok z ∧ Q (.bl true) H
theorem ok_same (T : Txt P w K mg) : FnOk P w K mg base CX0 2 T.f_same T.fd_same ["found", "due"] spSame := by
  have G_whole := ok_whole (base := base) T
  refine T.F_same.ok sc_same (fun vs H Q E h => ?_) (fun cdv A outer s H vs Q E hr h => ?_)
  · obtain ⟨v, u, z, rfl, _⟩ := h
    rfl
  · obtain ⟨v, u, z, rfl, hv, hu, hz, q⟩ := h
    have dv := hv.dp (K := K)
    have du := hu.dp (K := K)
    obtain ⟨t, rfl, ht⟩ := hv
    refine ⟨_, (pss_cons (ps_if (PW.pt (pw_or (pt_not (pt_val (pe_callB call_isi (by rfl) T.n_isinstance (by decide +kernel) (pa_cons (pv 0) (pa_cons (pe_bltn (v := .ty "tuple") (by rfl) T.n_tuple (by decide +kernel) rfl) pa_nil))))) (pw_or1 (pt_cmpR op_ne (pe_callB call_len_seq (by rfl) T.n_len (by decide +kernel) (pa_cons (pv 0) pa_nil)) pe_int (nomark _))))) (pss_one (ps_ret pe_bl)) pss_nil)
      (pss_one (ps_ret (pe_and (pe_callB call_isi (by rfl) T.n_isinstance (by decide +kernel) (pa_cons (pe_ix ix_tup (pv 0) pe_int (fun _ _ => rfl)) (pa_cons (pe_bltn (v := .ty "str") (by rfl) T.n_str (by decide +kernel) rfl) pa_nil))) (pe_and (pe_call G_whole (hr.mono (by decide)) (by rfl) T.g_whole T.F_whole.kp T.b_whole .nil pass0 (pa_cons (pe_ix ix_tup (pv 0) pe_int (fun _ _ => rfl)) pa_nil)) (pe_one (pe_cmpR (op_eqD hr.units) (pv 0) (pv 1) (nomark _)))))))), ?_⟩
    rw [show L2.start ["found", "due"] [.ref t, u] = [some (.ref t), some u] from rfl]
    try dsimp only [cxOf]
    walk_at "wp"
    refine iteN (fun e => absurd rfl e) (fun _ => ?_)
    walk_at "wp"
    refine ⟨_, _, rfl, .int _, ?_⟩
    walk_at "wp"
    refine ite_ (fun _ => ?_) (fun e => absurd rfl e)
    walk_at "wp"
    exact eqD dv du (wD_shaped hz) (Wq.eq_self (wD_shaped hz)) q
def spSamePile (K : PySem.W.Frag) : Sp := fun vs H Q _ => ∃ (a b : Addr) (xs ys : List V) (ws : List W), vs = [.ref a, .ref b] ∧ H a = some (.lst xs) ∧ H b = some (.lst ys) ∧ Pile H xs ws ∧ Pile H ys ws ∧ (∀ z ∈ ws, Wok z) ∧ ws.length ≤ 100000 ∧ Q (.bl true) H
theorem ok_same_pile (T : Txt P w K mg) : FnOk P w K mg base CX0 3 T.f_same_pile T.fd_same_pile ["found", "due"] (spSamePile K) := by
  have G_same := ok_same (base := base) T
  refine T.F_same_pile.ok sc_same_pile (fun vs H Q E h => ?_) (fun cdv A outer s H vs Q E hr h => ?_)
  · obtain ⟨a, b, xs, ys, ws, rfl, _⟩ := h
    rfl
  · obtain ⟨a, b, xs, ys, ws, rfl, ha, hb, pa, pb, hok, hl, q⟩ := h
    refine ⟨_, (pss_cons (ps_if (PW.pt (pw_or (pt_not (pt_val (pe_callB call_isi (by rfl) T.n_isinstance (by decide +kernel) (pa_cons (pv 0) (pa_cons (pe_bltn (v := .ty "list") (by rfl) T.n_list (by decide +kernel) rfl) pa_nil))))) (pw_or1 (pt_cmpR op_ne (pe_callB call_len_seq (by rfl) T.n_len (by decide +kernel) (pa_cons (pv 0) pa_nil)) (pe_callB call_len_seq (by rfl) T.n_len (by decide +kernel) (pa_cons (pv 1) pa_nil)) (nomark _))))) (pss_one (ps_ret pe_bl)) pss_nil)
      (pss_cons (ps_for PassesOwn.never rfl (pi_range1 (by rfl) T.n_range (pa_cons (pe_callB call_len_seq (by rfl) T.n_len (by decide +kernel) (pa_cons (pv 1) pa_nil)) pa_nil)) (pg_name (i := 2) sc_same_pile.nd rfl (.inl rfl)) (pss_one (ps_if (pt_not (pt_val (pe_call G_same (hr.mono (by decide)) (by rfl) T.g_same T.F_same.kp T.b_same .nil pass0 (pa_cons (pe_ix ix_list (pv 0) (pv 2) (fun _ _ => rfl)) (pa_cons (pe_ix ix_list (pv 1) (pv 2) (fun _ _ => rfl)) pa_nil))))) (pss_one (ps_ret pe_bl)) pss_nil)))
      (pss_one (ps_ret pe_bl)))), ?_⟩
    rw [show L2.start ["found", "due", "k"] [.ref a, .ref b] = [some (.ref a), some (.ref b), none] from rfl]
    try dsimp only [cxOf]
    walk_at "wp"
    refine iteN (fun e => absurd (by rw [pa.len, pb.len]) e) (fun _ => ?_)
    walk_at "wp"
    have el : ys.length = ws.length := pb.len
    refine ⟨by omega, by omega, loopR (fun i σ H' => ∃ y, σ = [some (.ref a), some (.ref b), y] ∧ H' = H) ⟨_, rfl, rfl⟩ ?_ ?_⟩
    · rintro i σ H1 hi ⟨y, rfl, rfl⟩
      have hi2 : i < ws.length := by omega
      obtain ⟨v, z, hv, hz, wv⟩ := pa.at hi2
      obtain ⟨u, z2, hu, hz2, wu⟩ := pb.at hi2
      obtain rfl : z = z2 := Option.some.inj (hz.symm.trans hz2)
      rw [Int.zero_add]
      walk_at "wp"
      refine ixL (SqL.of ha) (atI_nat hv) ?_
      walk_at "wp"
      refine ixL (SqL.of hb) (atI_nat hu) ?_
      walk_at "wp"
      refine ⟨v, u, z, rfl, wv, wu, hok z (List.mem_of_getElem? hz), ?_⟩
      walk_at "wp"
      rfl
    · rintro σ H1 ⟨y, rfl, rfl⟩
      walk_at "wp"
      exact q
end
end K02

namespace K02
open PySem PySem.Spec PyProof.Rows L2 Wp Wq
local macro_rules | `(tactic| walk_at "ne") => `(tactic| first
  | assumption
  | (refine Ne.symm ?_; assumption)
  | exact ne_of_none (by assumption) (by assumption)
  | exact (ne_of_none (by assumption) (by assumption)).symm
  | exact ne_of (by assumption) (by assumption) (by intro q; cases q))
local macro_rules | `(tactic| walk_at "hp") => `(tactic| first
  | assumption
  | exact upd_same
  | (refine (upd_ne ?_).trans ?_; (walk_at "ne"); (walk_at "hp")))
local macro_rules | `(tactic| walk_at "sq") => `(tactic| first
  | assumption
  | exact SqL.of (by walk_at "hp")
  | exact SqT.of (by walk_at "hp"))
local macro_rules | `(tactic| walk_at "kind") => `(tactic| first
  | assumption
  | exact Kind.int _
  | exact Kind.str _
  | exact Kind.bl _
  | exact Kind.non
  | exact Kind.tup (by walk_at "hp")
  | exact Kind.lst (by walk_at "hp")
  | exact Kind.dK (by walk_at "hp"))
local macro_rules | `(tactic| walk_at "w1") => `(tactic| first
  | (with_reducible refine Wp.seq ?_)
  | (with_reducible refine Wp.nx_mk ?_)
  | (with_reducible refine Wp.rt_mk ?_)
  | (with_reducible refine Wp.bk_mk ?_)
  | (with_reducible refine Wp.ct_mk ?_)
  | (with_reducible refine Wp.next ?_)
  | (with_reducible refine Wp.asg ?_)
  | ((with_reducible refine' Wp.gname ?e ?_); (case e => (try dsimp only [List.set]); (try exact rfl)))
  | (with_reducible refine Wp.gsub ?_)
  | (with_reducible refine Wp.ret ?_)
  | (with_reducible refine Wp.retN ?_)
  | (with_reducible refine Wp.drop ?_)
  | (with_reducible refine Wp.dput ?_)
  | (with_reducible refine Wp.ifs ?_)
  | ((with_reducible refine' Wp.var ?h ?_); (case h => exact rfl))
  | (with_reducible refine Wp.con ?_)
  | (with_reducible refine Wp.op ?_)
  | (with_reducible refine Wp.un ?_)
  | (with_reducible refine Wp.cb ?_)
  | (with_reducible refine Wp.anil ?_)
  | (with_reducible refine Wp.acons ?_)
  | (with_reducible refine Wp.call ?_)
  | (with_reducible refine Wp.test ?_)
  | (with_reducible refine Wp.tb_ ?_)
  | (with_reducible refine Wp.and_ ?_)
  | (with_reducible refine Wp.or_ ?_)
  | (with_reducible refine Wp.not_ ?_)
  | (with_reducible refine Wp.andV ?_)
  | (with_reducible refine Wp.orV ?_)
  | (with_reducible refine Wp.notV ?_)
  | (with_reducible refine Wp.rI0_ ?_)
  | (with_reducible refine Wp.rU_ ?_)
  | ((with_reducible refine Wp.rEq_ ?k ?_); (case k => exact rfl))
  | ((with_reducible refine Wp.rNe_ ?k ?_); (case k => exact rfl))
  | (with_reducible refine Wp.gcons ?_)
  | (with_reducible refine Wp.gnil ?_)
  | ((with_reducible refine' Wp.gtup ?h ?e ?_); (case h => walk_at "sq"); (case e => exact rfl))
  | (with_reducible refine Wp.sl ?_)
  | (with_reducible refine Wp.part ?_)
  | (with_reducible refine Wp.nopart ?_)
  | (with_reducible refine Wp.ifE ?_)
  | (with_reducible refine Wp.bm0 ?_)
  | (with_reducible refine Wp.bm ?_)
  | (with_reducible refine Wp.forR1 ?_)
  | (with_reducible refine Wp.forR2 ?_)
  | (with_reducible refine Wp.forL ?_)
  | (with_reducible refine Wp.forT ?_)
  | ((with_reducible refine' ⟨?k, ?_⟩); (case k => exact Wp.tyvL (by walk_at "hp")))
  | ((with_reducible refine' Wp.rev_ ?k ?_); (case k => walk_at "hp"))
  | ((with_reducible refine' Wp.isi ?k ?h ?_); (case k => walk_at "kind"); (case h => decide))
  | ((with_reducible refine' Wp.typ ?k ?_); (case k => walk_at "kind"))
  | (with_reducible refine Wp.slS ?k ?_; (case k => assumption))
  | (with_reducible refine iteT ?_)
  | (with_reducible refine iteF ?_)
  | (with_reducible refine Wp.pcons ?_)
  | (with_reducible refine Wp.pnil ?_)
  | ((with_reducible refine' Wp.iteBnT ?h ?_); (case h => show isB _ _ = false; decide))
  | ((with_reducible refine' Wp.iteBnF ?h ?_); (case h => show isB _ _ = true; decide))
  | ((with_reducible refine' Wp.iteBt ?h ?_); (case h => show isB _ _ = true; decide))
  | ((with_reducible refine' Wp.iteBf ?h ?_); (case h => show isB _ _ = false; decide))
  | (with_reducible refine Wp.iteT' ?_)
  | (with_reducible refine Wp.iteF' ?_)
  | (with_reducible refine Wp.rNT_ ?_)
  | ((with_reducible refine Wp.lst ?_))
  | ((with_reducible refine Wp.tup ?_))
  | ((with_reducible refine' Wp.ixL ?h ?e ?_); (case h => walk_at "sq"); (case e => exact rfl))
  | ((with_reducible refine' Wp.ixT ?h ?e ?_); (case h => walk_at "sq"); (case e => exact rfl))
  | ((with_reducible refine' Wp.setL ?h ?e ?_); (case h => walk_at "hp"); (case e => exact rfl))
  | ((with_reducible refine Wp.rI_ ?k ?_); (case k => first | (show (0:Int) < _; omega) | (show CPow _ _; refine' ⟨?_, ?_, ?_⟩ <;> omega) | (show CDiv _ _; refine' ⟨?_, ?_⟩ <;> omega) | (show CMul _ _; refine' Or.inl ⟨?_, ?_⟩ <;> omega) | (show CMul _ _; refine' Or.inr ⟨?_, ?_⟩ <;> first | omega | decide) | (show CDivW _ _; refine' wide_div (b := 240) ?_ ?_ ?_ ?_ <;> first | omega | decide)))
  | ((with_reducible refine ⟨?k, ?_⟩); (case k => first | exact Nat.zero_le _ | (exact Nat.le_of_ble_eq_true rfl)); intro p hp)
  | ((with_reducible refine' ⟨_, _, rfl, .inl ?k, ?_⟩); (case k => walk_at "sq"))
  | ((with_reducible refine' ⟨_, _, rfl, .inr ?k, ?_⟩); (case k => walk_at "sq"))
  | (with_reducible refine ⟨_, rfl, ?_⟩)
  | (with_reducible refine ⟨_, _, rfl, rfl, ?_⟩)
  | (with_reducible refine ⟨_, _, rfl, ?_⟩))
local macro_rules | `(tactic| walk_at "wp") => `(tactic| repeat (walk_at "w1"))

section
variable {P : Program} {w : World} {K : PySem.W.Frag} {mg : Str → Option Value} {base : Heap}
def spWorth : Sp := fun vs H Q _ => ∃ (b : Addr) (n : Nat) (f : Int), vs = [.ref b, .int f] ∧ Bag H b n ∧ n < 800 ∧ ∀ v z H', IsW H' v z → Wok z → Bag H' b (n + 9) → Kp b H H' → Q v H'
theorem ok_worth (T : Txt P w K mg) : FnOk P w K mg base CX0 3 T.f_worth T.fd_worth ["bag", "few"] spWorth := by
  have G_draw := ok_draw (base := base) T
  have G_number := ok_number (base := base) T
  refine T.F_worth.ok sc_worth (fun vs H Q E h => ?_) (fun cdv A outer s H vs Q E hr h => ?_)
  · obtain ⟨b, n, f, rfl, _⟩ := h
    rfl
  · obtain ⟨b, n, f, rfl, hb, hn, k⟩ := h
    refine ⟨_, (pss_cons (ps_set (i := 2) sc_worth.nd rfl (.inl rfl) (pe_call G_draw (hr.mono (by decide)) (by rfl) T.g_draw T.F_draw.kp T.b_draw .nil pass0 (pa_cons (pv 0) (pa_cons pe_int pa_nil))))
      (pss_cons (ps_set (i := 3) sc_worth.nd rfl (.inl rfl) (pe_call G_draw (hr.mono (by decide)) (by rfl) T.g_draw T.F_draw.kp T.b_draw .nil pass0 (pa_cons (pv 0) (pa_cons pe_int pa_nil))))
      (pss_cons (ps_if (pt_cmpR op_eq (pv 1) pe_int (nomark _)) (pss_one (ps_set (i := 3) sc_worth.nd rfl (.inl rfl) (pe_call G_number (hr.mono (by decide)) (by rfl) T.g_number T.F_number.kp T.b_number .nil pass0 (pa_cons (pv 0) pa_nil)))) pss_nil)
      (pss_cons (ps_if (pt_cmpR op_eq (pv 2) pe_int (nomark _)) (pss_one (ps_ret (pe_tup (pa_cons pe_str (pa_cons (pe_un un_neg (pv 3)) pa_nil))))) pss_nil)
      (pss_one (ps_ret (pe_tup (pa_cons (pe_ix ix_list (pe_lst (pa_cons pe_str (pa_cons pe_str (pa_cons pe_str (pa_cons pe_str (pa_cons pe_str (pa_cons pe_str (pa_cons pe_str pa_nil)))))))) (pv 2) (fun _ _ => rfl)) (pa_cons (pv 3) pa_nil))))))))), ?_⟩
    rw [show L2.start ["bag", "few", "at", "number"] [.ref b, .int f] = [some (.ref b), some (.int f), none, none] from rfl]
    try dsimp only [cxOf]
    walk_at "wp"
    refine ⟨b, n, _, rfl, hb, by omega, by decide, by decide, fun at_ H1 a0 a1 hb1 k1 => ?_⟩
    walk_at "wp"
    refine ⟨b, n + 1, _, rfl, hb1, by omega, by decide, by decide, fun v1 H2 v0 v1' hb2 k2 => ?_⟩
    walk_at "wp"
    have fin : ∀ (v : Int) (H3 : Hp), Bag H3 b (n + 9) → Kp b H H3 → (tSeq (tIfS (tTest (tOp rEq (tVar 2) (tC (V.int 7)))) (tRet (tTup (tCons (tC (V.str (Str.ofString "num"))) (tCons (tUn (rU fun i => V.int (-i)) (tVar 3)) tNil)))) tNext)
        (tRet (tTup (tCons (tOp (rIxL K) (tLst (tCons (tC (V.str (Str.ofString "num"))) (tCons (tC (V.str (Str.ofString "at"))) (tCons (tC (V.str (Str.ofString "box"))) (tCons (tC (V.str (Str.ofString "go"))) (tCons (tC (V.str (Str.ofString "box"))) (tCons (tC (V.str (Str.ofString "go"))) (tCons (tC (V.str (Str.ofString "go"))) tNil)))))))) (tVar 2)) (tCons (tVar 3) tNil)))))
        { nx := fun x H' => Q V.non H', rt := Q } [some (.ref b), some (.int f), some (.int at_), some (.int v)] H3 := by
      intro v H3 hb3 kk
      walk_at "wp"
      refine ite_ (fun c => ?_) (fun c => ?_)
      · walk_at "wp"
        rename_i t ht
        exact k _ (Str.ofString "num", _) _ ⟨t, rfl, upd_same⟩ (show PyData.strOk (Str.ofString "num") = true by decide +kernel) (hb3.keep (same_new ht)) (Kp.trans kk (Kp.new ht))
      · have c7 : at_ ≠ 7 := fun e => c (by rw [e])
        walk_at "wp"
        rename_i l hl
        obtain ⟨wd, hwd, hw⟩ : ∃ wd : Str, atI [V.str (Str.ofString "num"), V.str (Str.ofString "at"), V.str (Str.ofString "box"), V.str (Str.ofString "go"), V.str (Str.ofString "box"), V.str (Str.ofString "go"), V.str (Str.ofString "go")] at_ = some (V.str wd) ∧ PyData.strOk wd = true := by
          have cc : at_ = 0 ∨ at_ = 1 ∨ at_ = 2 ∨ at_ = 3 ∨ at_ = 4 ∨ at_ = 5 ∨ at_ = 6 := by omega
          rcases cc with rfl | rfl | rfl | rfl | rfl | rfl | rfl <;> exact ⟨_, rfl, by decide +kernel⟩
        refine ixL (SqL.of upd_same) hwd ?_
        walk_at "wp"
        rename_i t ht
        have hb4 := hb3.keep (same_new (o := .lst [V.str (Str.ofString "num"), V.str (Str.ofString "at"), V.str (Str.ofString "box"), V.str (Str.ofString "go"), V.str (Str.ofString "box"), V.str (Str.ofString "go"), V.str (Str.ofString "go")]) hl)
        exact k _ (wd, _) _ ⟨t, rfl, upd_same⟩ hw (hb4.keep (same_new ht)) (Kp.trans kk (Kp.trans (Kp.new hl) (Kp.new ht)))
    refine ite_ (fun c => ?_) (fun c => ?_)
    · walk_at "wp"
      refine ⟨b, n + 2, rfl, hb2, by omega, fun v3 H3 v30 hb3 k3 => ?_⟩
      exact fin _ _ hb3 (Kp.trans k1 (Kp.trans k2 k3))
    · exact fin _ _ (hb2.mono (by omega)) (Kp.trans k1 k2)
def spThings (K : PySem.W.Frag) : Sp := fun vs H Q _ => ∃ (a : Addr) (xs : List V) (ws : List W), vs = [.ref a] ∧ SqL K H a xs ∧ Pile H xs ws ∧ (∀ z ∈ ws, Wok z) ∧ ws.length ≤ 1000 ∧
  ∀ p ys H', H p = none → H' p = some (.lst ys) → Pile H' ys (thingsM ws) → Same H H' → Q (.ref p) H'
theorem ok_things (T : Txt P w K mg) : FnOk P w K mg base CX0 1 T.f_things T.fd_things ["row"] (spThings K) := by
  refine T.F_things.ok sc_things (fun vs H Q E h => ?_) (fun cdv A outer s H vs Q E hr h => ?_)
  · obtain ⟨a, xs, ws, rfl, _⟩ := h
    rfl
  · obtain ⟨a, xs, ws, rfl, hS, hP, hok, hl, q⟩ := h
    refine ⟨_, (pss_cons (ps_set (i := 1) sc_things.nd rfl (.inl rfl) (pe_lst pa_nil))
      (pss_cons (ps_for PassesOwn.never rfl (pi_list (pv 0)) (pg_name (i := 2) sc_things.nd rfl (.inl rfl)) (pss_one (ps_if (PW.pt (pw_and (PW.pt (pw_or (pt_cmpR op_eq (pe_ix ix_tup (pv 2) pe_int (fun _ _ => rfl)) pe_str (nomark _)) (pw_or1 (pt_cmpR op_eq (pe_ix ix_tup (pv 2) pe_int (fun _ _ => rfl)) pe_str (nomark _))))) (pw_and1 (pt_cmpR (op_notInD (un65 hr)) (pv 2) (pv 1) (by rfl))))) (pss_one (ps_expr (pe_bm PySem.F.plainAttrs_list PySem.F.slot_list_append PySem.F.type_list_append mt_append (pv 1) (pa_cons (pv 2) pa_nil)))) pss_nil)))
      (pss_one (ps_ret (pv 1))))), ?_⟩
    rw [show L2.start ["row", "due", "worth"] [.ref a] = [some (.ref a), none, none] from rfl]
    try dsimp only [cxOf]
    walk_at "wp"
    rename_i d hd
    have s0 := same_new (o := .lst []) hd
    refine ⟨⟨xs, s0.seq hS⟩, loopL (xs := xs) (fun i σ H' => ∃ y2 ys, σ = [some (.ref a), some (.ref d), y2] ∧ Same H H' ∧ H' d = some (.lst ys) ∧ Pile H' ys ((ws.take i).foldl stepT [])) ⟨_, _, rfl, s0, upd_same, Pile.nil⟩ (fun i σ H' _ ⟨_, _, _, s, _⟩ => s.seq hS) ?_ ?_⟩
    · rintro i x σ H1 hi ⟨y2, ys, rfl, s1, h1, p1⟩
      obtain ⟨z, hz, hw⟩ := hP.get hi
      have hw1 := hw.keep (Same.tk s1)
      have hzok := hok z (List.mem_of_getElem? hz)
      have hacc : ∀ x ∈ (ws.take i).foldl stepT [], Wok x := fold_ok (fun _ h => nomatch h) fun x hx => hok x (List.mem_of_mem_take hx)
      have dw := hw1.dp (K := K)
      have da := p1.dp (K := K) (SqL.of h1)
      have hlen : ((ws.take i).foldl stepT []).length ≤ 1000 := by
        have := fold_len (ws := ws.take i) (acc := [])
        rw [List.length_take] at this
        simp at this
        omega
      obtain ⟨t, rfl, ht⟩ := id hw1
      have skip : isT z = false ∨ z ∈ (ws.take i).foldl stepT [] → (ws.take (i + 1)).foldl stepT [] = (ws.take i).foldl stepT [] := by
        intro h
        rw [take_fold hz]
        unfold stepT
        rw [if_neg]
        rintro ⟨h1, h2⟩
        rcases h with h | h
        · rw [h] at h1; exact Bool.false_ne_true h1
        · exact h2 h
      walk_at "wp"
      refine ite_ (fun c => ?_) (fun c => ?_)
      · have hT : isT z = true := by
          rw [isT_eq]
          rw [decide_eq_true (V.str.inj c)] <;> rfl
        walk_at "wp"
        refine ⟨_, _, dw, da, wD_shaped hzok, wDs_shaped hacc, ?_⟩
        rw [any_wD]
        walk_at "wp"
        refine iteN (fun n => ?_) (fun n => ?_)
        · walk_at "wp"
          have hyl : ys.length ≤ 1000 := by rw [p1.len]; exact hlen
          refine app_ h1 (small1000 hyl) ?_
          walk_at "wp"
          refine ⟨_, _, rfl, ?_, upd_same, ?_⟩
          · intro c o hc
            rw [upd_ne (ne_of_none hc hd)]
            exact s1 _ _ hc
          · rw [take_fold hz]
            unfold stepT
            rw [if_pos ⟨hT, n⟩]
            exact (Pile.app p1 (Pile.one hw1)).keep (Tk.lst h1)
        · walk_at "wp"
          rw [skip (.inr n)]
          exact ⟨_, _, rfl, s1, h1, p1⟩
      · walk_at "wp"
        refine ite_ (fun c2 => ?_) (fun c2 => ?_)
        · have hT : isT z = true := by
            rw [isT_eq]
            rw [decide_eq_true (V.str.inj c2), Bool.or_true]
          walk_at "wp"
          refine ⟨_, _, dw, da, wD_shaped hzok, wDs_shaped hacc, ?_⟩
          rw [any_wD]
          walk_at "wp"
          refine iteN (fun n => ?_) (fun n => ?_)
          · walk_at "wp"
            have hyl : ys.length ≤ 1000 := by rw [p1.len]; exact hlen
            refine app_ h1 (small1000 hyl) ?_
            walk_at "wp"
            refine ⟨_, _, rfl, ?_, upd_same, ?_⟩
            · intro c o hc
              rw [upd_ne (ne_of_none hc hd)]
              exact s1 _ _ hc
            · rw [take_fold hz]
              unfold stepT
              rw [if_pos ⟨hT, n⟩]
              exact (Pile.app p1 (Pile.one hw1)).keep (Tk.lst h1)
          · walk_at "wp"
            rw [skip (.inr n)]
            exact ⟨_, _, rfl, s1, h1, p1⟩
        · have hT : isT z = false := by
            rw [isT_eq, decide_eq_false (fun h => c (by rw [h])), decide_eq_false (fun h => c2 (by rw [h]))] <;> rfl
          walk_at "wp"
          rw [skip (.inl hT)]
          exact ⟨_, _, rfl, s1, h1, p1⟩
    · rintro σ H1 ⟨y2, ys, rfl, s1, h1, p1⟩
      walk_at "wp"
      rw [hP.len, List.take_of_length_le (Nat.le_refl _)] at p1
      exact q _ _ _ hd h1 p1 s1
def spLaw (K : PySem.W.Frag) : Sp := fun vs H Q _ => ∃ (a : Addr) (ns : List Int), vs = [.ref a] ∧ SqL K H a (ns.map V.int) ∧ ns.length ≤ 63 ∧ ∀ H', Q (.bl true) H'
theorem ok_law (T : Txt P w K mg) : FnOk P w K mg base CX0 4 T.f_law T.fd_law ["script"] (spLaw K) := by
  have G_cell_at := ok_cell_at (base := base) T
  have G_bag := ok_bag (base := base) T
  have G_draw := ok_draw (base := base) T
  have G_worth := ok_worth (base := base) T
  have G_things := ok_things (base := base) T
  have G_things_of := ok_things_of (base := base) T
  have G_same_pile := ok_same_pile (base := base) T
  refine T.F_law.ok sc_law (fun vs H Q E h => ?_) (fun cdv A outer s H vs Q E hr h => ?_)
  · obtain ⟨a, ns, rfl, _⟩ := h
    rfl
  · obtain ⟨a, ns, rfl, hS, hl, q⟩ := h
    refine ⟨_, (pss_cons (ps_set (i := 1) sc_law.nd rfl (.inl rfl) (pe_lst pa_nil))
      (pss_cons (ps_set (i := 2) sc_law.nd rfl (.inl rfl) pe_int)
      (pss_cons (ps_for PassesOwn.never rfl (pi_range1 (by rfl) T.n_range (pa_cons (pe_callB (call_max2 rfl) (by rfl) T.n_max (by decide +kernel) (pa_cons pe_int (pa_cons (pe_callB (call_min2 rfl) (by rfl) T.n_min (by decide +kernel) (pa_cons pe_int (pa_cons (pe_callB call_len_seq (by rfl) T.n_len (by decide +kernel) (pa_cons (pv 0) pa_nil)) pa_nil))) pa_nil))) pa_nil)) (pg_name (i := 3) sc_law.nd rfl (.inl rfl)) (pss_cons (ps_set (i := 4) sc_law.nd rfl (.inl rfl) (pe_call G_bag (hr.mono (by decide)) (by rfl) T.g_bag T.F_bag.kp T.b_bag .nil pass0 (pa_cons (pe_call G_cell_at (hr.mono (by decide)) (by rfl) T.g_cell_at T.F_cell_at.kp T.b_cell_at .nil pass0 (pa_cons (pv 0) (pa_cons (pv 3) pa_nil))) (pa_cons (pv 3) pa_nil))))
      (C8.pss_cut (ps_if (pt_cmpR op_eq (pv 3) pe_int (nomark _)) (pss_one (ps_set (i := 2) sc_law.nd rfl (.inl rfl) (pe_call G_draw (hr.mono (by decide)) (by rfl) T.g_draw T.F_draw.kp T.b_draw .nil pass0 (pa_cons (pv 4) (pa_cons pe_int pa_nil))))) pss_nil)
      (pss_one (ps_for PassesOwn.never rfl (pi_range1 (by rfl) T.n_range (pa_cons (pe_call G_draw (hr.mono (by decide)) (by rfl) T.g_draw T.F_draw.kp T.b_draw .nil pass0 (pa_cons (pv 4) (pa_cons pe_int pa_nil))) pa_nil)) (pg_name (i := 5) sc_law.nd rfl (.inl rfl)) (pss_one (ps_expr (pe_bm PySem.F.plainAttrs_list PySem.F.slot_list_append PySem.F.type_list_append mt_append (pv 1) (pa_cons (pe_call G_worth (hr.mono (by decide)) (by rfl) T.g_worth T.F_worth.kp T.b_worth .nil pass0 (pa_cons (pv 4) (pa_cons (pv 2) pa_nil))) pa_nil)))))))))
      (pss_cons (ps_set (i := 1) sc_law.nd rfl (.inl rfl) (pe_slice sl_list (pv 1) po_none (po_some pe_int)))
      (pss_cons (ps_set (i := 6) sc_law.nd rfl (.inl rfl) (pe_call G_things (hr.mono (by decide)) (by rfl) T.g_things T.F_things.kp T.b_things .nil pass0 (pa_cons (pv 1) pa_nil)))
      (pss_cons (ps_set (i := 7) sc_law.nd rfl (.inl rfl) (pe_callTy call_list_of (by rfl) T.n_list (by decide +kernel) (pa_cons (pv 1) pa_nil)))
      (pss_cons (ps_set (i := 8) sc_law.nd rfl (.inl rfl) (pe_call G_things_of (hr.mono (by decide)) (by rfl) T.g_things_of T.F_things_of.kp T.b_things_of .nil pass0 (pa_cons (pv 7) pa_nil)))
      (pss_cons (ps_if (pt_not (pt_val (pe_call G_same_pile (hr.mono (by decide)) (by rfl) T.g_same_pile T.F_same_pile.kp T.b_same_pile .nil pass0 (pa_cons (pv 8) (pa_cons (pv 6) pa_nil))))) (pss_one (ps_ret pe_bl)) pss_nil)
      (pss_cons (ps_expr (pe_bm PySem.F.plainAttrs_list PySem.F.slot_list_append PySem.F.type_list_append mt_append (pv 8) (pa_cons (pe_tup (pa_cons pe_str (pa_cons pe_int pa_nil))) pa_nil)))
      (pss_cons (ps_expr (pe_bm0 PySem.F.plainAttrs_list PySem.F.slot_list_reverse PySem.F.type_list_reverse mt_reverse (pv 8)))
      (pss_cons (ps_if (PW.pt (pw_or (pt_not (pt_val (pe_call G_same_pile (hr.mono (by decide)) (by rfl) T.g_same_pile T.F_same_pile.kp T.b_same_pile .nil pass0 (pa_cons (pe_call G_things_of (hr.mono (by decide)) (by rfl) T.g_things_of T.F_things_of.kp T.b_things_of .nil pass0 (pa_cons (pv 7) pa_nil)) (pa_cons (pv 6) pa_nil))))) (pw_or1 (pt_cmpR (op_neD hr.units) (pv 7) (pv 1) (nomark _))))) (pss_one (ps_ret pe_bl)) pss_nil)
      (pss_one (ps_ret (pe_call G_same_pile (hr.mono (by decide)) (by rfl) T.g_same_pile T.F_same_pile.kp T.b_same_pile .nil pass0 (pa_cons (pe_call G_things_of (hr.mono (by decide)) (by rfl) T.g_things_of T.F_things_of.kp T.b_things_of .nil pass0 (pa_cons (pe_op op_cat (pe_slice sl_list (pv 1) po_none (po_some pe_int)) (pe_slice sl_list (pv 1) po_none (po_some pe_int))) pa_nil)) (pa_cons (pe_call G_things (hr.mono (by decide)) (by rfl) T.g_things T.F_things.kp T.b_things .nil pass0 (pa_cons (pe_slice sl_list (pv 1) po_none (po_some pe_int)) pa_nil)) pa_nil)))))))))))))))), ?_⟩
    rw [show L2.start ["script", "row", "few", "k", "bag", "j", "due", "handed", "found"] [.ref a] = [some (.ref a), none, none, none, none, none, none, none, none] from rfl]
    try dsimp only [cxOf]
    walk_at "wp"
    rename_i r hr0
    have s0 := same_new (o := .lst []) hr0
    have hS0 := s0.seq hS
    walk_at "wp"
    generalize hN : (if (if ((ns.map V.int).length : Int) < 50 then ((ns.map V.int).length : Int) else 50) > 1 then (if ((ns.map V.int).length : Int) < 50 then ((ns.map V.int).length : Int) else 50) else 1) = N
    have hN1 : N ≤ 50 := by
      rw [← hN]
      split <;> (try split) <;> omega
    have hN0 : 0 ≤ N := by
      rw [← hN]
      split <;> (try split) <;> omega
    refine ⟨by omega, by omega, loopR (fun i σ H' => ∃ f y3 y4 y5 xs ws, σ = [some (.ref a), some (.ref r), some (.int f), y3, y4, y5, none, none, none] ∧ Same H H' ∧ H' r = some (.lst xs) ∧ Pile H' xs ws ∧ (∀ z ∈ ws, Wok z) ∧ ws.length ≤ 10 * i)
      ⟨_, _, _, _, _, _, rfl, s0, upd_same, Pile.nil, (fun _ h => nomatch h), Nat.le_refl _⟩ ?_ ?_⟩
    · rintro i σ H1 hi ⟨f, y3, y4, y5, xs, ws, rfl, s1, h1, p1, ok1, l1⟩
      rw [Int.zero_add]
      walk_at "wp"
      refine ⟨a, ns, i, rfl, s1.seq hS, fun c => ?_⟩
      walk_at "wp"
      refine ⟨c, i, rfl, by omega, fun b H2 nb hb2 s2 => ?_⟩
      walk_at "wp"
      have hbr : r ≠ b := ne_of_none h1 nb
      refine Wp.cut (fun σ' H' => ∃ f', σ' = [some (.ref a), some (.ref r), some (.int f'), some (.int i), some (.ref b), y5, none, none, none] ∧ Bag H' b 1 ∧ Kp b H2 H') ?_ ?_
      · walk_at "wp"
        refine ite_ (fun c => ?_) (fun c => ?_)
        · walk_at "wp"
          refine ⟨b, 0, _, rfl, hb2, by omega, by decide, by decide, fun v H3 v0 v1 hb3 k3 => ?_⟩
          walk_at "wp"
          exact ⟨hb3, k3⟩
        · walk_at "wp"
          exact ⟨hb2.mono (by omega), Kp.refl _ _⟩
      · rintro σ' H3 ⟨f', rfl, hb3, k3⟩
        walk_at "wp"
        refine ⟨b, 1, _, rfl, hb3, by omega, by decide, by decide, fun m H4 m0 m1 hb4 k4 => ?_⟩
        have kk := Kp.trans k3 k4
        have tk2 : Tk H1 H4 := (Same.tk s2).trans (by obtain ⟨x, y, z, e, _⟩ := hb2; exact Kp.tk kk e)
        have sm4 : Same H H4 := fun c o hc => kk _ _ (ne_of_none (s1 _ _ hc) nb) (s2 _ _ (s1 _ _ hc))
        walk_at "wp"
        refine ⟨by omega, by omega, loopR (fun j σ H' => ∃ y5 xs ws, σ = [some (.ref a), some (.ref r), some (.int f'), some (.int i), some (.ref b), y5, none, none, none] ∧ Same H H' ∧ H' r = some (.lst xs) ∧ Pile H' xs ws ∧ (∀ z ∈ ws, Wok z) ∧ ws.length ≤ 10 * i + j ∧ Bag H' b (2 + 9 * j))
          ⟨_, _, _, rfl, sm4, kk _ _ hbr (s2 _ _ h1), p1.keep tk2, ok1, l1, hb4⟩ ?_ ?_⟩
        · rintro j σ H5 hj ⟨y5, xs5, ws5, rfl, s5, h5, p5, ok5, l5, hb5⟩
          have hj10 : j < 10 := by omega
          rw [Int.zero_add]
          walk_at "wp"
          refine ⟨b, 2 + 9 * j, f', rfl, hb5, by omega, fun v z H6 wz oz hb6 k6 => ?_⟩
          have tk6 : Tk H5 H6 := by obtain ⟨x, y, z, e, _⟩ := hb5; exact Kp.tk k6 e
          have hr6 := k6 _ _ hbr h5
          walk_at "wp"
          refine app_ hr6 ?_ ?_
          · rw [p5.len]
            exact small1000 (by omega)
          · walk_at "wp"
            refine ⟨_, _, _, rfl, fun c o hc => ?_, upd_same, (Pile.app (p5.keep tk6) (Pile.one wz)).keep (Tk.lst hr6), ?_, ?_, ?_⟩
            · rw [upd_ne (ne_of_none hc hr0)]
              exact k6 _ _ (ne_of_none (s1 _ _ hc) nb) (s5 _ _ hc)
            · intro x hx
              rcases List.mem_append.mp hx with hx | hx
              · exact ok5 x hx
              · rw [List.mem_singleton.mp hx]; exact oz
            · rw [List.length_append]
              show ws5.length + 1 ≤ _
              omega
            · obtain ⟨x, y, z, e, rest⟩ := hb6
              exact Bag.mono ⟨x, y, z, by rw [upd_ne hbr.symm]; exact e, rest⟩ (by omega)
        · rintro σ H5 ⟨y5, xs5, ws5, rfl, s5, h5, p5, ok5, l5, hb5⟩
          walk_at "wp"
          refine ⟨_, _, _, _, _, _, rfl, s5, h5, p5, ok5, ?_⟩
          have hm10 : m.toNat ≤ 9 := by omega
          omega
    · rintro σ H1 ⟨f, y3, y4, y5, xs, ws, rfl, s1, h1, p1, ok1, l1⟩
      have hN50 : N.toNat ≤ 50 := by omega
      walk_at "wp"
      refine slL (SqL.of h1) fun r2 hr2 => ?_
      rw [show cutV xs none (some 400) = xs.take 400 from cut_take (n := 400)]
      have sa := same_new (o := .lst (xs.take 400)) hr2
      have pa : Pile _ (xs.take 400) (ws.take 400) := (p1.take 400).keep (Same.tk sa)
      have oka : ∀ z ∈ ws.take 400, Wok z := fun z hz => ok1 z (List.mem_of_mem_take hz)
      have la : (ws.take 400).length ≤ 400 := List.length_take_le _ _
      have ha : upd H1 r2 (.lst (xs.take 400)) r2 = some (.lst (xs.take 400)) := upd_same
      generalize ws.take 400 = ws2 at pa oka la
      generalize xs.take 400 = xs2 at pa ha
      generalize upd H1 r2 (.lst xs2) = Ha at pa ha
      walk_at "wp"
      have okt : ∀ z ∈ thingsM ws2, Wok z := fold_ok (fun _ h => nomatch h) oka
      have lt : (thingsM ws2).length ≤ 100000 := by
        have := fold_len (ws := ws2) (acc := [])
        simp at this
        show (ws2.foldl stepT []).length ≤ 100000
        omega
      refine ⟨r2, xs2, ws2, rfl, SqL.of ha, pa, oka, by omega, fun d yd Hb hd hbd pd sb => ?_⟩
      have hr2b := sb _ _ ha
      walk_at "wp"
      intro h hh
      have sc := same_new (o := .lst xs2) hh
      have hc : upd Hb h (.lst xs2) h = some (.lst xs2) := upd_same
      have hr2c := sc _ _ hr2b
      have hdc := sc _ _ hbd
      have pc := (pa.keep (Same.tk sb)).keep (Same.tk sc)
      have pdc := pd.keep (Same.tk sc)
      generalize upd Hb h (.lst xs2) = Hc at sc hc hr2c hdc pc pdc
      walk_at "wp"
      refine ⟨h, xs2, ws2, rfl, SqL.of hc, pc, by omega, fun p yf Hd hp hpd pf sd => ?_⟩
      have hr2d := sd _ _ hr2c
      have hhd := sd _ _ hc
      have hdd := sd _ _ hdc
      have pdd := pdc.keep (Same.tk sd)
      have pcd := pc.keep (Same.tk sd)
      have npd : d ≠ p := ne_of_none hdc hp
      have nph : h ≠ p := ne_of_none hc hp
      have npr : r2 ≠ p := ne_of_none hr2c hp
      walk_at "wp"
      refine ⟨p, d, yf, yd, thingsM ws2, rfl, hpd, hdd, pf, pdd, okt, lt, ?_⟩
      walk_at "wp"
      rename_i t ht
      have se := same_new (o := .tup [V.str (Str.ofString "box"), V.int 0]) ht
      have hpe := se _ _ hpd
      have lf : yf.length ≤ 1000 := by
        have := pf.len
        have := fold_len (ws := ws2) (acc := [])
        simp at this
        have e : (thingsM ws2).length = (ws2.foldl stepT []).length := rfl
        omega
      refine app_ hpe (small1000 lf) ?_
      walk_at "wp"
      have kf : ∀ {b : Addr} {o : HO}, b ≠ p → Hd b = some o → upd (upd (upd Hd t (.tup [V.str (Str.ofString "box"), V.int 0])) p (.lst (yf ++ [V.ref t]))) p (.lst (yf ++ [V.ref t]).reverse) b = some o := fun n e => by
        rw [upd_ne n, upd_ne n]
        exact se _ _ e
      have tf : Tk Hd (upd (upd (upd Hd t (.tup [V.str (Str.ofString "box"), V.int 0])) p (.lst (yf ++ [V.ref t]))) p (.lst (yf ++ [V.ref t]).reverse)) :=
        (Same.tk se).trans ((Tk.lst hpe).trans (Tk.lst upd_same))
      have hr2f := kf npr hr2d
      have hhf := kf nph hhd
      have hdf := kf npd hdd
      have pdf := pdd.keep tf
      have pcf := pcd.keep tf
      generalize upd (upd (upd Hd t (.tup [V.str (Str.ofString "box"), V.int 0])) p (.lst (yf ++ [V.ref t]))) p (.lst (yf ++ [V.ref t]).reverse) = Hf at hr2f hhf hdf pdf pcf
      refine ⟨h, xs2, ws2, rfl, SqL.of hhf, pcf, by omega, fun g yg Hg hg hgg pg sg => ?_⟩
      have hr2g := sg _ _ hr2f
      have hhg := sg _ _ hhf
      have hdg := sg _ _ hdf
      have pdg := pdf.keep (Same.tk sg)
      have pcg := pcf.keep (Same.tk sg)
      walk_at "wp"
      refine ⟨g, d, yg, yd, thingsM ws2, rfl, hgg, hdg, pg, pdg, okt, lt, ?_⟩
      walk_at "wp"
      refine neD (pcg.dp (SqL.of hhg)) (pcg.dp (SqL.of hr2g)) (wDs_shaped oka) (Wq.eq_self (wDs_shaped oka)) ?_
      walk_at "wp"
      have e200 : ∀ l : List V, cutV l none (some 200) = l.take 200 := fun l => cut_take (n := 200)
      refine slL (SqL.of hr2g) fun s1' hs1 => ?_
      rw [e200]
      have t1 := same_new (o := .lst (xs2.take 200)) hs1
      walk_at "wp"
      refine slL (SqL.of (t1 _ _ hr2g)) fun s2' hs2 => ?_
      rw [e200]
      have t2 := same_new (o := .lst (xs2.take 200)) hs2
      have p3 : Pile _ (xs2.take 200) (ws2.take 200) := (pcg.take 200).keep (Same.tk (t1.trans t2))
      have l3 : (ws2.take 200).length ≤ 200 := List.length_take_le _ _
      have l4 : (xs2.take 200).length ≤ 200 := List.length_take_le _ _
      refine cat_ (t2 _ _ upd_same) upd_same (Nat.le_trans (Nat.add_le_add l4 l4) (by decide)) fun c hc' => ?_
      have t3 := same_new (o := .lst (xs2.take 200 ++ xs2.take 200)) hc'
      have p4 := (Pile.app p3 p3).keep (Same.tk t3)
      have hr3 := t3 _ _ (t2 _ _ (t1 _ _ hr2g))
      have p2g := pcg.keep (Same.tk (t1.trans (t2.trans t3)))
      walk_at "wp"
      refine ⟨c, _, _, rfl, SqL.of upd_same, p4, by rw [List.length_append]; omega, fun u yu Hu hu huu pu su => ?_⟩
      have hr4 := su _ _ hr3
      walk_at "wp"
      refine slL (SqL.of hr4) fun s3' hs3 => ?_
      rw [e200]
      have t4 := same_new (o := .lst (xs2.take 200)) hs3
      walk_at "wp"
      have p5 : Pile _ (xs2.take 200) (ws2.take 200) := (p2g.take 200).keep (Same.tk (su.trans t4))
      refine ⟨s3', _, _, rfl, SqL.of upd_same, p5, fun z hz => oka z (List.mem_of_mem_take hz), by omega, fun x yx Hx hx hxx px sx => ?_⟩
      walk_at "wp"
      rw [things_twice] at pu
      refine ⟨u, x, yu, yx, thingsM (ws2.take 200), rfl, sx _ _ (t4 _ _ huu), hxx, (pu.keep (Same.tk t4)).keep (Same.tk sx), px, fold_ok (fun _ h => nomatch h) (fun z hz => oka z (List.mem_of_mem_take hz)), ?_, ?_⟩
      · have := fold_len (ws := ws2.take 200) (acc := [])
        simp at this
        show ((ws2.take 200).foldl stepT []).length ≤ 100000
        omega
      · walk_at "wp"
        exact q _
end
/-! ### what the top has written; the law's own head -/
theorem all_mk {l : PySem.W.OpenLaw} {w : World} {K : PySem.W.Frag} {h : Heap} {mg : Str → Option Value} {fa : Addr} (X : K.In h) (G : h.Ns mainGlobals mg) (hfa : mg "law" = some (.ref fa))
    {f0 : Addr} {od0 an0 : Option Addr} {sl0 : Array (Option Value)} {oc0 kV0 dc0 pm0 cd0 ct0 : Value}
    (a0 : PySem.W.nsIn K mainGlobals "is_thing" = some (some (.ref f0))) (l0 : K.lookup f0 = some ⟨oc0, od0, .func (PySem.W.fnOf "is_thing" "is_thing" (defArgs s_is_thing) (defBody s_is_thing) (defScope s_is_thing) .none kV0 dc0 pm0 an0 cd0 ct0), sl0⟩) (c0 : PySem.W.codeIn K cd0 "is_thing" = true) (k0 : PySem.W.keepIn K (.ref f0) = true)
    {f1 : Addr} {od1 an1 : Option Addr} {sl1 : Array (Option Value)} {oc1 kV1 dc1 pm1 cd1 ct1 : Value}
    (a1 : PySem.W.nsIn K mainGlobals "things_of" = some (some (.ref f1))) (l1 : K.lookup f1 = some ⟨oc1, od1, .func (PySem.W.fnOf "things_of" "things_of" (defArgs s_things_of) (defBody s_things_of) (defScope s_things_of) .none kV1 dc1 pm1 an1 cd1 ct1), sl1⟩) (c1 : PySem.W.codeIn K cd1 "things_of" = true) (k1 : PySem.W.keepIn K (.ref f1) = true)
    {f2 : Addr} {od2 an2 : Option Addr} {sl2 : Array (Option Value)} {oc2 kV2 dc2 pm2 cd2 ct2 : Value}
    (a2 : PySem.W.nsIn K mainGlobals "_law_cell_at" = some (some (.ref f2))) (l2 : K.lookup f2 = some ⟨oc2, od2, .func (PySem.W.fnOf "_law_cell_at" "_law_cell_at" (defArgs s_cell_at) (defBody s_cell_at) (defScope s_cell_at) .none kV2 dc2 pm2 an2 cd2 ct2), sl2⟩) (c2 : PySem.W.codeIn K cd2 "_law_cell_at" = true) (k2 : PySem.W.keepIn K (.ref f2) = true)
    {f3 : Addr} {od3 an3 : Option Addr} {sl3 : Array (Option Value)} {oc3 kV3 dc3 pm3 cd3 ct3 : Value}
    (a3 : PySem.W.nsIn K mainGlobals "_law_bag" = some (some (.ref f3))) (l3 : K.lookup f3 = some ⟨oc3, od3, .func (PySem.W.fnOf "_law_bag" "_law_bag" (defArgs s_bag) (defBody s_bag) (defScope s_bag) .none kV3 dc3 pm3 an3 cd3 ct3), sl3⟩) (c3 : PySem.W.codeIn K cd3 "_law_bag" = true) (k3 : PySem.W.keepIn K (.ref f3) = true)
    {f4 : Addr} {od4 an4 : Option Addr} {sl4 : Array (Option Value)} {oc4 kV4 dc4 pm4 cd4 ct4 : Value}
    (a4 : PySem.W.nsIn K mainGlobals "_law_draw" = some (some (.ref f4))) (l4 : K.lookup f4 = some ⟨oc4, od4, .func (PySem.W.fnOf "_law_draw" "_law_draw" (defArgs s_draw) (defBody s_draw) (defScope s_draw) .none kV4 dc4 pm4 an4 cd4 ct4), sl4⟩) (c4 : PySem.W.codeIn K cd4 "_law_draw" = true) (k4 : PySem.W.keepIn K (.ref f4) = true)
    {f5 : Addr} {od5 an5 : Option Addr} {sl5 : Array (Option Value)} {oc5 kV5 dc5 pm5 cd5 ct5 : Value}
    (a5 : PySem.W.nsIn K mainGlobals "_law_number" = some (some (.ref f5))) (l5 : K.lookup f5 = some ⟨oc5, od5, .func (PySem.W.fnOf "_law_number" "_law_number" (defArgs s_number) (defBody s_number) (defScope s_number) .none kV5 dc5 pm5 an5 cd5 ct5), sl5⟩) (c5 : PySem.W.codeIn K cd5 "_law_number" = true) (k5 : PySem.W.keepIn K (.ref f5) = true)
    {f6 : Addr} {od6 an6 : Option Addr} {sl6 : Array (Option Value)} {oc6 kV6 dc6 pm6 cd6 ct6 : Value}
    (a6 : PySem.W.nsIn K mainGlobals "_law_whole" = some (some (.ref f6))) (l6 : K.lookup f6 = some ⟨oc6, od6, .func (PySem.W.fnOf "_law_whole" "_law_whole" (defArgs s_whole) (defBody s_whole) (defScope s_whole) .none kV6 dc6 pm6 an6 cd6 ct6), sl6⟩) (c6 : PySem.W.codeIn K cd6 "_law_whole" = true) (k6 : PySem.W.keepIn K (.ref f6) = true)
    {f7 : Addr} {od7 an7 : Option Addr} {sl7 : Array (Option Value)} {oc7 kV7 dc7 pm7 cd7 ct7 : Value}
    (a7 : PySem.W.nsIn K mainGlobals "_law_same" = some (some (.ref f7))) (l7 : K.lookup f7 = some ⟨oc7, od7, .func (PySem.W.fnOf "_law_same" "_law_same" (defArgs s_same) (defBody s_same) (defScope s_same) .none kV7 dc7 pm7 an7 cd7 ct7), sl7⟩) (c7 : PySem.W.codeIn K cd7 "_law_same" = true) (k7 : PySem.W.keepIn K (.ref f7) = true)
    {f8 : Addr} {od8 an8 : Option Addr} {sl8 : Array (Option Value)} {oc8 kV8 dc8 pm8 cd8 ct8 : Value}
    (a8 : PySem.W.nsIn K mainGlobals "_law_same_pile" = some (some (.ref f8))) (l8 : K.lookup f8 = some ⟨oc8, od8, .func (PySem.W.fnOf "_law_same_pile" "_law_same_pile" (defArgs s_same_pile) (defBody s_same_pile) (defScope s_same_pile) .none kV8 dc8 pm8 an8 cd8 ct8), sl8⟩) (c8 : PySem.W.codeIn K cd8 "_law_same_pile" = true) (k8 : PySem.W.keepIn K (.ref f8) = true)
    {f9 : Addr} {od9 an9 : Option Addr} {sl9 : Array (Option Value)} {oc9 kV9 dc9 pm9 cd9 ct9 : Value}
    (a9 : PySem.W.nsIn K mainGlobals "_law_worth" = some (some (.ref f9))) (l9 : K.lookup f9 = some ⟨oc9, od9, .func (PySem.W.fnOf "_law_worth" "_law_worth" (defArgs s_worth) (defBody s_worth) (defScope s_worth) .none kV9 dc9 pm9 an9 cd9 ct9), sl9⟩) (c9 : PySem.W.codeIn K cd9 "_law_worth" = true) (k9 : PySem.W.keepIn K (.ref f9) = true)
    {f10 : Addr} {od10 an10 : Option Addr} {sl10 : Array (Option Value)} {oc10 kV10 dc10 pm10 cd10 ct10 : Value}
    (a10 : PySem.W.nsIn K mainGlobals "_law_things" = some (some (.ref f10))) (l10 : K.lookup f10 = some ⟨oc10, od10, .func (PySem.W.fnOf "_law_things" "_law_things" (defArgs s_things) (defBody s_things) (defScope s_things) .none kV10 dc10 pm10 an10 cd10 ct10), sl10⟩) (c10 : PySem.W.codeIn K cd10 "_law_things" = true) (k10 : PySem.W.keepIn K (.ref f10) = true)
    {f11 : Addr} {od11 an11 : Option Addr} {sl11 : Array (Option Value)} {oc11 kV11 dc11 pm11 cd11 ct11 : Value}
    (a11 : PySem.W.nsIn K mainGlobals "law" = some (some (.ref f11))) (l11 : K.lookup f11 = some ⟨oc11, od11, .func (PySem.W.fnOf "law" "law" (defArgs s_law) (defBody s_law) (defScope s_law) .none kV11 dc11 pm11 an11 cd11 ct11), sl11⟩) (c11 : PySem.W.codeIn K cd11 "law" = true) (k11 : PySem.W.keepIn K (.ref f11) = true)
    (z_bool : PySem.W.nsIn K mainGlobals "bool" = some none)
    (z_int : PySem.W.nsIn K mainGlobals "int" = some none)
    (z_isinstance : PySem.W.nsIn K mainGlobals "isinstance" = some none)
    (z_len : PySem.W.nsIn K mainGlobals "len" = some none)
    (z_list : PySem.W.nsIn K mainGlobals "list" = some none)
    (z_max : PySem.W.nsIn K mainGlobals "max" = some none)
    (z_min : PySem.W.nsIn K mainGlobals "min" = some none)
    (z_range : PySem.W.nsIn K mainGlobals "range" = some none)
    (z_str : PySem.W.nsIn K mainGlobals "str" = some none)
    (z_tuple : PySem.W.nsIn K mainGlobals "tuple" = some none)
    : ∃ fd : FuncData, (∀ (s : Shared) (v : Value), BindsTo s fd ⟨[v], []⟩ [("script", v)]) ∧ ∀ base : Heap, K.In base → base.Ns mainGlobals mg → FnOk l.prog w K mg base CX0 4 fa fd ["script"] (spLaw K) := by
  have e := hfa.symm.trans (PySem.W.mg_of X G a11)
  cases e
  have F0 := fun_mk (st := s_is_thing) l0 c0 k0
  have F1 := fun_mk (st := s_things_of) l1 c1 k1
  have F2 := fun_mk (st := s_cell_at) l2 c2 k2
  have F3 := fun_mk (st := s_bag) l3 c3 k3
  have F4 := fun_mk (st := s_draw) l4 c4 k4
  have F5 := fun_mk (st := s_number) l5 c5 k5
  have F6 := fun_mk (st := s_whole) l6 c6 k6
  have F7 := fun_mk (st := s_same) l7 c7 k7
  have F8 := fun_mk (st := s_same_pile) l8 c8 k8
  have F9 := fun_mk (st := s_worth) l9 c9 k9
  have F10 := fun_mk (st := s_things) l10 c10 k10
  have F11 := fun_mk (st := s_law) l11 c11 k11
  let T : Txt l.prog w K mg := {
    f_is_thing := f0,
    fd_is_thing := _,
    F_is_thing := F0,
    b_is_thing := F0.binds (ps := ["worth"]) fun _ _ _ _ _ _ us hl => match us, hl with | [_], _ => rfl,
    g_is_thing := PySem.W.mg_of X G a0,
    f_things_of := f1,
    fd_things_of := _,
    F_things_of := F1,
    b_things_of := F1.binds (ps := ["worths"]) fun _ _ _ _ _ _ us hl => match us, hl with | [_], _ => rfl,
    g_things_of := PySem.W.mg_of X G a1,
    f_cell_at := f2,
    fd_cell_at := _,
    F_cell_at := F2,
    b_cell_at := F2.binds (ps := ["script", "k"]) fun _ _ _ _ _ _ us hl => match us, hl with | [_, _], _ => rfl,
    g_cell_at := PySem.W.mg_of X G a2,
    f_bag := f3,
    fd_bag := _,
    F_bag := F3,
    b_bag := F3.binds (ps := ["cell", "place"]) fun _ _ _ _ _ _ us hl => match us, hl with | [_, _], _ => rfl,
    g_bag := PySem.W.mg_of X G a3,
    f_draw := f4,
    fd_draw := _,
    F_draw := F4,
    b_draw := F4.binds (ps := ["bag", "many"]) fun _ _ _ _ _ _ us hl => match us, hl with | [_, _], _ => rfl,
    g_draw := PySem.W.mg_of X G a4,
    f_number := f5,
    fd_number := _,
    F_number := F5,
    b_number := F5.binds (ps := ["bag"]) fun _ _ _ _ _ _ us hl => match us, hl with | [_], _ => rfl,
    g_number := PySem.W.mg_of X G a5,
    f_whole := f6,
    fd_whole := _,
    F_whole := F6,
    b_whole := F6.binds (ps := ["found"]) fun _ _ _ _ _ _ us hl => match us, hl with | [_], _ => rfl,
    g_whole := PySem.W.mg_of X G a6,
    f_same := f7,
    fd_same := _,
    F_same := F7,
    b_same := F7.binds (ps := ["found", "due"]) fun _ _ _ _ _ _ us hl => match us, hl with | [_, _], _ => rfl,
    g_same := PySem.W.mg_of X G a7,
    f_same_pile := f8,
    fd_same_pile := _,
    F_same_pile := F8,
    b_same_pile := F8.binds (ps := ["found", "due"]) fun _ _ _ _ _ _ us hl => match us, hl with | [_, _], _ => rfl,
    g_same_pile := PySem.W.mg_of X G a8,
    f_worth := f9,
    fd_worth := _,
    F_worth := F9,
    b_worth := F9.binds (ps := ["bag", "few"]) fun _ _ _ _ _ _ us hl => match us, hl with | [_, _], _ => rfl,
    g_worth := PySem.W.mg_of X G a9,
    f_things := f10,
    fd_things := _,
    F_things := F10,
    b_things := F10.binds (ps := ["row"]) fun _ _ _ _ _ _ us hl => match us, hl with | [_], _ => rfl,
    g_things := PySem.W.mg_of X G a10,
    f_law := fa,
    fd_law := _,
    F_law := F11,
    b_law := F11.binds (ps := ["script"]) fun _ _ _ _ _ _ us hl => match us, hl with | [_], _ => rfl,
    g_law := PySem.W.mg_of X G a11,
    n_bool := PySem.W.mg_none_of X G z_bool,
    n_int := PySem.W.mg_none_of X G z_int,
    n_isinstance := PySem.W.mg_none_of X G z_isinstance,
    n_len := PySem.W.mg_none_of X G z_len,
    n_list := PySem.W.mg_none_of X G z_list,
    n_max := PySem.W.mg_none_of X G z_max,
    n_min := PySem.W.mg_none_of X G z_min,
    n_range := PySem.W.mg_none_of X G z_range,
    n_str := PySem.W.mg_none_of X G z_str,
    n_tuple := PySem.W.mg_none_of X G z_tuple }
  exact ⟨PySem.W.fnOf "law" "law" (defArgs s_law) (defBody s_law) (defScope s_law) .none kV11 dc11 pm11 an11 cd11 ct11, fun s v => .of_eq rfl, fun base _ _ => ok_law T⟩
end K02
open PySem PySem.W PyProof.Rows
set_option maxHeartbeats 0 in
theorem PySem.Challenge.cw_manygoings_k02_things_of_lists_holds : PySem.Challenge.rw_manygoings_k02_things_of_lists.Holds := by
  w_on; o_law; k_head; (case hw => w_witness2)
  k_fill
  refine L2.walk_of (l := PySem.Challenge.rw_manygoings_k02_things_of_lists) (n := 63) (k := 4) (x := "script") (CX := fun _ => L2.CX0) (sp := fun w => K02.spLaw _) rfl (by decide) rfl ⟨rfl, by decide, by decide⟩ (fun w h Y => PySem.W.kIn_of Y) ?F (fun _ _ a ns hl _ hS => ⟨a, ns, rfl, hS, hl, fun _ => rfl⟩) (fun _ _ _ _ _ h => h)
  case F =>
    intro w mg fa h KX G hmg
    refine' K02.all_mk KX G hmg ?a0 ?l0 ?c0 ?k0 ?a1 ?l1 ?c1 ?k1 ?a2 ?l2 ?c2 ?k2 ?a3 ?l3 ?c3 ?k3 ?a4 ?l4 ?c4 ?k4 ?a5 ?l5 ?c5 ?k5 ?a6 ?l6 ?c6 ?k6 ?a7 ?l7 ?c7 ?k7 ?a8 ?l8 ?c8 ?k8 ?a9 ?l9 ?c9 ?k9 ?a10 ?l10 ?c10 ?k10 ?a11 ?l11 ?c11 ?k11 ?z_bool ?z_int ?z_isinstance ?z_len ?z_list ?z_max ?z_min ?z_range ?z_str ?z_tuple
    (case a0 => k_is); (case l0 => k_is); (case c0 => k_is); (case k0 => k_is); (case a1 => k_is); (case l1 => k_is); (case c1 => k_is); (case k1 => k_is); (case a2 => k_is); (case l2 => k_is); (case c2 => k_is); (case k2 => k_is); (case a3 => k_is); (case l3 => k_is); (case c3 => k_is); (case k3 => k_is); (case a4 => k_is); (case l4 => k_is); (case c4 => k_is); (case k4 => k_is); (case a5 => k_is); (case l5 => k_is); (case c5 => k_is); (case k5 => k_is); (case a6 => k_is); (case l6 => k_is); (case c6 => k_is); (case k6 => k_is); (case a7 => k_is); (case l7 => k_is); (case c7 => k_is); (case k7 => k_is); (case a8 => k_is); (case l8 => k_is); (case c8 => k_is); (case k8 => k_is); (case a9 => k_is); (case l9 => k_is); (case c9 => k_is); (case k9 => k_is); (case a10 => k_is); (case l10 => k_is); (case c10 => k_is); (case k10 => k_is); (case a11 => k_is); (case l11 => k_is); (case c11 => k_is); (case k11 => k_is); (case z_bool => k_is); (case z_int => k_is); (case z_isinstance => k_is); (case z_len => k_is); (case z_list => k_is); (case z_max => k_is); (case z_min => k_is); (case z_range => k_is); (case z_str => k_is); (case z_tuple => k_is)

