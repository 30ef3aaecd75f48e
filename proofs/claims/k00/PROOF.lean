import PyProof.Rows.All
import Wide.All
import OpenK.AllK
import Wide.FinOn
import HandS.ForMost
import HandS.Wide
import HandS.Gcd
import HandS.More
import HandS.IsInst
import HandS.Defaults
import HandS.SortInts
import HandS.Zip
import HandS.TupAny
import HandS.Conv
import HandS.Style
import HandS.RaiseMore
import HandS.Head0
import HandS.Head1
import HandS.Head2
import HandS.Head3
import HandS.HeadEnd
import HandS.HeadHook1
import HandS.HeadHook2
import HandS.Small
import KE.GoesEnum
import PySem.Challenge.RW_zeroorone_k00_whole_numbers_of_a_ground
set_option Elab.async false
set_option linter.all false
set_option maxRecDepth 100000
set_option maxHeartbeats 2000000
namespace L2.Z
open PySem PySem.Spec PyProof.Rows
abbrev rAdd : R2 := rI0 fun i j => .int (i + j)
abbrev rSub : R2 := rI0 fun i j => .int (i - j)
abbrev rModU : R2 := rI (fun _ j => 0 < j) fun i j => .int (i % j)
abbrev rDivU : R2 := rI CDivW fun i j => .int (i / j)
abbrev rPowU : R2 := rI CPow fun i j => .int (i ^ j.toNat)
abbrev rMulU : R2 := rI (fun i j => CMul i j ∨ CMulW i j) fun i j => .int (i * j)
abbrev rNeg : V → Hp → VK → Prop := rU fun i => .int (-i)
/-- // by any divisor but 0 below 2 ^ 9000 -/
def CDivZ (_ j : Int) : Prop := j ≠ 0 ∧ j.natAbs.log2 < 9000
abbrev rDivZ : R2 := rI CDivZ fun i j => .int (i.fdiv j)
theorem op_fdivZ {X : Cx} : OpR X (binaryOp .FloorDiv) rDivZ := opI fun i j _ _ _ _ _ hc q => floordiv_int hc.1 q (.inl (PyProof.noPylong_of_log2 hc.2))
abbrev rStrI : List V → Hp → VK → Prop := fun xs H Q => ∃ i : Int, xs = [.int i] ∧ i.natAbs.log2 < 1920 ∧ Q (.str (toString i)) H
/-- repr of plain values -/
def tTru (K : PySem.W.Frag) (te : TE) : TT := fun σ H Qt => te σ H fun x H1 => ∃ k, TruV K x H1 k ∧ Qt k H1
theorem pt_tru {X : Cx} {K : PySem.W.Frag} {a : PySem.Expr} {ta : TE} (hk : X.K = K) (h : PE X a ta) (he : ∀ whole : PySem.Sem PySem.Value, PySem.isTrue a X.env whole = do
          let v ← whole
          PySem.standAt a.pos
          PySem.holding [v] (PySem.truthy v)) : PT X a (tTru K ta) := by
  subst hk
  exact pt_truth h he
def rMinT : List V → Hp → VK → Prop := fun vs H Q => ∃ (a : Addr) (ns : List Int), vs = [.ref a] ∧ H a = some (.tup (ns.map V.int)) ∧ 0 < ns.length ∧ ∀ m, m ∈ ns → (∀ y ∈ ns, m ≤ y) → Q (.int m) H
theorem vals_ints : ∀ {ns : List Int} {its : List Value}, Vals (ns.map V.int) its → its.length = ns.length ∧ ∀ (i : Nat) (v : Value), its[i]? = some v → ∃ t, v = Value.int (ns.getD i 0) t := by
  intro ns
  induction ns with
  | nil => intro its h; cases h; exact ⟨rfl, fun i v e => by simp at e⟩
  | cons n r ih =>
    intro its h
    cases h with
    | cons h1 h2 =>
      obtain ⟨l, g⟩ := ih h2
      refine ⟨by simp [l], fun i v e => ?_⟩
      cases i with
      | zero =>
        simp only [List.getElem?_cons_zero, Option.some.injEq] at e
        subst e
        obtain ⟨t, e⟩ := h1
        exact ⟨t, by simpa using e⟩
      | succ i =>
        rw [List.getElem?_cons_succ] at e
        obtain ⟨t, e⟩ := g i v e
        exact ⟨t, by simpa using e⟩
theorem cr_minT {X : Cx} (hc : X.calm = true) : CallR X (.builtin "min") rMinT := by
  intro pins s σ H xs us Q I r h
  obtain ⟨a, ns, rfl, hT, hn, hq⟩ := h
  obtain ⟨u, rfl, r1⟩ := vals1 r
  cases (show u = Value.ref a from r1)
  obtain ⟨its, hv, hI, _⟩ := I.tuple (.inl (.inl hT))
  obtain ⟨hl, hg⟩ := vals_ints hv
  refine PySem.call_min_walk ?_
  refine PySem.wpAny_pyIter_tuple (items := its.toArray) ?_ ?_
  · exact hI
  · obtain ⟨o, ho, hcl, hdt⟩ := hI
    have hlt : a < s.heap.objs.size := by
      refine Nat.lt_of_not_le fun c => ?_
      have : s.heap.get? a = none := by
        simp [PySem.Heap.get?, c]
      rw [ho] at this
      cases this
    have hne : a ≠ s.heap.objs.size := Nat.ne_of_lt hlt
    have push_old : ∀ (b : Addr) (u x : Obj), s.heap.get? b = some u → (s.heap.push x).get? b = some u := fun b u x hb => by
      have hlb : b < s.heap.objs.size := by
        refine Nat.lt_of_not_le fun c => ?_
        have : s.heap.get? b = none := by simp [PySem.Heap.get?, c]
        rw [hb] at this
        cases this
      simp only [PySem.Heap.get?, PySem.Heap.push] at hb ⊢
      rw [Array.getElem?_push, if_neg (Nat.ne_of_lt hlb)]
      exact hb
    refine ⟨_, _, _, _, _, _, _, rfl, PySem.Walks.tuple ?_ s.heap.objs.size a hne its.toArray, ⟨⟨{ cls := Value.type "tuple_iterator", data := Data.fields #[Value.ref a, Value.int 0 0] }, ?_, rfl, rfl⟩, ⟨o, push_old a o _ ho, hcl, hdt⟩⟩, ?_, ?_, PySem.CmpOf.ints_lt (fun i => ns.getD i 0) (fun i v e => hg i v (by simpa using e)), fun v h' tk hP hk => ?_⟩
    · exact (I.ok.hd hc)
    · simp [PySem.Heap.get?, PySem.Heap.push]
    · intro b hb
      have : (s.heap.push { cls := Value.type "tuple_iterator", data := Data.fields #[Value.ref a, Value.int 0 0] }).objs.size = s.heap.objs.size + 1 := by simp [PySem.Heap.push]
      show b < (s.heap.push { cls := Value.type "tuple_iterator", data := Data.fields #[Value.ref a, Value.int 0 0] }).objs.size
      rw [this]
      simp only [List.mem_cons, List.not_mem_nil, or_false] at hb
      rcases hb with rfl | rfl
      · exact Nat.lt_succ_self _
      · exact Nat.lt_succ_of_lt hlt
    · simp only [List.size_toArray]; omega
    · obtain ⟨b1, b2⟩ := PySem.argBest_lt (fun i => ns.getD i 0) (its.toArray.size - 1)
      generalize argBest (fun i j => decide (ns.getD i 0 < ns.getD j 0)) (its.toArray.size - 1) = k at *
      simp only [List.size_toArray] at b1 b2
      obtain ⟨t, rfl⟩ := hg k v (by simpa using hP)
      have hk1 : k < ns.length := by omega
      refine ⟨.int (ns.getD k 0), H, I.kept (h' := h') (t' := tk) (fun b u hb => hk b u ?_ (push_old b u _ hb)), ⟨t, rfl⟩, hq _ ?_ fun y hy => ?_⟩
      · intro c
        rw [List.mem_singleton] at c
        subst c
        simp [PySem.Heap.get?] at hb
      · rw [List.getD_eq_getElem?_getD, List.getElem?_eq_getElem hk1]
        exact List.getElem_mem hk1
      · obtain ⟨j, hj, rfl⟩ := List.getElem_of_mem hy
        have := b2 j (by omega)
        rw [List.getD_eq_getElem?_getD (i := j), List.getElem?_eq_getElem hj] at this
        exact this
def rSortedDI : List V → Hp → VK → Prop := fun xs H Q => ∃ (a : Addr) (kvs : List (Key × V)) (ks : List Int), xs = [.ref a] ∧ Rd H a (.dK kvs) ∧ kvs.map (·.1) = ks.map Sum.inl ∧ ks.length < 64 ∧ ∀ (ys : List Int) (p : Addr), ys.Perm ks → ys.Pairwise (· ≤ ·) → H p = none → Q (.ref p) (upd H p (.lst (ys.map V.int)))
theorem cr_sortedDI {X : Cx} (hc : X.calm = true) : CallR X (.builtin "sorted") rSortedDI := call_sortedDI hc
def rReprU : List V → Hp → VK → Prop := fun xs H Q => (∃ i : Int, xs = [.int i] ∧ i.natAbs.log2 < 1920 ∧ Q (.str (toString i)) H) ∨ (∃ b : Bool, xs = [.bl b] ∧ Q (.str (if b then "True" else "False")) H) ∨ (xs = [.non] ∧ Q (.str "None") H)
theorem cr_reprU {X : Cx} : CallR X (.builtin "repr") rReprU := by
  intro pins s σ H xs us Q I r h
  rcases h with h | ⟨b, e, q⟩ | ⟨e, q⟩
  · exact SkE.call_repr_int pins s σ H xs us Q I r h
  · subst e
    obtain ⟨u, e1, r1⟩ := vals1 r
    subst e1
    cases (show u = Value.bool b from r1)
    exact PySem.P.repr_of_bool ⟨.str _, H, I.tok _, ⟨_, rfl⟩, q⟩
  · subst e
    obtain ⟨u, e1, r1⟩ := vals1 r
    subst e1
    cases (show u = Value.none from r1)
    exact PySem.P.repr_of_none ⟨.str _, H, I.tok _, ⟨_, rfl⟩, q⟩
abbrev rLtI : R2 := rI0 fun i j => .bl (decide (i < j))
abbrev rLeI : R2 := rI0 fun i j => .bl (decide (i ≤ j))
abbrev rGtI : R2 := rI0 fun i j => .bl (decide (j < i))
abbrev rGeI : R2 := rI0 fun i j => .bl (decide (j ≤ i))
abbrev rLenU (K : PySem.W.Frag) : List V → Hp → VK → Prop := fun xs H Q => ∃ p ys, xs = [.ref p] ∧ (SqL K H p ys ∨ SqT K H p ys) ∧ Q (.int ys.length) H
abbrev rAbs : List V → Hp → VK → Prop := fun xs H Q => ∃ i : Int, xs = [.int i] ∧ Q (.int (if i < 0 then -i else i)) H
abbrev rMax2 : List V → Hp → VK → Prop := fun xs H Q => ∃ i j : Int, xs = [.int i, .int j] ∧ Q (.int (if j > i then j else i)) H
abbrev rMin2 : List V → Hp → VK → Prop := fun xs H Q => ∃ i j : Int, xs = [.int i, .int j] ∧ Q (.int (if j < i then j else i)) H
abbrev rInt1 : List V → Hp → VK → Prop := fun xs H Q => (∃ i, xs = [.int i] ∧ Q (.int i) H) ∨ ∃ k, xs = [.bl k] ∧ Q (.int (if k then 1 else 0)) H
abbrev rTupOf (K : PySem.W.Frag) : List V → Hp → VK → Prop := fun xs H Q => ∃ p ys, xs = [.ref p] ∧ ((SqL K H p ys ∧ ∀ l, H l = none → Q (.ref l) (upd H l (.tup ys))) ∨ (SqT K H p ys ∧ Q (.ref p) H))
abbrev rListOf (K : PySem.W.Frag) : List V → Hp → VK → Prop := fun xs H Q => ∃ p ys, xs = [.ref p] ∧ (SqL K H p ys ∨ SqT K H p ys) ∧ ∀ l, H l = none → Q (.ref l) (upd H l (.lst ys))
abbrev rIxA (K : PySem.W.Frag) : R2 := fun x y H Q => rIxL K x y H Q ∨ rIxT K x y H Q
theorem ix_lt {X : Cx} : IxR X (rIxA X.K) := ix_list.or ix_tup
theorem op_mulU {X : Cx} : OpR X (binaryOp .Mult) rMulU := opI fun _ _ _ _ _ _ _ hc q => mul_int q (hc.elim CMul.ok CMulW.ok)
theorem hu64_of {A : Around} {k : Nat} (hr : Room k A) : A.units + 64 < cLine := by have := hr.un; omega
def Okk (P : Program) (w : World) (K : PySem.W.Frag) (mg : Str → Option Value) (base : Heap) (k : Nat) (x : Str) (ps : List Str) (sp : Sp) : Prop :=
  ∃ fd, FnOk P w K mg base CX0 k (He.ga K x) fd ps sp ∧ Binds K fd ps [] ∧ mg x = some (.ref (He.ga K x)) ∧ PySem.W.keepIn K (.ref (He.ga K x)) = true
def LcW (J : It) (H1 : Hp) (g : TG) (tt : TT) (te : TE) (vs : List Nat) (σ : St) (Q : VK) : Prop := tLc (fun _ _ R => R J H1) g tt te vs σ H1 Q
def ForW (J : It) (H1 : Hp) (g : TG) (tb : TS) (D : Ends) (σ : St) : Prop := tFor (fun _ _ R => R J H1) g tb D σ H1
section
variable {σ : St} {H : Hp} {Q : VK} {v x y : V} {ta tb tc te : TE} {r r' : R2} {t u : TT} {n : Nat} {D : Ends} {s s' : TS} {g : TG} {K : PySem.W.Frag} {tl : TA} {QA : List V → Hp → Prop} {QT : Bool → Hp → Prop}
theorem z_var0 : tVar 0 (some v :: σ) H Q = Q v H := propext ⟨fun ⟨_, h, q⟩ => by cases h; exact q, fun q => ⟨_, rfl, q⟩⟩
theorem z_varS {o : Option V} : tVar (n + 1) (o :: σ) H Q = tVar n σ H Q := rfl
theorem z_C : tC v σ H Q = Q v H := rfl
theorem z_op : tOp r ta tb σ H Q = ta σ H fun x H1 => tb σ H1 fun y H2 => r x y H2 Q := rfl
theorem z_un {f : V → Hp → VK → Prop} : tUn f ta σ H Q = ta σ H fun x H1 => f x H1 Q := rfl
theorem z_I0 {f : Int → Int → V} {i j : Int} : rI0 f (.int i) (.int j) H Q = Q (f i j) H := propext ⟨fun ⟨_, _, e1, e2, q⟩ => by cases e1; cases e2; exact q, fun q => ⟨_, _, rfl, rfl, q⟩⟩
theorem z_I {C : Int → Int → Prop} {f : Int → Int → V} {i j : Int} : rI C f (.int i) (.int j) H Q = (C i j ∧ Q (f i j) H) := propext ⟨fun ⟨_, _, e1, e2, q⟩ => by cases e1; cases e2; exact q, fun q => ⟨_, _, rfl, rfl, q⟩⟩
theorem z_U {f : Int → V} {i : Int} : rU f (.int i) H Q = Q (f i) H := propext ⟨fun ⟨_, e1, q⟩ => by cases e1; exact q, fun q => ⟨_, rfl, q⟩⟩
theorem z_eqI {i j : Int} : rEq (.int i) (.int j) H Q = Q (.bl (decide (i = j))) H := by
  have e : decide (V.int i = V.int j) = decide (i = j) := by simp
  unfold rEq; rw [e]; exact propext ⟨fun h => h.2, fun h => ⟨rfl, h⟩⟩
theorem z_neI {i j : Int} : rNe (.int i) (.int j) H Q = Q (.bl (!decide (i = j))) H := by
  have e : decide (V.int i = V.int j) = decide (i = j) := by simp
  unfold rNe; rw [e]; exact propext ⟨fun h => h.2, fun h => ⟨rfl, h⟩⟩
theorem z_bl {b : Bool} {p : Bool → Prop} : (∃ k, V.bl b = V.bl k ∧ p k) = p b := propext ⟨fun ⟨_, e, q⟩ => by cases e; exact q, fun q => ⟨_, rfl, q⟩⟩
theorem z_test : tTest te σ H QT = te σ H fun x H' => ∃ k, x = .bl k ∧ QT k H' := rfl
theorem z_B : tB te σ H QT = te σ H fun x H' => ∃ k, x = .bl k ∧ QT k H' := rfl
theorem z_and : tAnd t u σ H QT = t σ H fun c H1 => if c = true then u σ H1 QT else QT false H1 := rfl
theorem z_or : tOr t u σ H QT = t σ H fun c H1 => if c = true then QT true H1 else u σ H1 QT := rfl
theorem z_not : tNot t σ H QT = t σ H fun c H1 => QT (!c) H1 := rfl
theorem z_andV : tAndV ta tb σ H Q = ta σ H fun x H1 => ∃ c, x = .bl c ∧ if c = true then tb σ H1 Q else Q (.bl false) H1 := rfl
theorem z_orV : tOrV ta tb σ H Q = ta σ H fun x H1 => ∃ c, x = .bl c ∧ if c = true then Q (.bl true) H1 else tb σ H1 Q := rfl
theorem z_notV : tNotV ta σ H Q = ta σ H fun x H1 => ∃ c, x = .bl c ∧ Q (.bl (!c)) H1 := rfl
theorem z_if : tIf t ta tb σ H Q = t σ H fun c H1 => if c = true then ta σ H1 Q else tb σ H1 Q := rfl
theorem z_ifS : tIfS t s s' D σ H = t σ H fun b H1 => if b = true then s D σ H1 else s' D σ H1 := rfl
theorem z_seq : tSeq s s' D σ H = s { D with nx := s' D } σ H := rfl
theorem z_next : tNext D σ H = D.nx σ H := rfl
theorem z_ret : tRet te D σ H = te σ H D.rt := rfl
theorem z_retN : tRetN D σ H = D.rt .non H := rfl
theorem z_asg : tAsg te g D σ H = te σ H fun x H1 => g x σ H1 D.nx := rfl
theorem z_gname {Qg : St → Hp → Prop} : gName n v σ H Qg = Qg (σ.set n (some v)) H := rfl
theorem z_drop : tDrop te D σ H = te σ H fun _ H1 => D.nx σ H1 := rfl
theorem z_nil : tNil σ H QA = QA [] H := rfl
theorem z_cons : tCons te tl σ H QA = te σ H fun x H1 => tl σ H1 fun xs H2 => QA (x :: xs) H2 := rfl
theorem z_call {sp : Sp} {E : XK} : tCall sp [] E tl σ H Q = tl σ H fun vs H1 => sp vs H1 Q E := by unfold tCall; simp only [List.append_nil]
theorem z_CB {f : List V → Hp → VK → Prop} : tCB f tl σ H Q = tl σ H fun vs H1 => f vs H1 Q := rfl
theorem z_par {i j : Nat} : tPar i j tl D σ H = tl σ H fun vs H1 => ∃ v w, vs = [v, w] ∧ D.nx ((σ.set i (some v)).set j (some w)) H1 := rfl
theorem z_pair {v w : V} {p : V → V → Prop} : (∃ a b, [v, w] = [a, b] ∧ p a b) = p v w := propext ⟨fun ⟨_, _, e, q⟩ => by cases e; exact q, fun q => ⟨_, _, rfl, q⟩⟩
theorem z_aug0 {ti : TIp} {σ' : St} {i : Nat} : tAug i te ti D σ H = ∃ x, σ[i]? = some (some x) ∧ te σ H fun y H1 => ti x y H1 fun z H2 => D.nx (σ.set i (some z)) H2 := rfl
theorem z_ipI {f : Int → Int → Int} {i j : Int} : ipI f (.int i) (.int j) H Q = Q (.int (f i j)) H := propext ⟨fun ⟨_, _, e1, e2, q⟩ => by cases e1; cases e2; exact q, fun q => ⟨_, _, rfl, rfl, q⟩⟩
theorem z_abs {i : Int} : rAbs [.int i] H Q = Q (.int (if i < 0 then -i else i)) H := propext ⟨fun ⟨_, e1, q⟩ => by cases e1; exact q, fun q => ⟨_, rfl, q⟩⟩
theorem z_max {i j : Int} : rMax2 [.int i, .int j] H Q = Q (.int (if j > i then j else i)) H := propext ⟨fun ⟨_, _, e1, q⟩ => by cases e1; exact q, fun q => ⟨_, _, rfl, q⟩⟩
theorem z_min {i j : Int} : rMin2 [.int i, .int j] H Q = Q (.int (if j < i then j else i)) H := propext ⟨fun ⟨_, _, e1, q⟩ => by cases e1; exact q, fun q => ⟨_, _, rfl, q⟩⟩
theorem z_int {i : Int} : rInt1 [.int i] H Q = Q (.int i) H := by
  apply propext
  constructor
  · intro h
    rcases h with ⟨_, e, q⟩ | ⟨_, e, _⟩
    · cases e; exact q
    · cases e
  · intro q
    exact Or.inl ⟨_, rfl, q⟩
theorem z_intB {b : Bool} : rInt1 [.bl b] H Q = Q (.int (if b then 1 else 0)) H := by
  apply propext
  constructor
  · intro h
    rcases h with ⟨_, e, _⟩ | ⟨_, e, q⟩
    · cases e
    · cases e; exact q
  · intro q
    exact Or.inr ⟨_, rfl, q⟩
theorem z_gcd {i j : Int} : rGcd [.int i, .int j] H Q = Q (.int ((Nat.gcd i.natAbs j.natAbs : Nat) : Int)) H := propext ⟨fun ⟨_, _, e, q⟩ => by cases e; exact q, fun q => ⟨_, _, rfl, q⟩⟩
theorem z_tup : tTup tl σ H Q = tl σ H fun xs H1 => xs.length ≤ sizeLine ∧ ∀ p, H1 p = none → Q (.ref p) (upd H1 p (.tup xs)) := rfl
theorem z_lst : tLst tl σ H Q = tl σ H fun xs H1 => xs.length ≤ sizeLine ∧ ∀ p, H1 p = none → Q (.ref p) (upd H1 p (.lst xs)) := rfl
theorem z_chain : tChain r r' ta tb tc σ H Q = ta σ H fun x H1 => tb σ H1 fun y H2 => r x y H2 fun z H3 => ∃ k, z = .bl k ∧ (if k = true then tc σ H3 fun w' H4 => r' y w' H4 Q else Q (.bl false) H3) := rfl
theorem z_bm {T : String} {f : V → List V → Hp → VK → Prop} {to : TE} : tBM K T f to tl σ H Q = to σ H fun x H1 => tyV K T x H1 ∧ tl σ H1 fun xs H2 => f x xs H2 Q := rfl
theorem z_bm0 {T : String} {f : V → List V → Hp → VK → Prop} {to : TE} : tBM0 K T f to σ H Q = to σ H fun x H1 => tyV K T x H1 ∧ f x [] H1 Q := rfl
theorem tyL {p : Addr} {xs : List V} (h : H p = some (.lst xs)) : tyV K "list" (.ref p) H := .inl ⟨rfl, _, .inl (.inl h)⟩
theorem z_gtup {m : Nat} {a : Addr} {gs : TGs} {Qg : St → Hp → Prop} : gTup K m gs (.ref a) σ H Qg = ∃ xs, SqT K H a xs ∧ xs.length = m ∧ gs xs σ H Qg := propext ⟨fun ⟨_, xs, e, h⟩ => by cases e; exact ⟨xs, h⟩, fun ⟨xs, h⟩ => ⟨a, xs, rfl, h⟩⟩
theorem z_gcons {gs : TGs} {r : List V} {Qg : St → Hp → Prop} : gCons g gs (v :: r) σ H Qg = g v σ H fun σ' H' => gs r σ' H' Qg := propext ⟨fun ⟨_, _, e, h⟩ => by cases e; exact h, fun h => ⟨v, r, rfl, h⟩⟩
theorem z_gnil {Qg : St → Hp → Prop} : gNil [] σ H Qg = Qg σ H := propext ⟨fun h => h.2, fun h => ⟨rfl, h⟩⟩
theorem z_yes : tYes σ H QT = QT true H := rfl
theorem z_wipe0 : wipe σ [] = σ := rfl
theorem z_wipeS {i : Nat} {is : List Nat} : wipe σ (i :: is) = (wipe σ is).set i none := rfl
theorem z_itup {R : It → Hp → Prop} : iTup K te σ H R = te σ H fun x H1 => ∃ a, x = .ref a ∧ (∃ xs, SqT K H1 a xs) ∧ R (Itt K a) H1 := rfl
theorem z_ilist {R : It → Hp → Prop} : iList K te σ H R = te σ H fun x H1 => ∃ a, x = .ref a ∧ (∃ xs, SqL K H1 a xs) ∧ R (Itl K a) H1 := rfl
theorem z_irng1 {R : It → Hp → Prop} : iRng1 tl σ H R = tl σ H fun vs H1 => ∃ j : Int, vs = [.int j] ∧ -(2 ^ 62) ≤ j ∧ j < 2 ^ 62 ∧ R (Itr 0 j.toNat) H1 := rfl
theorem z_irng2 {R : It → Hp → Prop} : iRng2 tl σ H R = tl σ H fun vs H1 => ∃ i j : Int, vs = [.int i, .int j] ∧ (-(2 ^ 62) ≤ i ∧ i < 2 ^ 62 ∧ -(2 ^ 62) ≤ j ∧ j < 2 ^ 62) ∧ R (Itr i (j - i).toNat) H1 := rfl
theorem z_lc {wi : TI} {vs : List Nat} : tLc wi g t te vs σ H Q = wi σ H fun J H1 => LcW J H1 g t te vs σ Q := rfl
theorem z_for {wi : TI} {tb : TS} : tFor wi g tb D σ H = wi σ H fun J H1 => ForW J H1 g tb D σ := rfl
theorem z_gsub {to ti : TE} {f : TSet} {Qg : St → Hp → Prop} : gSub to ti f v σ H Qg = to σ H fun o H1 => ti σ H1 fun i H2 => f o i v H2 fun H3 => Qg σ H3 := rfl
theorem ixL {p : Addr} {xs : List V} {i : Int} (h : SqL K H p xs) (e : atI xs i = some v) (q : Q v H) : rIxA K (.ref p) (.int i) H Q := .inl ⟨p, xs, i, v, rfl, rfl, h, e, q⟩
theorem ixT {p : Addr} {xs : List V} {i : Int} (h : SqT K H p xs) (e : atI xs i = some v) (q : Q v H) : rIxA K (.ref p) (.int i) H Q := .inr ⟨p, xs, i, v, rfl, rfl, h, e, q⟩
theorem setL {p : Addr} {xs : List V} {i : Int} {j : Nat} {Qh : Hp → Prop} (h : H p = some (.lst xs)) (e : ixN xs.length i = some j) (q : Qh (upd H p (.lst (xs.set j v)))) : rSetL (.ref p) (.int i) v H Qh := ⟨p, xs, i, j, rfl, rfl, h, e, q⟩
theorem lenL {p : Addr} {xs : List V} (h : SqL K H p xs) (q : Q (.int (xs.length : Int)) H) : rLenU K [.ref p] H Q := ⟨p, xs, rfl, .inl h, q⟩
theorem lenT {p : Addr} {xs : List V} (h : SqT K H p xs) (q : Q (.int (xs.length : Int)) H) : rLenU K [.ref p] H Q := ⟨p, xs, rfl, .inr h, q⟩
theorem z_par3 {i j l : Nat} : tPar3 i j l tl D σ H = tl σ H fun vs H1 => ∃ u v w, vs = [u, v, w] ∧ D.nx (((σ.set i (some u)).set j (some v)).set l (some w)) H1 := rfl
theorem z_trip {u v w : V} {p : V → V → V → Prop} : (∃ a b c, [u, v, w] = [a, b, c] ∧ p a b c) = p u v w := propext ⟨fun ⟨_, _, _, e, q⟩ => by cases e; exact q, fun q => ⟨_, _, _, rfl, q⟩⟩
theorem z_rg1 {f : Int → Int → Hp → Prop} : tRg1 te σ H f = te σ H fun x H1 => ∃ n, x = .int n ∧ f 0 n H1 := rfl
theorem z_rg2 {f : Int → Int → Hp → Prop} : tRg2 ta tb σ H f = ta σ H fun x H1 => tb σ H1 fun y H2 => ∃ i j, x = .int i ∧ y = .int j ∧ f i j H2 := rfl
theorem z_ii {i j : Int} {p : Int → Int → Prop} : (∃ a b, V.int i = V.int a ∧ V.int j = V.int b ∧ p a b) = p i j := propext ⟨fun ⟨_, _, e1, e2, q⟩ => by cases e1; cases e2; exact q, fun q => ⟨_, _, rfl, rfl, q⟩⟩
theorem z_i1 {i : Int} {p : Int → Prop} : (∃ a, V.int i = V.int a ∧ p a) = p i := propext ⟨fun ⟨_, e1, q⟩ => by cases e1; exact q, fun q => ⟨_, rfl, q⟩⟩
theorem z_lstrg {f : St → Hp → (Int → Int → Hp → Prop) → Prop} : tLstRg f σ H Q = f σ H fun a b H1 => RgOk a b ∧ ∀ q, H1 q = none → Q (.ref q) (upd H1 q (.lst (rgV a b))) := rfl
theorem z_disp {trs : List (TE × TE)} : tDisp trs σ H Q = ∀ p, H p = none → tPairs trs σ (upd H p (.dK [])) fun ps H2 => H2 p = some (.dK []) ∧ ∃ kvs : List (Key × V), ps = kvs.map (fun kv => (kV kv.1, kv.2)) ∧ kvs.length ≤ 15 ∧ Q (.ref p) (upd H2 p (.dK (mergeK [] kvs))) := rfl
theorem z_tp0 {f : List (V × V) → Hp → Prop} : tPairs [] σ H f = f [] H := rfl
theorem z_tpS {r : List (TE × TE)} {f : List (V × V) → Hp → Prop} : tPairs ((ta, tb) :: r) σ H f = ta σ H fun x H1 => tb σ H1 fun y H2 => tPairs r σ H2 fun ps H3 => f ((x, y) :: ps) H3 := rfl
theorem z_tru : tTru K ta σ H QT = ta σ H fun x H' => ∃ k, TruV K x H' k ∧ QT k H' := rfl
theorem z_din : tDIn ta tb σ H Q = ta σ H fun y H1 => tb σ H1 fun x H2 => ∃ a o, x = V.ref a ∧ DGet H2 a y o ∧ Q (.bl o.isSome) H2 := rfl
theorem z_dget : tDGet ta tb σ H Q = ta σ H fun x H1 => tb σ H1 fun y H2 => ∃ a v, x = V.ref a ∧ DGet H2 a y (some v) ∧ Q v H2 := rfl
theorem z_dput : sDPut ta tb te D σ H = te σ H fun v H1 => ta σ H1 fun x H2 => tb σ H2 fun y H3 => ∃ a H4, x = V.ref a ∧ DPut H3 a y v H4 ∧ D.nx σ H4 := rfl
theorem z_cont : tCont D σ H = D.ct σ H := rfl
theorem z_dnew : tDNewK σ H Q = ∀ p, H p = none → Q (.ref p) (upd H p (.dK [])) := rfl
theorem z_sl {f : V → Option Int → Option Int → Hp → VK → Prop} {ul uh : TO} : tSl f te ul uh σ H Q = te σ H fun x H1 => ul σ H1 fun l H2 => uh σ H2 fun u H3 => f x l u H3 Q := rfl
theorem z_part {f : Option Int → Hp → Prop} : tPart te σ H f = te σ H fun x H1 => ∃ i, x = .int i ∧ f (some i) H1 := rfl
theorem z_nopart {f : Option Int → Hp → Prop} : tNoPart σ H f = f none H := rfl
theorem z_strI {i : Int} : rStrI [.int i] H Q = (i.natAbs.log2 < 1920 ∧ Q (.str (toString i)) H) := propext ⟨fun ⟨_, e, q⟩ => by cases e; exact q, fun q => ⟨_, rfl, q⟩⟩
theorem z_isN : tIsN ta σ H Q = ta σ H fun x H1 => Q (.bl (decide (x = .non))) H1 := rfl
theorem z_notN : tNotN ta σ H Q = ta σ H fun x H1 => Q (.bl (!decide (x = .non))) H1 := rfl
theorem z_dn1 {i : Int} : decide (V.int i = V.non) = false := rfl
theorem z_dn2 {i : Addr} : decide (V.ref i = V.non) = false := rfl
theorem z_dn3 {i : Bool} : decide (V.bl i = V.non) = false := rfl
theorem z_dn4 {i : Str} : decide (V.str i = V.non) = false := rfl
theorem z_dn5 : decide (V.non = V.non) = true := rfl
theorem z_some {a : V} {p : V → Prop} : (∃ x, some (some a) = some (some x) ∧ p x) = p a := propext ⟨fun ⟨_, e, q⟩ => by cases e; exact q, fun q => ⟨_, rfl, q⟩⟩
end
/-! comprehensions: outs i is what the i-th item gives, if anything -/
def OutOf (D : Addr) (nx : Hp → Prop) : Option V → Hp → Prop
  | some y, H4 => ∃ acc, H4 D = some (.lst acc) ∧ acc.length < sizeLine ∧ nx (upd H4 D (.lst (acc ++ [y])))
  | none, H3 => nx H3
def outL (outs : Nat → Option V) (n : Nat) : List V := (List.range n).filterMap outs
theorem outL_succ (outs : Nat → Option V) (n : Nat) : outL outs (n + 1) = outL outs n ++ (outs n).toList := by
  unfold outL
  rw [List.range_succ, List.filterMap_append]
  cases h : outs n <;> simp [h]
theorem outL_len (outs : Nat → Option V) (n : Nat) : (outL outs n).length ≤ n := by
  unfold outL
  exact Nat.le_trans (List.length_filterMap_le _ _) (by simp)
theorem same_mutD {H H' : Hp} {p : Addr} {o : HO} (s : Same H H') (hn : H p = none) : Same H (upd H' p o) := fun b u h => by
  rw [upd_ne (ne_of_none h hn)]; exact s b u h
theorem out_ok {H1 : Hp} {D : Addr} (hD : H1 D = none) (outs : Nat → Option V) {i n : Nat} (hi : i < n) (hn : n < 2 ^ 22) {H' H2 : Hp} (h : Same H1 H' ∧ H' D = some (.lst (outL outs i))) (s : Same H' H2) :
    OutOf D (fun H' => Same H1 H' ∧ H' D = some (.lst (outL outs (i + 1)))) (outs i) H2 := by
  have h2 := s _ _ h.2
  have h3 : Same H1 H2 := h.1.trans s
  cases e : outs i with
  | none =>
    refine ⟨h3, ?_⟩
    rw [outL_succ, e]
    simpa using h2
  | some y =>
    refine ⟨_, h2, Nat.lt_of_lt_of_le (Nat.lt_of_le_of_lt (Nat.le_trans (outL_len outs i) (Nat.le_of_lt hi)) hn) (by decide), same_mutD h3 hD, ?_⟩
    rw [upd_same, outL_succ, e]
    rfl
theorem comp_R {lo : Int} {n : Nat} {g : TG} {tt : TT} {te : TE} {vs : List Nat} {σ : St} {H1 : Hp} {Q : VK} (outs : Nat → Option V) (hn : n < 2 ^ 22)
    (turn : ∀ i H', i < n → Same H1 H' → ∀ Qo : Option V → Hp → Prop, (∀ H2, Same H' H2 → Qo (outs i) H2) → g (.int (lo + i)) (wipe σ vs) H' fun σ2 H2 => wipe σ2 vs = wipe σ vs ∧ tt σ2 H2 fun b H3 => if b = true then te σ2 H3 fun y H4 => Qo (some y) H4 else Qo none H3)
    (fin : ∀ D H', Same H1 H' → H' D = some (.lst (outL outs n)) → Q (.ref D) H') : LcW (Itr lo n) H1 g tt te vs σ Q := fun D hD =>
  lc_range (lo := lo) (n := n) (fun i H' => Same H1 H' ∧ H' D = some (.lst (outL outs i))) ⟨fun b u h => by rw [upd_ne (ne_of_none h hD)]; exact h, upd_same⟩
    (fun i H' hi p => turn i H' hi p.1 (OutOf D fun H' => Same H1 H' ∧ H' D = some (.lst (outL outs (i + 1)))) fun H2 s => out_ok hD outs hi hn p s) (fun H' p => fin D H' p.1 p.2)
theorem comp_T {K : PySem.W.Frag} {a : Addr} {xs : List V} {g : TG} {tt : TT} {te : TE} {vs : List Nat} {σ : St} {H1 : Hp} {Q : VK} (hT : SqT K H1 a xs) (outs : Nat → Option V) (hn : xs.length < 2 ^ 22)
    (turn : ∀ i x H', xs[i]? = some x → Same H1 H' → ∀ Qo : Option V → Hp → Prop, (∀ H2, Same H' H2 → Qo (outs i) H2) → g x (wipe σ vs) H' fun σ2 H2 => wipe σ2 vs = wipe σ vs ∧ tt σ2 H2 fun b H3 => if b = true then te σ2 H3 fun y H4 => Qo (some y) H4 else Qo none H3)
    (fin : ∀ D H', Same H1 H' → H' D = some (.lst (outL outs xs.length)) → Q (.ref D) H') : LcW (Itt K a) H1 g tt te vs σ Q := fun D hD => by
  have hsq : ∀ H', Same H1 H' → SqT K H' a xs := fun H' s => by
    rcases hT with (h | ⟨o, h⟩) | h
    · exact .inl (.inl (s _ _ h))
    · exact .inl (.inr ⟨o, s _ _ h⟩)
    · exact .inr h
  exact lc_tup (K := K) (a := a) (xs := xs) (fun i H' => Same H1 H' ∧ H' D = some (.lst (outL outs i))) ⟨fun b u h => by rw [upd_ne (ne_of_none h hD)]; exact h, upd_same⟩ (fun i H' _ p => hsq H' p.1)
    (fun i x H' hx p => turn i x H' hx p.1 (OutOf D fun H' => Same H1 H' ∧ H' D = some (.lst (outL outs (i + 1)))) fun H2 s => out_ok hD outs (by
      have := List.getElem?_eq_some_iff.mp hx
      exact this.1) hn p s) (fun H' p => fin D H' p.1 p.2)
theorem comp_L {K : PySem.W.Frag} {a : Addr} {xs : List V} {g : TG} {tt : TT} {te : TE} {vs : List Nat} {σ : St} {H1 : Hp} {Q : VK} (hT : SqL K H1 a xs) (outs : Nat → Option V) (hn : xs.length < 2 ^ 22)
    (turn : ∀ i x H', xs[i]? = some x → Same H1 H' → ∀ Qo : Option V → Hp → Prop, (∀ H2, Same H' H2 → Qo (outs i) H2) → g x (wipe σ vs) H' fun σ2 H2 => wipe σ2 vs = wipe σ vs ∧ tt σ2 H2 fun b H3 => if b = true then te σ2 H3 fun y H4 => Qo (some y) H4 else Qo none H3)
    (fin : ∀ D H', Same H1 H' → H' D = some (.lst (outL outs xs.length)) → Q (.ref D) H') : LcW (Itl K a) H1 g tt te vs σ Q := fun D hD =>
  lc_list (K := K) (a := a) (xs := xs) (fun i H' => Same H1 H' ∧ H' D = some (.lst (outL outs i))) ⟨fun b u h => by rw [upd_ne (ne_of_none h hD)]; exact h, upd_same⟩ (fun i H' _ p => p.1.seq hT)
    (fun i x H' hx p => turn i x H' hx p.1 (OutOf D fun H' => Same H1 H' ∧ H' D = some (.lst (outL outs (i + 1)))) fun H2 s => out_ok hD outs (by
      have := List.getElem?_eq_some_iff.mp hx
      exact this.1) hn p s) (fun H' p => fin D H' p.1 p.2)
theorem for_T {K : PySem.W.Frag} {a : Addr} {xs : List V} {g : TG} {tb : TS} {D : Ends} {σ : St} {H : Hp} (Pv : Nat → St → Hp → Prop) (h0 : Pv 0 σ H) (hl : ∀ i σ H, i ≤ xs.length → Pv i σ H → SqT K H a xs)
    (hs : ∀ i x σ H, xs[i]? = some x → Pv i σ H → ∀ N : St → Hp → Prop, (∀ σ' H', Pv (i + 1) σ' H' → N σ' H') → g x σ H fun σ2 H2 => tb { D with nx := N, ct := N, bk := D.nx } σ2 H2) (hd : ∀ σ H, Pv xs.length σ H → D.nx σ H) : ForW (Itt K a) H g tb D σ :=
  for_tup (xs := xs) Pv h0 hl (fun i x σ H hx p => hs i x σ H hx p _ fun _ _ h => h) hd
theorem for_L {K : PySem.W.Frag} {a : Addr} {xs : List V} {g : TG} {tb : TS} {D : Ends} {σ : St} {H : Hp} (Pv : Nat → St → Hp → Prop) (h0 : Pv 0 σ H) (hl : ∀ i σ H, i ≤ xs.length → Pv i σ H → SqL K H a xs)
    (hs : ∀ i x σ H, xs[i]? = some x → Pv i σ H → ∀ N : St → Hp → Prop, (∀ σ' H', Pv (i + 1) σ' H' → N σ' H') → g x σ H fun σ2 H2 => tb { D with nx := N, ct := N, bk := D.nx } σ2 H2) (hd : ∀ σ H, Pv xs.length σ H → D.nx σ H) : ForW (Itl K a) H g tb D σ :=
  for_list (xs := xs) Pv h0 hl (fun i x σ H hx p => hs i x σ H hx p _ fun _ _ h => h) hd
theorem for_R {lo : Int} {n : Nat} {g : TG} {tb : TS} {D : Ends} {σ : St} {H : Hp} (Pv : Nat → St → Hp → Prop) (h0 : Pv 0 σ H)
    (hs : ∀ i σ H, i < n → Pv i σ H → ∀ N : St → Hp → Prop, (∀ σ' H', Pv (i + 1) σ' H' → N σ' H') → g (.int (lo + i)) σ H fun σ2 H2 => tb { D with nx := N, ct := N, bk := D.nx } σ2 H2) (hd : ∀ σ H, Pv n σ H → D.nx σ H) : ForW (Itr lo n) H g tb D σ :=
  for_range (lo := lo) (n := n) Pv h0 (fun i σ H hx p => hs i σ H hx p _ fun _ _ h => h) hd
/-- while: the invariant W by its measure; N is what a turn is to reach -/
theorem while_of {c : TT} {tb : TS} {D : Ends} {σ : St} {H : Hp} (W : Nat → St → Hp → Prop) (m0 : Nat) (h0 : W m0 σ H)
    (hs : ∀ m σ H, W m σ H → ∀ N : St → Hp → Prop, (∀ m' σ' H', m' < m → W m' σ' H' → N σ' H') → (∀ σ' H', N σ' H' → ∃ m', m' < m ∧ W m' σ' H') →
      c σ H fun b H1 => if b = true then ∃ N : St → Hp → Prop, (∀ σ' H', N σ' H' → ∃ m', m' < m ∧ W m' σ' H') ∧ tb { D with nx := N, ct := N, bk := D.nx } σ H1 else D.nx σ H1) : tWhile c tb D σ H :=
  ⟨W, ⟨m0, h0⟩, fun m σ H w => hs m σ H w _ (fun m' _ _ a b => ⟨m', a, b⟩) (fun _ _ h => h)⟩
/-- a comprehension over zip of two tuples of one length -/
theorem comp_ZT {K : PySem.W.Frag} {a b : Addr} {xs ys : List V} {g : TG} {tt : TT} {te : TE} {vs : List Nat} {σ : St} {H1 : Hp} {Q : VK} (hl : xs.length = ys.length) (hA : SqT K H1 a xs) (hB : SqT K H1 b ys) (outs : Nat → Option V) (hn : xs.length < 2 ^ 22)
    (turn : ∀ i x y T H', xs[i]? = some x → ys[i]? = some y → Same H1 H' → H' T = none → ∀ Qo : Option V → Hp → Prop, (∀ H2, Same H' H2 → Qo (outs i) H2) → g (.ref T) (wipe σ vs) (upd H' T (.tup [x, y])) fun σ2 H2 => wipe σ2 vs = wipe σ vs ∧ tt σ2 H2 fun b H3 => if b = true then te σ2 H3 fun y H4 => Qo (some y) H4 else Qo none H3)
    (fin : ∀ D H', Same H1 H' → H' D = some (.lst (outL outs xs.length)) → Q (.ref D) H') : LcW (RZ.ItzT K a b) H1 g tt te vs σ Q := fun D hD => by
  have hsq : ∀ {a xs H'}, SqT K H1 a xs → Same H1 H' → SqT K H' a xs := fun hT s => by
    rcases hT with (h | ⟨o, h⟩) | h
    · exact .inl (.inl (s _ _ h))
    · exact .inl (.inr ⟨o, s _ _ h⟩)
    · exact .inr h
  refine ⟨fun i m H => m = xs.length - i ∧ i ≤ xs.length ∧ Same H1 H ∧ H D = some (.lst (outL outs i)), ⟨xs.length, by simp, Nat.zero_le _, fun b u h => by rw [upd_ne (ne_of_none h hD)]; exact h, upd_same⟩, ?_⟩
  rintro i m H ⟨rfl, hi, s1, hL⟩
  by_cases hlt : i < xs.length
  · have jlt : i < ys.length := by omega
    refine .inr ⟨⟨xs, ys, _, _, hsq hA s1, hsq hB s1, List.getElem?_eq_getElem hlt, List.getElem?_eq_getElem jlt⟩, fun H => Same H1 H ∧ H D = some (.lst (outL outs (i + 1))), fun H' p' => ⟨xs.length - (i + 1), by omega, rfl, hlt, p'⟩, fun v H' y => ?_⟩
    obtain ⟨T, u, v, rfl, hT, rfl, f1, f2⟩ := y
    exact turn i u v T H (f1 xs (hsq hA s1)) (f2 ys (hsq hB s1)) s1 hT (OutOf D fun H' => Same H1 H' ∧ H' D = some (.lst (outL outs (i + 1)))) fun H2 s => out_ok hD outs hlt hn ⟨s1, hL⟩ s
  · obtain rfl : i = xs.length := by omega
    exact .inl ⟨⟨xs, ys, hsq hA s1, hsq hB s1, Or.inl (Nat.le_refl _)⟩, fin D H s1 hL⟩
def Lc2W (J : It) (H1 : Hp) (g : TG) (tt : TT) (wi1 : TI) (g1 : TG) (tt1 : TT) (te : TE) (vs vs1 : List Nat) (σ : St) (Q : VK) : Prop := tLc2 (fun _ _ R => R J H1) g tt wi1 g1 tt1 te vs vs1 σ H1 Q
theorem z_lc2 {wi wi1 : TI} {g g1 : TG} {tt tt1 : TT} {te : TE} {vs vs1 : List Nat} {σ : St} {H : Hp} {Q : VK} : tLc2 wi g tt wi1 g1 tt1 te vs vs1 σ H Q = wi σ H fun J H1 => Lc2W J H1 g tt wi1 g1 tt1 te vs vs1 σ Q := rfl
/-- [f x y for x in xs for y in ys], both lists, f without a trace on the heap -/
theorem comp2_LL {K : PySem.W.Frag} {a b : Addr} {xs ys : List V} {g g1 : TG} {wi1 : TI} {te : TE} {vs vs1 : List Nat} {σ : St} {H1 : Hp} {Q : VK} (f : V → V → V) (σ1 : V → St) (σ2 : V → V → St) (hA : SqL K H1 a xs) (hB : SqL K H1 b ys) (hn : xs.length * ys.length < 2 ^ 22)
    (hg : ∀ x H' (P : St → Hp → Prop), P (σ1 x) H' → g x (wipe σ vs) H' P) (hw : ∀ x, wipe (σ1 x) vs = wipe σ vs)
    (hi : ∀ x H' R, Same H1 H' → R (Itl K b) H' → wi1 (σ1 x) H' R)
    (hg1 : ∀ x y H' (P : St → Hp → Prop), P (σ2 x y) H' → g1 y (wipe (σ1 x) vs1) H' P) (hw1 : ∀ x y, wipe (σ2 x y) vs1 = wipe (σ1 x) vs1)
    (he : ∀ x y H' Qe, x ∈ xs → y ∈ ys → Same H1 H' → Qe (f x y) H' → te (σ2 x y) H' Qe)
    (fin : ∀ D H', Same H1 H' → H' D = some (.lst (xs.flatMap fun x => ys.map (f x))) → Q (.ref D) H') :
    Lc2W (Itl K a) H1 g tYes wi1 g1 tYes te vs vs1 σ Q := fun D hD => by
  have full : ∀ i j : Nat, i < xs.length → j ≤ ys.length → (((xs.take i).flatMap fun x => ys.map (f x)) ++ ((ys.take j).map (f (xs[i]?.getD .non)))).length ≤ xs.length * ys.length := fun i j hi hj => by
    have e : ∀ l : List V, (l.flatMap fun x => ys.map (f x)).length = l.length * ys.length := fun l => by
      induction l with
      | nil => simp
      | cons x t ih => rw [List.flatMap_cons, List.length_append, ih, List.length_map, List.length_cons, Nat.add_mul, Nat.one_mul, Nat.add_comm]
    rw [List.length_append, e, List.length_map, List.length_take, List.length_take, Nat.min_eq_left (by omega), Nat.min_eq_left hj]
    have : (i + 1) * ys.length ≤ xs.length * ys.length := Nat.mul_le_mul_right _ hi
    rw [Nat.add_mul, Nat.one_mul] at this
    omega
  refine ⟨fun i m H => m = xs.length - i ∧ i ≤ xs.length ∧ Same H1 H ∧ H D = some (.lst ((xs.take i).flatMap fun x => ys.map (f x))), ⟨xs.length, by simp, Nat.zero_le _, fun b u h => by rw [upd_ne (ne_of_none h hD)]; exact h, by rw [upd_same]; simp⟩, ?_⟩
  rintro i m H ⟨rfl, hi', s1, hL⟩
  by_cases hlt : i < xs.length
  · have hx := List.getElem?_eq_getElem hlt
    refine .inr ⟨⟨xs, _, s1.seq hA, hx⟩, fun H => Same H1 H ∧ H D = some (.lst ((xs.take (i + 1)).flatMap fun x => ys.map (f x))), fun H' p' => ⟨xs.length - (i + 1), by omega, rfl, hlt, p'⟩, fun v H' y => ?_⟩
    obtain ⟨rfl, f1⟩ := y
    have hv := f1 xs (s1.seq hA)
    have ev : v = xs[i] := by rw [hx] at hv; exact (Option.some.inj hv).symm
    refine hg _ _ _ ⟨hw _, ?_⟩
    show wi1 _ _ _
    refine hi _ _ _ s1 ?_
    refine ⟨fun j k H => k = ys.length - j ∧ j ≤ ys.length ∧ Same H1 H ∧ H D = some (.lst (((xs.take i).flatMap fun x => ys.map (f x)) ++ ((ys.take j).map (f v)))), ⟨ys.length, by simp, Nat.zero_le _, s1, by simpa using hL⟩, ?_⟩
    rintro j k H ⟨rfl, hj, s2, hM⟩
    by_cases hjt : j < ys.length
    · have hy : ys[j]? = some ys[j] := List.getElem?_eq_getElem hjt
      refine .inr ⟨⟨ys, _, s2.seq hB, hy⟩, fun H => Same H1 H ∧ H D = some (.lst (((xs.take i).flatMap fun x => ys.map (f x)) ++ ((ys.take (j + 1)).map (f v)))), fun H' p' => ⟨ys.length - (j + 1), by omega, rfl, hjt, p'⟩, fun u H' y => ?_⟩
      obtain ⟨rfl, f2⟩ := y
      have hu := f2 ys (s2.seq hB)
      refine hg1 _ _ _ _ ⟨hw1 _ _, ?_⟩
      show te _ _ _
      refine he _ _ _ _ (List.mem_of_getElem? hv) (List.mem_of_getElem? hu) s2 ?_
      have fl := full i j hlt hj
      rw [hv] at fl
      refine ⟨_, hM, Nat.lt_of_le_of_lt fl (Nat.lt_of_lt_of_le hn (by decide)), same_mutD s2 hD, ?_⟩
      rw [upd_same, List.take_succ, hu, List.append_assoc]
      simp
    · have e : j = ys.length := by omega
      subst e
      refine .inl ⟨⟨ys, s2.seq hB, Nat.le_refl _⟩, s2, ?_⟩
      rw [hM, List.take_length, List.take_succ, hv]
      simp
  · obtain rfl : i = xs.length := by omega
    exact .inl ⟨⟨xs, s1.seq hA, Nat.le_refl _⟩, fin D H s1 (by rw [hL, List.take_length])⟩
theorem z_dget2 {σ : St} {H : Hp} {Q : VK} {ta tb te : TE} : tDGet2 ta tb te σ H Q = ta σ H fun x H1 => ∃ a, x = .ref a ∧ IsD H1 a ∧ tb σ H1 fun y H2 => te σ H2 fun z H3 => ∃ o, DGet H3 a y o ∧ Q (o.getD z) H3 := rfl
theorem z_izip {K : PySem.W.Frag} {σ : St} {H : Hp} {tl : TA} {R : It → Hp → Prop} : RZ.iZipA K tl σ H R = tl σ H fun vs H1 => ∃ a b xs ys, vs = [.ref a, .ref b] ∧ ((SqL K H1 a xs ∧ SqL K H1 b ys ∧ R (Itz K a b) H1) ∨ (SqT K H1 a xs ∧ SqT K H1 b ys ∧ R (RZ.ItzT K a b) H1)) := rfl
open Sem (wp)
/-! enumerate over a tuple -/
def itO (a : Addr) : Obj := { cls := .type "tuple_iterator", data := .fields #[.ref a, .int 0 0] }
def enO (it : Addr) : Obj := { cls := .type "enumerate", data := .fields #[.none, .bool false, .ref it, rawInt 0, .none, .none] }
theorem en_new (a : Addr) (its : Array Value) : Meets (Builtin.«enumerate.__new__» ⟨[.type "enumerate", .ref a], []⟩) (fun _ R s0 => s0.heap.IsTuple a its ∧ R (.ok (.ret (.ref (s0.heap.push (itO a)).objs.size))) { s0 with heap := (s0.heap.push (itO a)).push (enO s0.heap.objs.size) }) :=
  .of_wp fun prg wd AA RR s0 hs => by
    obtain ⟨hp, gg, dd, tk, os⟩ := s0
    obtain ⟨hT, hs⟩ := hs
    have hsub := PySem.sub_enumerate
    have go : ∀ {A' : Around} {E' : Value → Shared → Prop} {Q' : Value → Shared → Prop}, Q' (.ref hp.objs.size) ⟨hp.push (itO a), gg, dd, tk, os⟩ → wpAny (model prg wd) A' (pyIter (.ref a)) Q' E' ⟨hp, gg, dd, tk, os⟩ := fun q => (begins_tuple a its).iter prg wd _ _ ⟨hp, gg, dd, tk, os⟩ _ hT q
    wp_walk using go
    refine wpAny_stack_any fun stk => wpAny_pure ?_
    split
    · rename_i cc _ _ _ _ _
      cases (cc == Value.type "enumerate") <;> (wp_walk using go; exact ⟨_, rfl, hs⟩)
    · wp_walk using go
      exact ⟨_, rfl, hs⟩
theorem en_call {prg : Program} {wd : World} {AA : Around} {EE : Value → Shared → Prop} {s0 : Shared} {a : Addr} {its : Array Value} {Q : Value → Shared → Prop} (hT : s0.heap.IsTuple a its)
    (h : ∀ h1, IsEnum h1 (s0.heap.objs.size + 1) s0.heap.objs.size 0 .none → h1.IsTupleIter s0.heap.objs.size a 0 → (∀ b ob, s0.heap.get? b = some ob → h1.get? b = some ob) → Q (.ref (s0.heap.objs.size + 1)) { s0 with heap := h1 }) :
    wpAny (model prg wd) AA (call (.type "enumerate") [.ref a]) Q EE s0 := by
  refine callType_new F.called_enumerate (by decide) (F.typeCall_enumerate_1 _) (F.newCall_enumerate_1 _) (fun ob => F.args_object_init_2 ob _) F.entry_enumerate_new (en_new a its) ⟨hT, ?_⟩
  have z1 : (s0.heap.push (itO a)).objs.size = s0.heap.objs.size + 1 := Heap.size_push ..
  have z2 : IsEnum ((s0.heap.push (itO a)).push (enO s0.heap.objs.size)) (s0.heap.objs.size + 1) s0.heap.objs.size 0 .none := by
    have z3 := Heap.get?_push_size (s0.heap.push (itO a)) (o := enO s0.heap.objs.size) rfl
    rw [z1] at z3
    exact z3
  show _ ∧ _
  rw [z1]
  exact ⟨⟨_, z2, rfl⟩, h _ z2 ⟨_, Heap.get?_push_of_some _ (Heap.get?_push_size _ rfl), rfl, rfl⟩ fun b ob y => Heap.get?_push_of_some _ (Heap.get?_push_of_some _ y)⟩
/-- the tuple at a, each item in a new pair with its index -/
def IteT (K : PySem.W.Frag) (a : Addr) : It :=
  ⟨fun i H => ∃ (xs : List V) (x : V), SqT K H a xs ∧ xs[i]? = some x,
   fun i H v H' => ∃ T x, v = .ref T ∧ H T = none ∧ H' = upd H T (.tup [.int (i : Nat), x]) ∧ ∀ xs, SqT K H a xs → xs[i]? = some x,
   fun i H => ∃ xs : List V, SqT K H a xs ∧ xs.length = i⟩
theorem en_apart {h : Heap} {e it a : Addr} {n : Int} {old : Value} {its : Array Value} {i : Nat} (he : IsEnum h e it n old) (hi : h.IsTupleIter it a i) (ha : h.IsTuple a its) : a ≠ it ∧ e ∉ [it, a] ∧ e ≠ it := by
  obtain ⟨o1, g1, c1, _⟩ := hi
  obtain ⟨o2, g2, c2, _⟩ := ha
  have n1 : a ≠ it := fun q => by
    rw [q, g1] at g2
    cases g2
    rw [c1] at c2
    exact absurd c2 (by decide)
  have n2 : e ≠ it := fun q => by
    rw [q] at he
    have := g1.symm.trans he
    cases this
    exact (show (Value.type "enumerate") ≠ Value.type "tuple_iterator" by decide) c1
  have n3 : e ≠ a := fun q => by
    rw [q] at he
    have := g2.symm.trans he
    cases this
    exact (show (Value.type "enumerate") ≠ Value.type "tuple" by decide) c2
  exact ⟨n1, by simp [n2, n3], n2⟩
theorem turn_enT {prg : Program} {wd : World} {K : PySem.W.Frag} {elts : List Expr} {kk : Nat} {tpos : Pos} (a e it : Addr) : Turn prg wd K (.Tuple elts kk tpos) (IteT K a) [e, it] e (fun i h => (∃ old, IsEnum h e it ((i : Nat) : Int) old) ∧ h.IsTupleIter it a i) where
  mem := List.mem_cons_self
  obj := fun i h st b hb => by
    obtain ⟨⟨old, he⟩, o, ho, _, hd⟩ := st
    rcases List.mem_cons.mp hb with z | z
    · subst z
      exact ⟨_, he, fun v q => nomatch q⟩
    · obtain rfl := List.mem_singleton.mp z
      exact ⟨o, ho, fun v q => by rw [hd] at q; cases q⟩
  keep := fun i h h' st k => by
    obtain ⟨⟨old, he⟩, hi⟩ := st
    exact ⟨⟨old, k e List.mem_cons_self _ he⟩, hi.at fun o q => k it (List.mem_cons_of_mem _ List.mem_cons_self) o q⟩
  item := by
    intro X hP hw hK hc i pins s0 σ H EE I hf st hg
    subst hP hw hK
    obtain ⟨⟨old, he⟩, hi⟩ := st
    obtain ⟨xs, x, hq, hx⟩ := hg
    obtain ⟨its, rv, p, _⟩ := I.tuple hq
    have p : s0.heap.IsTuple a its.toArray := p
    obtain ⟨u, hu, relu⟩ := rv.get hx
    obtain ⟨n1, n2, n3⟩ := en_apart he hi p
    have hlt : i < its.toArray.size := by
      have := (List.getElem?_eq_some_iff.mp hu).1
      simpa using this
    have szE : e < s0.heap.objs.size := Heap.lt_size he
    have szI : it < s0.heap.objs.size := by
      obtain ⟨_, q, _⟩ := hi
      exact Heap.lt_size q
    refine wpAny_pyNext_enum_itemD (Draws.tuple (A := X.A.in1) (I.ok.hd hc) it a n1 its.toArray) he ⟨hi, p⟩ hlt n3 n2 fun y h1 tk hy ho hs hT _ hk => ?_
    have ey : y = u := by
      have : its[i]? = some y := by simpa using hy
      rw [hu] at this
      exact (Option.some.inj this).symm
    subst ey
    refine ⟨_, rfl, wpAny_letOwnedTupleGo_enum (s := { s0 with heap := h1, toks := tk + 1 }) ho fun h2 he2 sb => ?_⟩
    have hT2 := (sb.2 _ (Nat.ne_of_gt szE)).trans hT
    have fresh : H s0.heap.objs.size = none := I.hok.fresh (Nat.le_refl _)
    have neu : ObjOk X.prog X.w (upd H s0.heap.objs.size (.tup [.int (i : Nat), x])) h2 s0.heap.objs.size (.tup [.int (i : Nat), x]) := ⟨by show 2 ≤ sizeLine; decide, [.int i tk, y], .cons ⟨_, rfl⟩ (.cons relu .nil), ⟨_, hT2, rfl, _, rfl⟩⟩
    have kept : ∀ b ob, b ∉ [e, it] → s0.heap.get? b = some ob → h2.get? b = some ob := fun b ob hb q => by
      have hb' : b ≠ e ∧ b ≠ it := by simpa using hb
      exact (sb.2 b hb'.1).trans (hk b ob hb'.1 hb'.2 q)
    have J := I.turnedNew (t' := tk + 1) kept hf (Nat.le_refl _) neu
    refine ⟨.ref s0.heap.objs.size, _, J, rfl, ⟨_, x, rfl, fresh, rfl, fun ys hy => by rw [I.tuple_inj hy hq]; exact hx⟩, ⟨⟨y, ?_⟩, hs.1.at fun o q => (sb.2 it (Ne.symm n3)).trans q⟩, fun b hb => ?_⟩
    · rw [show ((i + 1 : Nat) : Int) = (i : Int) + 1 by omega]; exact he2
    · have hlt2 : b < s0.heap.objs.size := by
        rcases List.mem_cons.mp hb with z | z
        · rw [z]; exact szE
        · rw [List.mem_singleton.mp z]; exact szI
      rw [upd_ne (Nat.ne_of_lt hlt2)]
      exact (hf b hb).1
  done := by
    intro X hP hw hK hc i pins s0 σ H EE I hf st hg
    subst hP hw hK
    obtain ⟨⟨old, he⟩, hi⟩ := st
    obtain ⟨xs, hq, hx⟩ := hg
    obtain ⟨its, rv, p, _⟩ := I.tuple hq
    have p : s0.heap.IsTuple a its.toArray := p
    obtain ⟨n1, n2, n3⟩ := en_apart he hi p
    obtain ⟨f0, f1, f2, f3, f4, f5⟩ := hf it (List.mem_cons_of_mem _ List.mem_cons_self)
    have e1 : i = its.toArray.size := by
      have := rv.length
      simp
      omega
    subst e1
    exact wpAny_pyNext_enum_endD (Draws.tuple (A := X.A.in1) (I.ok.hd hc) it a n1 its.toArray) he ⟨hi, p⟩ fun h1 eb => ⟨rfl, I.turned (t' := s0.toks) (fun b ob hb q => eb b ob hb q) f0 f1 f3 f4 f5⟩
  self := fun AA i s0 Q EE st h => by
    obtain ⟨⟨_, he⟩, _⟩ := st
    exact wpAny_pyIter_enum he h
def iEnT (K : PySem.W.Frag) (ta : TA) : TI := fun σ H R => ta σ H fun vs H1 => ∃ a xs, vs = [.ref a] ∧ SqT K H1 a xs ∧ R (IteT K a) H1
theorem pi_enT {X : Cx} {e : Expr} {ta : TA} {p pos tpos : Pos} {elts : List Expr} {kk : Nat} (hg : Gl X "enumerate") (hm : X.mg "enumerate" = none) (ha : PA X [e] ta) (hs : starEach [e] X.env = [(false, eval e X.env)] := by rfl) : PI X (.Tuple elts kk tpos) (.Call (.Name "enumerate" p) [e] [] pos) (iEnT X.K ta) := by
  refine ⟨fun pins s0 σ H R I h => Call_ (ld_blt I hg hm boot_enumerate (PyProof.Rows.callWith_type1 (thn (ha.run pos pins s0 σ H _ I h) fun us s1 ⟨vs, H1, I1, r1, q1⟩ => ?_) hs rfl))⟩
  obtain ⟨a, xs, rfl, hq, q⟩ := q1
  cases r1 with
  | cons r rr =>
    cases rr
    cases r
    obtain ⟨its, rv, p', _⟩ := I1.tuple hq
    refine en_call (show s1.heap.IsTuple a its.toArray from p') fun h1 he hi hk => wpAny_pyIter_enum he ?_
    have J : Inv X pins σ H1 { s1 with heap := h1 } := I1.kept (t' := s1.toks) hk
    refine ⟨s1.heap.objs.size + 1, [s1.heap.objs.size + 1, s1.heap.objs.size], _, _, H1, rfl, J, turn_enT a (s1.heap.objs.size + 1) s1.heap.objs.size, ⟨⟨.none, he⟩, hi⟩, fun b hb => ?_, q⟩
    have above : s1.heap.objs.size ≤ b := (List.mem_cons.mp hb).elim (fun q => by rw [q]; exact Nat.le_succ _) (fun q => by rw [List.mem_singleton.mp q]; exact Nat.le_refl _)
    exact I1.fpOk above (I1.hok.fresh above)
/-- for i, x in enumerate(a tuple) -/
theorem for_enT {K : PySem.W.Frag} {a : Addr} {xs : List V} {g : TG} {tb : TS} {D : Ends} {σ : L2.St} {H : Hp} (Pv : Nat → L2.St → Hp → Prop) (h0 : Pv 0 σ H) (hl : ∀ i σ H, Pv i σ H → SqT K H a xs)
    (hs : ∀ (i : Nat) (x : V) (T : Addr) (σ : L2.St) (H : Hp), xs[i]? = some x → Pv i σ H → H T = none → ∀ N : L2.St → Hp → Prop, (∀ σ' H', Pv (i + 1) σ' H' → N σ' H') → g (.ref T) σ (upd H T (.tup [.int (i : Nat), x])) fun σ2 H2 => tb { D with nx := N, ct := N, bk := D.nx } σ2 H2) (hd : ∀ σ H, Pv xs.length σ H → D.nx σ H) : ForW (IteT K a) H g tb D σ := by
  refine ⟨fun k m σ H => m + k = xs.length ∧ Pv k σ H, ⟨xs.length, by omega, h0⟩, ?_⟩
  rintro i m σ H ⟨em, p⟩
  have q := hl i σ H p
  by_cases hlt : i < xs.length
  · refine .inr ⟨⟨xs, _, q, List.getElem?_eq_getElem hlt⟩, Pv (i + 1), fun σ' H' p' => ⟨xs.length - (i + 1), by omega, by omega, p'⟩, fun v H' y => ?_⟩
    obtain ⟨T, x', rfl, hT, rfl, f1⟩ := y
    exact hs i x' T σ H (f1 xs q) p hT _ fun _ _ h => h
  · obtain rfl : i = xs.length := by omega
    exact .inl ⟨⟨xs, q, rfl⟩, hd σ H p⟩
theorem z_ient {K : PySem.W.Frag} {σ : L2.St} {H : Hp} {tl : TA} {R : It → Hp → Prop} : iEnT K tl σ H R = tl σ H fun vs H1 => ∃ a xs, vs = [.ref a] ∧ SqT K H1 a xs ∧ R (IteT K a) H1 := rfl
/-! a chain of three comparisons -/
def tChain3 (r r' r'' : R2) (ta tb tc td : TE) : TE := fun σ H Q => ta σ H fun x H1 => tb σ H1 fun y H2 => r x y H2 fun z H3 => ∃ k, z = .bl k ∧ (if k = true then tc σ H3 fun u H4 => r' y u H4 fun z2 H5 => ∃ k2, z2 = .bl k2 ∧ (if k2 = true then td σ H5 fun v H6 => r'' u v H6 Q else Q (.bl false) H5) else Q (.bl false) H3)
theorem pt_chain3 {X : Cx} {pos : Pos} {a b c d : Expr} {ta tb tc td : TE} {op op' op'' : CmpOp} {r r' r'' : R2} (ho : OpR X (compareOp op) r) (ho' : OpR X (compareOp op') r') (ho'' : OpR X (compareOp op'') r'') (ha : PE X a ta) (hb : PE X b tb) (hc : PE X c tc) (hd : PE X d td)
    (hm : lastMarks [op, op', op''] [b, c, d] = false := by with_unfolding_all rfl) : PT X (.Compare a [op, op', op''] [b, c, d] pos) (tTest (tChain3 r r' r'' ta tb tc td)) := by
  refine ⟨fun pins s0 σ H Q I h => isTrue_chain (thn (ha.run pins s0 σ H _ I h) fun v s1 ⟨x, H1, I1, r1, q1⟩ => test_link (thn (hb.run pins s1 σ H1 _ I1 q1) fun u s2 ⟨y, H2, I2, r2, q2⟩ => thn (ho pins s2 σ H2 x y v u _ I2 r1 r2 q2) fun dd s3 ⟨z, H3, I3, r3, k, e, q3⟩ => ?_)) hm⟩
  subst e
  cases r3
  refine wpAny_truthy_bool ?_
  cases k with
  | false =>
    obtain ⟨k', e', q'⟩ := q3
    cases e'
    exact ite_ff ⟨H3, I3, q'⟩
  | true =>
    refine ite_tt (test_link (thn (hc.run pins s3 σ H3 _ I3 q3) fun w' s4 ⟨z', H4, I4, r4, q4⟩ => thn (ho' pins s4 σ H4 y z' u w' _ I4 r2 r4 q4) fun d' s5 ⟨z2, H5, I5, r5, k2, e2, q5⟩ => ?_))
    subst e2
    cases r5
    refine wpAny_truthy_bool ?_
    cases k2 with
    | false =>
      obtain ⟨k', e', q'⟩ := q5
      cases e'
      exact ite_ff ⟨H5, I5, q'⟩
    | true =>
      refine ite_tt (test_last (thn (hd.run pins s5 σ H5 _ I5 q5) fun w2 s6 ⟨z3, H6, I6, r6, q6⟩ => thn (ho'' pins s6 σ H6 z' z3 w' w2 _ I6 r4 r6 q6) fun d2 s7 ⟨z4, H7, I7, r7, k3, e3, q7⟩ => ?_))
      subst e3
      cases r7
      exact wpAny_truthy_bool ⟨H7, I7, q7⟩
theorem z_chain3 {K : PySem.W.Frag} {σ : L2.St} {H : Hp} {Q : VK} {r r' r'' : R2} {ta tb tc td : TE} : tChain3 r r' r'' ta tb tc td σ H Q = ta σ H fun x H1 => tb σ H1 fun y H2 => r x y H2 fun z H3 => ∃ k, z = .bl k ∧ (if k = true then tc σ H3 fun u H4 => r' y u H4 fun z2 H5 => ∃ k2, z2 = .bl k2 ∧ (if k2 = true then td σ H5 fun v H6 => r'' u v H6 Q else Q (.bl false) H5) else Q (.bl false) H3) := rfl
/-! x in (a, b, ..): the tuple is forgotten at once -/
def tInT (neg : Bool) (ta : TE) (ts : TA) : TE := fun σ H Q => ta σ H fun x H1 => ts σ H1 fun xs H2 => xs.length ≤ sizeLine ∧ flatV x = true ∧ xs.all flatV = true ∧ Q (.bl (if neg then !inV x xs else inV x xs)) H2
theorem z_inT {neg : Bool} {ta : TE} {ts : TA} {σ : L2.St} {H : Hp} {Q : VK} : tInT neg ta ts σ H Q = ta σ H fun x H1 => ts σ H1 fun xs H2 => xs.length ≤ sizeLine ∧ flatV x = true ∧ xs.all flatV = true ∧ Q (.bl (if neg then !inV x xs else inV x xs)) H2 := rfl
theorem pe_inT {X : Cx} {a : Expr} {ta : TE} {es : List Expr} {ts : TA} {x1} {p pos : Pos} (ha : PE X a ta) (h : PA X es ts) (hm : behindInMarks .In (.Tuple es x1 p) = false) : PE X (.Compare a [.In] [.Tuple es x1 p] pos) (tInT false ta ts) := by
  refine ⟨fun pins s σ H Q I hq => ?_⟩
  refine wpAny_Compare1 (thn (ha.run pins s σ H _ I hq) fun v s1 ⟨x, H1, I1, r1, q1⟩ => wpAny_Tuple_spliced (thn (h.run p pins s1 σ H1 _ I1 q1) fun us s2 ⟨xs, H2, I2, r, z, fx, fs, q⟩ => ⟨by rw [← r.length]; exact z, ?_⟩)) hm
  have I3 : Inv X pins σ H2 { s2 with heap := s2.heap.push { cls := .type "tuple", data := .seq us.toArray } } := I2.kept (t' := s2.toks) fun b u e => Heap.get?_push_of_some _ e
  refine SeqAt.in_tupleAt (eqU x) ⟨_, Heap.get?_push_size _ rfl, rfl, _, rfl⟩ (fun w hw => mem_eqAt r1 fx r fs w (by simpa using hw)) ⟨.bl _, H2, I3, rfl, ?_⟩
  rw [show us.toArray.any (eqU x) = us.any (eqU x) by simp, any_eqU r fs]
  exact q
theorem pe_notInT {X : Cx} {a : Expr} {ta : TE} {es : List Expr} {ts : TA} {x1} {p pos : Pos} (ha : PE X a ta) (h : PA X es ts) (hm : behindInMarks .NotIn (.Tuple es x1 p) = false) : PE X (.Compare a [.NotIn] [.Tuple es x1 p] pos) (tInT true ta ts) := by
  refine ⟨fun pins s σ H Q I hq => ?_⟩
  refine wpAny_Compare1 (thn (ha.run pins s σ H _ I hq) fun v s1 ⟨x, H1, I1, r1, q1⟩ => wpAny_Tuple_spliced (thn (h.run p pins s1 σ H1 _ I1 q1) fun us s2 ⟨xs, H2, I2, r, z, fx, fs, q⟩ => ⟨by rw [← r.length]; exact z, ?_⟩)) hm
  have I3 : Inv X pins σ H2 { s2 with heap := s2.heap.push { cls := .type "tuple", data := .seq us.toArray } } := I2.kept (t' := s2.toks) fun b u e => Heap.get?_push_of_some _ e
  refine SeqAt.notIn_tupleAt (eqU x) ⟨_, Heap.get?_push_size _ rfl, rfl, _, rfl⟩ (fun w hw => mem_eqAt r1 fx r fs w (by simpa using hw)) ⟨.bl _, H2, I3, rfl, ?_⟩
  rw [show us.toArray.any (eqU x) = us.any (eqU x) by simp, any_eqU r fs]
  exact q
end L2.Z

namespace L2.Z
open PySem PySem.Spec PyProof.Rows
local macro_rules | `(tactic| walk_at "z") => `(tactic| (try simp only [↓z_var0, ↓z_varS, ↓z_C, ↓z_op, ↓z_un, ↓z_I0, ↓z_I, ↓z_U, ↓z_eqI, ↓z_neI, ↓z_bl, ↓z_test, ↓z_B, ↓z_and, ↓z_or, ↓z_not, ↓z_andV, ↓z_orV, ↓z_notV, ↓z_if, ↓z_ifS, ↓z_seq, ↓z_next, ↓z_ret, ↓z_retN, ↓z_asg, ↓z_gname, ↓z_drop, ↓z_nil, ↓z_cons, ↓z_call, ↓z_CB, ↓z_par, ↓z_pair, ↓z_aug0, ↓z_ipI, ↓z_abs, ↓z_max, ↓z_min, ↓z_int, ↓z_intB, ↓z_gcd, ↓z_tup, ↓z_lst, ↓z_chain, z_some, z_bl, z_pair, decide_eq_true_eq, Bool.not_eq_true', decide_eq_false_iff_not, List.set_cons_zero, List.set_cons_succ, List.getElem?_cons_zero, List.getElem?_cons_succ, Bool.false_eq_true, Bool.true_eq_false, if_true, if_false, ↓reduceIte, ↓z_isN, ↓z_gtup, ↓z_gcons, ↓z_gnil, ↓z_yes, ↓z_wipe0, ↓z_wipeS, ↓z_itup, ↓z_ilist, ↓z_irng1, ↓z_irng2, ↓z_lc, ↓z_lc2, ↓z_izip, ↓z_ient, ↓z_chain3, ↓z_inT, ↓z_par3, z_trip, ↓z_rg1, ↓z_rg2, z_ii, z_i1, ↓z_lstrg, ↓z_disp, ↓z_tp0, ↓z_tpS, ↓z_dnew, ↓z_din, ↓z_tru, ↓z_dget, ↓z_dget2, ↓z_dput, ↓z_cont, ↓z_sl, ↓z_part, ↓z_nopart, ↓z_strI, ↓z_gsub, ↓z_for, true_and, and_true, decide_true, decide_false, not_true_eq_false, not_false_eq_true, ↓z_bm, ↓z_bm0, ↓z_notN, z_dn1, z_dn2, z_dn3, z_dn4, z_dn5, Nat.zero_add, Nat.reduceAdd, Nat.reduceSub, List.replicate_succ, List.replicate_zero, start, List.map_cons, List.map_nil, List.length_cons, List.length_nil, List.cons_append, List.nil_append]))
def top (i : Nat) : Stmt := PySem.Challenge.pw_zeroorone_k00_whole_numbers_of_a_ground.main.body.getD i (.Pass ⟨0, 0, 0, 0⟩)
abbrev s_is_int : Stmt := top 8
abbrev s_has_no_parts : Stmt := top 11
abbrev s_bezout : Stmt := top 15
abbrev s_power_modulo : Stmt := top 17
abbrev s_integer_power : Stmt := top 18
abbrev s_top_of : Stmt := top 20
abbrev s_number_of : Stmt := top 21
abbrev s_opposite : Stmt := top 24
abbrev s_sign_of : Stmt := top 26
abbrev s_is_below : Stmt := top 9
abbrev s_is_between : Stmt := top 10
abbrev s_undone_modulo : Stmt := top 16
abbrev s_is_zero : Stmt := top 22
abbrev s_power : Stmt := top 25
abbrev s_sign_of_difference : Stmt := top 27
abbrev s_check_between : Stmt := top 34
abbrev s_prime_fits : Stmt := top 12
abbrev s_number_fits : Stmt := top 14
abbrev s_quotient : Stmt := top 19
abbrev s_check_integer : Stmt := top 33
abbrev s_ground_fits : Stmt := top 13
abbrev s_times : Stmt := top 23
abbrev s_check_number : Stmt := top 32
abbrev s_plus : Stmt := top 35
abbrev s_over : Stmt := top 37
abbrev s_fraction : Stmt := top 41
abbrev s_check_ground : Stmt := top 30
abbrev s_check_prime_ground : Stmt := top 31
abbrev s_minus : Stmt := top 36
abbrev s_compared : Stmt := top 48
abbrev s_rounded : Stmt := top 49
abbrev s_whole : Stmt := top 40
abbrev s_check_two : Stmt := top 42
abbrev s_raised : Stmt := top 47
abbrev s_read_at : Stmt := top 50
abbrev s_added : Stmt := top 43
abbrev s_subtracted : Stmt := top 44
abbrev s_multiplied : Stmt := top 45
abbrev s_divided : Stmt := top 46
abbrev s__law_dice : Stmt := top 52
abbrev s__law_roll : Stmt := top 53
abbrev s__law_gcd : Stmt := top 55
abbrev s__law_back : Stmt := top 57
abbrev s__law_zero : Stmt := top 58
abbrev s__law_unit : Stmt := top 59
abbrev s__law_minus : Stmt := top 61
abbrev s__law_pick : Stmt := top 54
abbrev s__law_fraction : Stmt := top 56
abbrev s__law_plus : Stmt := top 60
abbrev s__law_times : Stmt := top 62
abbrev s__law_undone : Stmt := top 63
abbrev s__law_nu_ground : Stmt := top 64
abbrev s__law_nu_drawn : Stmt := top 65
abbrev s__law_nu_power : Stmt := top 66
abbrev s__law_field_right : Stmt := top 67
abbrev s__law_fractions_right : Stmt := top 68
abbrev s_law : Stmt := top 69
structure Tx (K : PySem.W.Frag) (mg : Str → Option Value) : Prop where
  f_is_int : ∃ fd, FunD K "is_int" "is_int" (defArgs s_is_int) (defBody s_is_int) (defScope s_is_int) [] [] (He.ga K "is_int") fd
  g_is_int : mg "is_int" = some (.ref (He.ga K "is_int"))
  f_has_no_parts : ∃ fd, FunD K "has_no_parts" "has_no_parts" (defArgs s_has_no_parts) (defBody s_has_no_parts) (defScope s_has_no_parts) [] [] (He.ga K "has_no_parts") fd
  g_has_no_parts : mg "has_no_parts" = some (.ref (He.ga K "has_no_parts"))
  f_bezout : ∃ fd, FunD K "bezout" "bezout" (defArgs s_bezout) (defBody s_bezout) (defScope s_bezout) [] [] (He.ga K "bezout") fd
  g_bezout : mg "bezout" = some (.ref (He.ga K "bezout"))
  f_power_modulo : ∃ fd, FunD K "power_modulo" "power_modulo" (defArgs s_power_modulo) (defBody s_power_modulo) (defScope s_power_modulo) [] [] (He.ga K "power_modulo") fd
  g_power_modulo : mg "power_modulo" = some (.ref (He.ga K "power_modulo"))
  f_integer_power : ∃ fd, FunD K "integer_power" "integer_power" (defArgs s_integer_power) (defBody s_integer_power) (defScope s_integer_power) [] [] (He.ga K "integer_power") fd
  g_integer_power : mg "integer_power" = some (.ref (He.ga K "integer_power"))
  f_top_of : ∃ fd, FunD K "top_of" "top_of" (defArgs s_top_of) (defBody s_top_of) (defScope s_top_of) [] [] (He.ga K "top_of") fd
  g_top_of : mg "top_of" = some (.ref (He.ga K "top_of"))
  f_number_of : ∃ fd, FunD K "number_of" "number_of" (defArgs s_number_of) (defBody s_number_of) (defScope s_number_of) [] [] (He.ga K "number_of") fd
  g_number_of : mg "number_of" = some (.ref (He.ga K "number_of"))
  f_opposite : ∃ fd, FunD K "opposite" "opposite" (defArgs s_opposite) (defBody s_opposite) (defScope s_opposite) [] [] (He.ga K "opposite") fd
  g_opposite : mg "opposite" = some (.ref (He.ga K "opposite"))
  f_sign_of : ∃ fd, FunD K "sign_of" "sign_of" (defArgs s_sign_of) (defBody s_sign_of) (defScope s_sign_of) [] [] (He.ga K "sign_of") fd
  g_sign_of : mg "sign_of" = some (.ref (He.ga K "sign_of"))
  f_is_below : ∃ fd, FunD K "is_below" "is_below" (defArgs s_is_below) (defBody s_is_below) (defScope s_is_below) [] [] (He.ga K "is_below") fd
  g_is_below : mg "is_below" = some (.ref (He.ga K "is_below"))
  f_is_between : ∃ fd, FunD K "is_between" "is_between" (defArgs s_is_between) (defBody s_is_between) (defScope s_is_between) [] [] (He.ga K "is_between") fd
  g_is_between : mg "is_between" = some (.ref (He.ga K "is_between"))
  f_undone_modulo : ∃ fd, FunD K "undone_modulo" "undone_modulo" (defArgs s_undone_modulo) (defBody s_undone_modulo) (defScope s_undone_modulo) [] [] (He.ga K "undone_modulo") fd
  g_undone_modulo : mg "undone_modulo" = some (.ref (He.ga K "undone_modulo"))
  f_is_zero : ∃ fd, FunD K "is_zero" "is_zero" (defArgs s_is_zero) (defBody s_is_zero) (defScope s_is_zero) [] [] (He.ga K "is_zero") fd
  g_is_zero : mg "is_zero" = some (.ref (He.ga K "is_zero"))
  f_power : ∃ fd, FunD K "power" "power" (defArgs s_power) (defBody s_power) (defScope s_power) [] [] (He.ga K "power") fd
  g_power : mg "power" = some (.ref (He.ga K "power"))
  f_sign_of_difference : ∃ fd, FunD K "sign_of_difference" "sign_of_difference" (defArgs s_sign_of_difference) (defBody s_sign_of_difference) (defScope s_sign_of_difference) [] [] (He.ga K "sign_of_difference") fd
  g_sign_of_difference : mg "sign_of_difference" = some (.ref (He.ga K "sign_of_difference"))
  f_check_between : ∃ fd, FunD K "check_between" "check_between" (defArgs s_check_between) (defBody s_check_between) (defScope s_check_between) [] [] (He.ga K "check_between") fd
  g_check_between : mg "check_between" = some (.ref (He.ga K "check_between"))
  f_prime_fits : ∃ fd, FunD K "prime_fits" "prime_fits" (defArgs s_prime_fits) (defBody s_prime_fits) (defScope s_prime_fits) [] [] (He.ga K "prime_fits") fd
  g_prime_fits : mg "prime_fits" = some (.ref (He.ga K "prime_fits"))
  f_number_fits : ∃ fd, FunD K "number_fits" "number_fits" (defArgs s_number_fits) (defBody s_number_fits) (defScope s_number_fits) [] [] (He.ga K "number_fits") fd
  g_number_fits : mg "number_fits" = some (.ref (He.ga K "number_fits"))
  f_quotient : ∃ fd, FunD K "quotient" "quotient" (defArgs s_quotient) (defBody s_quotient) (defScope s_quotient) [] [] (He.ga K "quotient") fd
  g_quotient : mg "quotient" = some (.ref (He.ga K "quotient"))
  f_check_integer : ∃ fd, FunD K "check_integer" "check_integer" (defArgs s_check_integer) (defBody s_check_integer) (defScope s_check_integer) [] [] (He.ga K "check_integer") fd
  g_check_integer : mg "check_integer" = some (.ref (He.ga K "check_integer"))
  f_ground_fits : ∃ fd, FunD K "ground_fits" "ground_fits" (defArgs s_ground_fits) (defBody s_ground_fits) (defScope s_ground_fits) [] [] (He.ga K "ground_fits") fd
  g_ground_fits : mg "ground_fits" = some (.ref (He.ga K "ground_fits"))
  f_times : ∃ fd, FunD K "times" "times" (defArgs s_times) (defBody s_times) (defScope s_times) [] [] (He.ga K "times") fd
  g_times : mg "times" = some (.ref (He.ga K "times"))
  f_check_number : ∃ fd, FunD K "check_number" "check_number" (defArgs s_check_number) (defBody s_check_number) (defScope s_check_number) [] [] (He.ga K "check_number") fd
  g_check_number : mg "check_number" = some (.ref (He.ga K "check_number"))
  f_plus : ∃ fd, FunD K "plus" "plus" (defArgs s_plus) (defBody s_plus) (defScope s_plus) [] [] (He.ga K "plus") fd
  g_plus : mg "plus" = some (.ref (He.ga K "plus"))
  f_over : ∃ fd, FunD K "over" "over" (defArgs s_over) (defBody s_over) (defScope s_over) [] [] (He.ga K "over") fd
  g_over : mg "over" = some (.ref (He.ga K "over"))
  f_fraction : ∃ fd, FunD K "fraction" "fraction" (defArgs s_fraction) (defBody s_fraction) (defScope s_fraction) [] [] (He.ga K "fraction") fd
  g_fraction : mg "fraction" = some (.ref (He.ga K "fraction"))
  f_check_ground : ∃ fd, FunD K "check_ground" "check_ground" (defArgs s_check_ground) (defBody s_check_ground) (defScope s_check_ground) [] [] (He.ga K "check_ground") fd
  g_check_ground : mg "check_ground" = some (.ref (He.ga K "check_ground"))
  f_check_prime_ground : ∃ fd, FunD K "check_prime_ground" "check_prime_ground" (defArgs s_check_prime_ground) (defBody s_check_prime_ground) (defScope s_check_prime_ground) [] [] (He.ga K "check_prime_ground") fd
  g_check_prime_ground : mg "check_prime_ground" = some (.ref (He.ga K "check_prime_ground"))
  f_minus : ∃ fd, FunD K "minus" "minus" (defArgs s_minus) (defBody s_minus) (defScope s_minus) [] [] (He.ga K "minus") fd
  g_minus : mg "minus" = some (.ref (He.ga K "minus"))
  f_compared : ∃ fd, FunD K "compared" "compared" (defArgs s_compared) (defBody s_compared) (defScope s_compared) [] [] (He.ga K "compared") fd
  g_compared : mg "compared" = some (.ref (He.ga K "compared"))
  f_rounded : ∃ fd, FunD K "rounded" "rounded" (defArgs s_rounded) (defBody s_rounded) (defScope s_rounded) [] [] (He.ga K "rounded") fd
  g_rounded : mg "rounded" = some (.ref (He.ga K "rounded"))
  f_whole : ∃ fd, FunD K "whole" "whole" (defArgs s_whole) (defBody s_whole) (defScope s_whole) [] [] (He.ga K "whole") fd
  g_whole : mg "whole" = some (.ref (He.ga K "whole"))
  f_check_two : ∃ fd, FunD K "check_two" "check_two" (defArgs s_check_two) (defBody s_check_two) (defScope s_check_two) [] [] (He.ga K "check_two") fd
  g_check_two : mg "check_two" = some (.ref (He.ga K "check_two"))
  f_raised : ∃ fd, FunD K "raised" "raised" (defArgs s_raised) (defBody s_raised) (defScope s_raised) [] [] (He.ga K "raised") fd
  g_raised : mg "raised" = some (.ref (He.ga K "raised"))
  f_read_at : ∃ fd, FunD K "read_at" "read_at" (defArgs s_read_at) (defBody s_read_at) (defScope s_read_at) [] [] (He.ga K "read_at") fd
  g_read_at : mg "read_at" = some (.ref (He.ga K "read_at"))
  f_added : ∃ fd, FunD K "added" "added" (defArgs s_added) (defBody s_added) (defScope s_added) [] [] (He.ga K "added") fd
  g_added : mg "added" = some (.ref (He.ga K "added"))
  f_subtracted : ∃ fd, FunD K "subtracted" "subtracted" (defArgs s_subtracted) (defBody s_subtracted) (defScope s_subtracted) [] [] (He.ga K "subtracted") fd
  g_subtracted : mg "subtracted" = some (.ref (He.ga K "subtracted"))
  f_multiplied : ∃ fd, FunD K "multiplied" "multiplied" (defArgs s_multiplied) (defBody s_multiplied) (defScope s_multiplied) [] [] (He.ga K "multiplied") fd
  g_multiplied : mg "multiplied" = some (.ref (He.ga K "multiplied"))
  f_divided : ∃ fd, FunD K "divided" "divided" (defArgs s_divided) (defBody s_divided) (defScope s_divided) [] [] (He.ga K "divided") fd
  g_divided : mg "divided" = some (.ref (He.ga K "divided"))
  f__law_dice : ∃ fd, FunD K "_law_dice" "_law_dice" (defArgs s__law_dice) (defBody s__law_dice) (defScope s__law_dice) [] [] (He.ga K "_law_dice") fd
  g__law_dice : mg "_law_dice" = some (.ref (He.ga K "_law_dice"))
  f__law_roll : ∃ fd, FunD K "_law_roll" "_law_roll" (defArgs s__law_roll) (defBody s__law_roll) (defScope s__law_roll) [] [] (He.ga K "_law_roll") fd
  g__law_roll : mg "_law_roll" = some (.ref (He.ga K "_law_roll"))
  f__law_gcd : ∃ fd, FunD K "_law_gcd" "_law_gcd" (defArgs s__law_gcd) (defBody s__law_gcd) (defScope s__law_gcd) [] [] (He.ga K "_law_gcd") fd
  g__law_gcd : mg "_law_gcd" = some (.ref (He.ga K "_law_gcd"))
  f__law_back : ∃ fd, FunD K "_law_back" "_law_back" (defArgs s__law_back) (defBody s__law_back) (defScope s__law_back) [] [] (He.ga K "_law_back") fd
  g__law_back : mg "_law_back" = some (.ref (He.ga K "_law_back"))
  f__law_zero : ∃ fd, FunD K "_law_zero" "_law_zero" (defArgs s__law_zero) (defBody s__law_zero) (defScope s__law_zero) [] [] (He.ga K "_law_zero") fd
  g__law_zero : mg "_law_zero" = some (.ref (He.ga K "_law_zero"))
  f__law_unit : ∃ fd, FunD K "_law_unit" "_law_unit" (defArgs s__law_unit) (defBody s__law_unit) (defScope s__law_unit) [] [] (He.ga K "_law_unit") fd
  g__law_unit : mg "_law_unit" = some (.ref (He.ga K "_law_unit"))
  f__law_minus : ∃ fd, FunD K "_law_minus" "_law_minus" (defArgs s__law_minus) (defBody s__law_minus) (defScope s__law_minus) [] [] (He.ga K "_law_minus") fd
  g__law_minus : mg "_law_minus" = some (.ref (He.ga K "_law_minus"))
  f__law_pick : ∃ fd, FunD K "_law_pick" "_law_pick" (defArgs s__law_pick) (defBody s__law_pick) (defScope s__law_pick) [] [] (He.ga K "_law_pick") fd
  g__law_pick : mg "_law_pick" = some (.ref (He.ga K "_law_pick"))
  f__law_fraction : ∃ fd, FunD K "_law_fraction" "_law_fraction" (defArgs s__law_fraction) (defBody s__law_fraction) (defScope s__law_fraction) [] [] (He.ga K "_law_fraction") fd
  g__law_fraction : mg "_law_fraction" = some (.ref (He.ga K "_law_fraction"))
  f__law_plus : ∃ fd, FunD K "_law_plus" "_law_plus" (defArgs s__law_plus) (defBody s__law_plus) (defScope s__law_plus) [] [] (He.ga K "_law_plus") fd
  g__law_plus : mg "_law_plus" = some (.ref (He.ga K "_law_plus"))
  f__law_times : ∃ fd, FunD K "_law_times" "_law_times" (defArgs s__law_times) (defBody s__law_times) (defScope s__law_times) [] [] (He.ga K "_law_times") fd
  g__law_times : mg "_law_times" = some (.ref (He.ga K "_law_times"))
  f__law_undone : ∃ fd, FunD K "_law_undone" "_law_undone" (defArgs s__law_undone) (defBody s__law_undone) (defScope s__law_undone) [] [] (He.ga K "_law_undone") fd
  g__law_undone : mg "_law_undone" = some (.ref (He.ga K "_law_undone"))
  f__law_nu_ground : ∃ fd, FunD K "_law_nu_ground" "_law_nu_ground" (defArgs s__law_nu_ground) (defBody s__law_nu_ground) (defScope s__law_nu_ground) [] [] (He.ga K "_law_nu_ground") fd
  g__law_nu_ground : mg "_law_nu_ground" = some (.ref (He.ga K "_law_nu_ground"))
  f__law_nu_drawn : ∃ fd, FunD K "_law_nu_drawn" "_law_nu_drawn" (defArgs s__law_nu_drawn) (defBody s__law_nu_drawn) (defScope s__law_nu_drawn) [] [] (He.ga K "_law_nu_drawn") fd
  g__law_nu_drawn : mg "_law_nu_drawn" = some (.ref (He.ga K "_law_nu_drawn"))
  f__law_nu_power : ∃ fd, FunD K "_law_nu_power" "_law_nu_power" (defArgs s__law_nu_power) (defBody s__law_nu_power) (defScope s__law_nu_power) [] [] (He.ga K "_law_nu_power") fd
  g__law_nu_power : mg "_law_nu_power" = some (.ref (He.ga K "_law_nu_power"))
  f__law_field_right : ∃ fd, FunD K "_law_field_right" "_law_field_right" (defArgs s__law_field_right) (defBody s__law_field_right) (defScope s__law_field_right) [] [] (He.ga K "_law_field_right") fd
  g__law_field_right : mg "_law_field_right" = some (.ref (He.ga K "_law_field_right"))
  f__law_fractions_right : ∃ fd, FunD K "_law_fractions_right" "_law_fractions_right" (defArgs s__law_fractions_right) (defBody s__law_fractions_right) (defScope s__law_fractions_right) [] [] (He.ga K "_law_fractions_right") fd
  g__law_fractions_right : mg "_law_fractions_right" = some (.ref (He.ga K "_law_fractions_right"))
  f_law : ∃ fd, FunD K "law" "law" (defArgs s_law) (defBody s_law) (defScope s_law) [] [] (He.ga K "law") fd
  g_law : mg "law" = some (.ref (He.ga K "law"))
  c_LAST_GROUND : ∃ t, mg "LAST_GROUND" = some (.int 9999 t)
  c_SIXTY_DIGITS : ∃ t, mg "SIXTY_DIGITS" = some (.int 1000000000000000000000000000000000000000000000000000000000000 t)
  c_MAX_EXPONENT : ∃ t, mg "MAX_EXPONENT" = some (.int 1000 t)
  n_abs : mg "abs" = none
  n_bool : mg "bool" = none
  n_int : mg "int" = none
  n_isinstance : mg "isinstance" = none
  n_len : mg "len" = none
  n_max : mg "max" = none
  n_min : mg "min" = none
  n_range : mg "range" = none
  n_tuple : mg "tuple" = none
  b_gcd : mg "gcd" = some (.builtin "math.gcd")
/-- all that was tracked but at d is as it was -/
def Keep (d : Addr) (H H' : Hp) : Prop := ∀ b o, b ≠ d → H b = some o → H' b = some o
theorem mulS {i j : Int} (h : -(2 ^ 64) < i ∧ i < 2 ^ 64) : CMul i j ∨ CMulW i j := .inl (.inl h)
theorem mulR {i j : Int} (h : -(2 ^ 64) < j ∧ j < 2 ^ 64) : CMul i j ∨ CMulW i j := .inl (.inr h)
theorem divS {i j : Int} (h : 0 < j) (h2 : j < 2 ^ 64) : CDivW i j := wide_div (b := 64) h (by omega) (by decide) (by decide)
theorem divZ {i j : Int} (h : j ≠ 0) (h2 : j.natAbs < 2 ^ 250) : CDivZ i j := ⟨h, Nat.lt_of_lt_of_le (PySem.Flt.log2_lt_of (by decide) h2) (by decide)⟩
theorem emod_small {a m : Int} (h0 : 0 ≤ a) (h1 : a < m) : a % m = a := Int.emod_eq_of_lt h0 h1
theorem same_new {H H' : Hp} {p : Addr} {o : HO} (s : Same H H') (hn : H' p = none) : Same H (upd H' p o) := fun b u h => by
  rw [upd_ne (ne_of_none (s b u h) hn)]; exact s b u h
theorem same_mut {H H' : Hp} {p : Addr} {o : HO} (s : Same H H') (hn : H p = none) : Same H (upd H' p o) := fun b u h => by
  rw [upd_ne (ne_of_none h hn)]; exact s b u h
theorem same_upd {H : Hp} {p : Addr} {o : HO} (hn : H p = none) : Same H (upd H p o) := same_new (Same.refl H) hn
theorem sqT_of {K : PySem.W.Frag} {H : Hp} {a : Addr} {xs : List V} (h : H a = some (.tup xs)) : SqT K H a xs := .inl (.inl h)
theorem sqL_of {K : PySem.W.Frag} {H : Hp} {a : Addr} {xs : List V} (h : H a = some (.lst xs)) : SqL K H a xs := .inl (.inl h)
/-- d is the least divisor of n from 2 on -/
def Least (d n : Int) : Prop := 2 ≤ d ∧ d ∣ n ∧ ∀ k, 2 ≤ k → k < d → ¬ k ∣ n
def PrimeI (n : Int) : Prop := 2 ≤ n ∧ ∀ k, 2 ≤ k → k < n → ¬ k ∣ n
/-! values of any kind -/
def isI : V → Bool
  | .int _ => true
  | _ => false
def isB : V → Bool
  | .bl _ => true
  | _ => false
def Kn (H : Hp) : V → Prop
  | .non => True
  | .bl _ => True
  | .int _ => True
  | .str _ => True
  | .ref a => (∃ xs, H a = some (.lst xs)) ∨ (∃ xs, H a = some (.tup xs)) ∨ ∃ kvs, H a = some (.dK kvs)
  | _ => False
theorem Kn.same {H H' : Hp} {v : V} (k : Kn H v) (s : Same H H') : Kn H' v := by
  cases v with
  | ref a =>
    rcases k with ⟨xs, h⟩ | ⟨xs, h⟩ | ⟨xs, h⟩
    · exact .inl ⟨xs, s _ _ h⟩
    · exact .inr (.inl ⟨xs, s _ _ h⟩)
    · exact .inr (.inr ⟨xs, s _ _ h⟩)
  | _ => exact k
theorem isi_kn_int {K : PySem.W.Frag} {v : V} {H : Hp} {Q : VK} (k : Kn H v) (q : Q (.bl (isI v || isB v)) H) : rIsi K [v, .ty "int"] H Q := by
  cases v with
  | non => exact ⟨_, _, _, _, _, rfl, .ty "int", .base .non, kit_ty (show kitB "NoneType" "int" = some false by decide +kernel), q⟩
  | bl b => exact ⟨_, _, _, _, _, rfl, .ty "int", .base (.bl b), kit_ty (show kitB "bool" "int" = some true by decide +kernel), q⟩
  | int i => exact ⟨_, _, _, _, _, rfl, .ty "int", .base (.int i), kit_ty (show kitB "int" "int" = some true by decide +kernel), q⟩
  | str x => exact ⟨_, _, _, _, _, rfl, .ty "int", .base (.str x), kit_ty (show kitB "str" "int" = some false by decide +kernel), q⟩
  | ref a =>
    rcases k with ⟨xs, h⟩ | ⟨xs, h⟩ | ⟨xs, h⟩
    · exact ⟨_, _, _, _, _, rfl, .ty "int", .base (.lst h), kit_ty (show kitB "list" "int" = some false by decide +kernel), q⟩
    · exact ⟨_, _, _, _, _, rfl, .ty "int", .base (.tup h), kit_ty (show kitB "tuple" "int" = some false by decide +kernel), q⟩
    · exact ⟨_, _, _, _, _, rfl, .ty "int", .base (.dK h), kit_ty (show kitB "dict" "int" = some false by decide +kernel), q⟩
  | byt _ => exact k.elim
  | flt _ => exact k.elim
  | ty _ => exact k.elim
theorem isi_kn_bool {K : PySem.W.Frag} {v : V} {H : Hp} {Q : VK} (k : Kn H v) (q : Q (.bl (isB v)) H) : rIsi K [v, .ty "bool"] H Q := by
  cases v with
  | non => exact ⟨_, _, _, _, _, rfl, .ty "bool", .base .non, kit_ty (show kitB "NoneType" "bool" = some false by decide +kernel), q⟩
  | bl b => exact ⟨_, _, _, _, _, rfl, .ty "bool", .base (.bl b), kit_ty (show kitB "bool" "bool" = some true by decide +kernel), q⟩
  | int i => exact ⟨_, _, _, _, _, rfl, .ty "bool", .base (.int i), kit_ty (show kitB "int" "bool" = some false by decide +kernel), q⟩
  | str x => exact ⟨_, _, _, _, _, rfl, .ty "bool", .base (.str x), kit_ty (show kitB "str" "bool" = some false by decide +kernel), q⟩
  | ref a =>
    rcases k with ⟨xs, h⟩ | ⟨xs, h⟩ | ⟨xs, h⟩
    · exact ⟨_, _, _, _, _, rfl, .ty "bool", .base (.lst h), kit_ty (show kitB "list" "bool" = some false by decide +kernel), q⟩
    · exact ⟨_, _, _, _, _, rfl, .ty "bool", .base (.tup h), kit_ty (show kitB "tuple" "bool" = some false by decide +kernel), q⟩
    · exact ⟨_, _, _, _, _, rfl, .ty "bool", .base (.dK h), kit_ty (show kitB "dict" "bool" = some false by decide +kernel), q⟩
  | byt _ => exact k.elim
  | flt _ => exact k.elim
  | ty _ => exact k.elim
/-- the value is a tuple of these -/
def TupV (H : Hp) (v : V) (xs : List V) : Prop := ∃ a, v = .ref a ∧ H a = some (.tup xs)
theorem TupV.same {H H' : Hp} {v : V} {xs : List V} (k : TupV H v xs) (s : Same H H') : TupV H' v xs := by
  obtain ⟨a, e, h⟩ := k
  exact ⟨a, e, s _ _ h⟩
theorem isi_kn_tuple {K : PySem.W.Frag} {v : V} {H : Hp} {Q : VK} (k : Kn H v) (q1 : ∀ xs, TupV H v xs → Q (.bl true) H) (q2 : (∀ xs, ¬ TupV H v xs) → Q (.bl false) H) : rIsi K [v, .ty "tuple"] H Q := by
  cases v with
  | non => exact ⟨_, _, _, _, _, rfl, .ty "tuple", .base .non, kit_ty (show kitB "NoneType" "tuple" = some false by decide +kernel), q2 fun _ ⟨_, e, _⟩ => by cases e⟩
  | bl b => exact ⟨_, _, _, _, _, rfl, .ty "tuple", .base (.bl b), kit_ty (show kitB "bool" "tuple" = some false by decide +kernel), q2 fun _ ⟨_, e, _⟩ => by cases e⟩
  | int i => exact ⟨_, _, _, _, _, rfl, .ty "tuple", .base (.int i), kit_ty (show kitB "int" "tuple" = some false by decide +kernel), q2 fun _ ⟨_, e, _⟩ => by cases e⟩
  | str x => exact ⟨_, _, _, _, _, rfl, .ty "tuple", .base (.str x), kit_ty (show kitB "str" "tuple" = some false by decide +kernel), q2 fun _ ⟨_, e, _⟩ => by cases e⟩
  | ref a =>
    rcases k with ⟨xs, h⟩ | ⟨xs, h⟩ | ⟨xs, h⟩
    · exact ⟨_, _, _, _, _, rfl, .ty "tuple", .base (.lst h), kit_ty (show kitB "list" "tuple" = some false by decide +kernel), q2 fun _ ⟨_, e, h2⟩ => by cases e; rw [h] at h2; cases h2⟩
    · exact ⟨_, _, _, _, _, rfl, .ty "tuple", .base (.tup h), kit_ty (show kitB "tuple" "tuple" = some true by decide +kernel), q1 xs ⟨a, rfl, h⟩⟩
    · exact ⟨_, _, _, _, _, rfl, .ty "tuple", .base (.dK h), kit_ty (show kitB "dict" "tuple" = some false by decide +kernel), q2 fun _ ⟨_, e, h2⟩ => by cases e; rw [h] at h2; cases h2⟩
  | byt _ => exact k.elim
  | flt _ => exact k.elim
  | ty _ => exact k.elim
/-- .. and where it is a tuple, its members are of known kinds too -/
def Kn2 (H : Hp) (v : V) : Prop := Kn H v ∧ ∀ xs, TupV H v xs → ∀ x ∈ xs, Kn H x
/-- grounds, numbers -/
def GroundV (v : V) : Prop := ∃ n, v = .int n ∧ 0 ≤ n ∧ n ≤ 9999 ∧ (n = 0 ∨ PrimeI n)
def belowB (v : V) (l : Int) : Bool := match v with
  | .int i => decide (-l < i ∧ i < l)
  | _ => false
def NumV (H : Hp) (g : Int) (v : V) (l : Int) : Prop :=
  (g ≠ 0 ∧ ∃ n, v = .int n ∧ 0 ≤ n ∧ n < g) ∨ (g = 0 ∧ ∃ t b : Int, TupV H v [.int t, .int b] ∧ (-l < t ∧ t < l) ∧ (-l < b ∧ b < l) ∧ 1 ≤ b ∧ Nat.gcd t.natAbs b.natAbs = 1)
theorem belowB_int {v : V} {l : Int} (h : belowB v l = true) : ∃ i, v = .int i ∧ -l < i ∧ i < l := by
  cases v <;> simp only [belowB, Bool.false_eq_true, decide_eq_true_eq] at h
  exact ⟨_, rfl, h⟩
theorem least_two {n : Int} (h : n % 2 = 0) : Least 2 n := ⟨by omega, by omega, fun k h1 h2 => by omega⟩
theorem least_self {n d : Int} (hn : 2 ≤ n) (h : ∀ k, 2 ≤ k → k < d → ¬ k ∣ n) (hd : n < d * d) (h0 : 2 ≤ d) : Least n n := by
  refine ⟨hn, Int.dvd_refl n, fun k h1 h2 h3 => ?_⟩
  obtain ⟨q, rfl⟩ := h3
  have hq : 2 ≤ q := by
    by_cases hq0 : q ≤ 0
    · have := Int.mul_le_mul_of_nonneg_left hq0 (show 0 ≤ k by omega)
      omega
    · by_cases hq1 : q = 1
      · subst hq1; omega
      · omega
  by_cases hk : k < d
  · exact h k h1 hk (Int.dvd_mul_right k q)
  · by_cases hqd : q < d
    · exact h q hq hqd (Int.dvd_mul_left k q)
    · have := Int.mul_le_mul (show d ≤ k by omega) (show d ≤ q by omega) (by omega) (by omega)
      omega
theorem in_twothree {n : Int} : inV (.int n) [.int 2, .int 3] = decide (n = 2 ∨ n = 3) := by
  rw [Bool.eq_iff_iff, decide_eq_true_eq]
  simp [inV, eqV]
  omega
theorem prime_two : PrimeI 2 := ⟨by decide, fun k h1 h2 => by omega⟩
theorem prime_three : PrimeI 3 := ⟨by decide, fun k h1 h2 => by
  obtain rfl : k = 2 := by omega
  decide⟩
def Sz (n : Nat) (x : Int) : Prop := x.natAbs < 2 ^ n
theorem mulW {i j : Int} {a b : Nat} (h1 : i.natAbs < 2 ^ a) (h2 : j.natAbs < 2 ^ b) (h3 : 0 < a) (h4 : 0 < b) (h5 : a + b ≤ 1000000) : CMul i j ∨ CMulW i j := .inr (wide_mul h1 h2 h3 h4 h5)
theorem sz_mul {a b : Nat} {x y : Int} (h : Sz a x) (h2 : Sz b y) : Sz (a + b) (x * y) := by
  show (x * y).natAbs < 2 ^ (a + b)
  rw [Int.natAbs_mul, Nat.pow_add]
  exact Nat.mul_lt_mul'' h h2
theorem szm {x y : Int} (h : Sz 3000 x) (h2 : Sz 3000 y) : CMul x y ∨ CMulW x y := mulW h h2 (by decide) (by decide) (by decide)
theorem sz_add {n : Nat} {x y : Int} (h : Sz n x) (h2 : Sz n y) : Sz (n + 1) (x + y) := by
  have h3 : (2 : Nat) ^ (n + 1) = 2 ^ n + 2 ^ n := by rw [Nat.pow_succ]; omega
  show (x + y).natAbs < 2 ^ (n + 1)
  have h1 : x.natAbs < 2 ^ n := h
  have h2 : y.natAbs < 2 ^ n := h2
  rw [h3]
  omega
theorem sz_mono {n m : Nat} {x : Int} (h : Sz n x) (hm : n ≤ m) : Sz m x := Nat.lt_of_lt_of_le h (Nat.pow_le_pow_right (by decide) hm)
/-! ### is_int -/
theorem sc_is_int : FnScope ["value"] ["value"] (defScope s_is_int) := ⟨rfl, rfl, rfl, by decide +kernel, rfl, by decide +kernel, by decide +kernel⟩
def sp_is_int (K : PySem.W.Frag) : Sp := fun vs H Q _ => ∃ v : V, vs = [v] ∧ Kn H v ∧ Q (.bl (isI v)) H
theorem len_is_int {K : PySem.W.Frag} {vs : List V} {H : Hp} {Q : VK} {E : XK} (h : sp_is_int K vs H Q E) : vs.length = ["value"].length := by
  obtain ⟨_, rfl, _⟩ := h
  rfl
def t_is_int (K : PySem.W.Frag) : TS := (tRet (tAndV (tCB (rIsi K) (tCons (tVar 0) (tCons (tC (.ty "int")) tNil))) (tNotV (tCB (rIsi K) (tCons (tVar 0) (tCons (tC (.ty "bool")) tNil))))))
theorem pure_is_int (K : PySem.W.Frag) (vs : List V) (H : Hp) (Q : VK) (E : XK) (h : sp_is_int K vs H Q E) : t_is_int K { nx := fun _ H' => Q .non H', rt := Q } (start ["value"] vs) H := by
  obtain ⟨v, rfl, hk, hq⟩ := h
  unfold t_is_int
  walk_at "z"
  refine isi_kn_int hk ?_
  walk_at "z"
  by_cases h1 : (isI v || isB v) = true
  · rw [if_pos h1]
    refine isi_kn_bool hk ?_
    walk_at "z"
    have e : (!isB v) = isI v := by cases v <;> simp_all [isI, isB]
    rw [e]
    exact hq
  · rw [if_neg h1]
    have e : isI v = false := by cases v <;> simp_all [isI, isB]
    rw [e] at hq
    exact hq
theorem ok_is_int {P : Program} {w : World} {K : PySem.W.Frag} {mg : Str → Option Value} {base : Heap} (T : Tx K mg) : Okk P w K mg base 1 "is_int" ["value"] (sp_is_int K) := by
  have hf_bool := T.n_bool
  have hf_int := T.n_int
  have hf_isinstance := T.n_isinstance
  obtain ⟨fd, F⟩ := T.f_is_int
  refine ⟨fd, F.ok sc_is_int (fun vs H Q E h => len_is_int h) (fun cdv A outer s H vs Q E hr h => ⟨t_is_int K, PSs.nox ?_, pure_is_int K vs H Q E h⟩), F.bindsN (fun _ _ _ _ _ _ us hl => match us, hl with | [_], _ => rfl), T.g_is_int, F.kp⟩
  exact (pss_one (ps_ret (pe_and (pe_callB call_isi (by rfl) hf_isinstance (by decide +kernel) (pa_cons (pv 0) (pa_cons (pe_bltn (v := .ty "int") rfl hf_int (by decide +kernel) rfl) pa_nil))) (pe_one (pe_not (pe_callB call_isi (by rfl) hf_isinstance (by decide +kernel) (pa_cons (pv 0) (pa_cons (pe_bltn (v := .ty "bool") rfl hf_bool (by decide +kernel) rfl) pa_nil))))))))
/-! ### has_no_parts -/
theorem sc_has_no_parts : FnScope ["number", "divisor"] ["number"] (defScope s_has_no_parts) := ⟨rfl, rfl, rfl, by decide +kernel, rfl, by decide +kernel, by decide +kernel⟩
def sp_has_no_parts (K : PySem.W.Frag) : Sp := fun vs H Q _ => ∃ n : Int, vs = [.int n] ∧ n < 2 ^ 40 ∧ ∀ b : Bool, (b = true ↔ PrimeI n) → Q (.bl b) H
theorem len_has_no_parts {K : PySem.W.Frag} {vs : List V} {H : Hp} {Q : VK} {E : XK} (h : sp_has_no_parts K vs H Q E) : vs.length = ["number"].length := by
  obtain ⟨_, rfl, _⟩ := h
  rfl
def t_has_no_parts_w1_c (K : PySem.W.Frag) : TT := (tAnd (tTest (tOp rLeI (tOp rMulU (tVar 1) (tVar 1)) (tVar 0))) (tTest (tOp rNe (tOp rModU (tVar 0) (tVar 1)) (tC (.int 0)))))
def t_has_no_parts_w1_b (K : PySem.W.Frag) : TS := (tAug 1 (tC (.int 2)) (ipI fun i j => i + j))
def t_has_no_parts (K : PySem.W.Frag) : TS := (tSeq (tIfS (tOr (tTest (tOp rLtI (tVar 0) (tC (.int 4)))) (tTest (tOp rEq (tOp rModU (tVar 0) (tC (.int 2))) (tC (.int 0))))) (tRet (tInT false (tVar 0) (tCons (tC (.int 2)) (tCons (tC (.int 3)) tNil)))) tNext)
  (tSeq (tAsg (tC (.int 3)) (gName 1))
  (tSeq (tWhile (t_has_no_parts_w1_c K) (t_has_no_parts_w1_b K))
  (tRet (tOp rGtI (tOp rMulU (tVar 1) (tVar 1)) (tVar 0))))))
theorem pure_has_no_parts (K : PySem.W.Frag) (vs : List V) (H : Hp) (Q : VK) (E : XK) (h : sp_has_no_parts K vs H Q E) : t_has_no_parts K { nx := fun _ H' => Q .non H', rt := Q } (start ["number", "divisor"] vs) H := by
  obtain ⟨n, rfl, hn2, hq⟩ := h
  unfold t_has_no_parts
  walk_at "z"
  have small : (n < 4 ∨ n % 2 = 0) → Q (.bl (inV (.int n) [.int 2, .int 3])) H := fun hs => by
    refine hq _ ?_
    rw [in_twothree, decide_eq_true_eq]
    constructor
    · rintro (rfl | rfl)
      · exact prime_two
      · exact prime_three
    · rintro ⟨h1, h2⟩
      by_cases e : n % 2 = 0
      · by_cases e2 : n = 2
        · exact .inl e2
        · exact absurd (show (2 : Int) ∣ n by omega) (h2 2 (by omega) (by omega))
      · omega
  by_cases h4 : n < 4
  · rw [if_pos h4]
    exact ⟨by decide, rfl, rfl, small (.inl h4)⟩
  rw [if_neg h4]
  walk_at "z"
  refine ⟨by decide, ?_⟩
  by_cases h2 : n % 2 = 0
  · rw [if_pos h2]
    exact ⟨by decide, rfl, rfl, small (.inr h2)⟩
  rw [if_neg h2]
  refine while_of (fun m σ H' => ∃ d : Int, σ = [some (.int n), some (.int d)] ∧ H' = H ∧ 3 ≤ d ∧ d % 2 = 1 ∧ (∀ k, 2 ≤ k → k < d → ¬ k ∣ n) ∧ d < 2 ^ 41 ∧ m = (2 ^ 42 - d).toNat) (2 ^ 42 - 3) ⟨3, rfl, rfl, by omega, by omega, fun k h1 h3 => by
      obtain rfl : k = 2 := by omega
      omega, by omega, by decide⟩ ?_
  rintro m σ H' ⟨d, rfl, rfl, hd, hodd, hk, hd2, rfl⟩ N hN hN2
  unfold t_has_no_parts_w1_c t_has_no_parts_w1_b
  walk_at "z"
  refine ⟨mulS (by omega), ?_⟩
  by_cases hdd : d * d ≤ n
  · rw [if_pos hdd]
    walk_at "z"
    refine ⟨by omega, ?_⟩
    have hdn : d < n := by
      have := Int.mul_le_mul_of_nonneg_right (show (3:Int) ≤ d by omega) (show (0:Int) ≤ d by omega)
      omega
    by_cases hm : n % d = 0
    · rw [if_neg (by omega)]
      walk_at "z"
      refine ⟨mulS (by omega), hq _ ⟨fun h => ?_, fun h => absurd (Int.dvd_of_emod_eq_zero hm) (h.2 d (by omega) hdn)⟩⟩
      rw [decide_eq_true_eq] at h
      omega
    · rw [if_pos hm]
      refine ⟨N, hN2, ?_⟩
      walk_at "z"
      have hlt : d < 2 ^ 20 + 2 := by
        by_cases q : d < 2 ^ 20 + 2
        · exact q
        · have := Int.mul_le_mul (show (2 ^ 20 + 2 : Int) ≤ d by omega) (show (2 ^ 20 + 2 : Int) ≤ d by omega) (by omega) (by omega)
          omega
      refine hN _ _ _ (by omega) ⟨d + 2, rfl, rfl, by omega, by omega, fun k h1 h3 => ?_, by omega, rfl⟩
      by_cases e1 : k < d
      · exact hk k h1 e1
      · by_cases e2 : k = d
        · subst e2
          intro hx
          exact hm (Int.emod_eq_zero_of_dvd hx)
        · obtain rfl : k = d + 1 := by omega
          intro hx
          have : (2 : Int) ∣ n := Int.dvd_trans (by omega) hx
          omega
  · rw [if_neg hdd]
    walk_at "z"
    refine ⟨mulS (by omega), hq _ ⟨fun _ => ?_, fun _ => decide_eq_true (by omega)⟩⟩
    have := least_self (by omega) hk (by omega) (by omega)
    exact ⟨this.1, this.2.2⟩

theorem ok_has_no_parts {P : Program} {w : World} {K : PySem.W.Frag} {mg : Str → Option Value} {base : Heap} (T : Tx K mg) : Okk P w K mg base 1 "has_no_parts" ["number"] (sp_has_no_parts K) := by
  obtain ⟨fd, F⟩ := T.f_has_no_parts
  refine ⟨fd, F.ok sc_has_no_parts (fun vs H Q E h => len_has_no_parts h) (fun cdv A outer s H vs Q E hr h => ⟨t_has_no_parts K, PSs.nox ?_, pure_has_no_parts K vs H Q E h⟩), F.bindsN (fun _ _ _ _ _ _ us hl => match us, hl with | [_], _ => rfl), T.g_has_no_parts, F.kp⟩
  exact (pss_cons (ps_if (PW.pt (pw_or (pt_cmpR op_lt (pv 0) pe_int (nomark _)) (pw_or1 (pt_cmpR op_eq (pe_op op_mod (pv 0) pe_int) pe_int (nomark _))))) (pss_one (ps_ret (pe_inT (pv 0) (pa_cons pe_int (pa_cons pe_int pa_nil)) rfl))) pss_nil)
      (pss_cons (ps_set (i := 1) sc_has_no_parts.nd rfl (by first | exact Or.inl rfl | exact Or.inr rfl) pe_int)
      (pss_cons (ps_while PassesOwn.never (PW.pt (pw_and (pt_cmpR op_le (pe_op op_mulU (pv 1) (pv 1)) (pv 0) (nomark _)) (pw_and1 (pt_cmpR op_ne (pe_op op_mod (pv 0) (pv 1)) pe_int (nomark _))))) (pss_one (ps_aug (i := 1) sc_has_no_parts.nd rfl (by first | exact Or.inl rfl | exact Or.inr rfl) pe_int ip_add)))
      (pss_one (ps_ret (pe_cmpR op_gt (pe_op op_mulU (pv 1) (pv 1)) (pv 0) (nomark _)))))))
/-! ### bezout -/
theorem sc_bezout : FnScope ["one", "other", "rest", "after", "u", "later_u", "v", "later_v", "often"] ["one", "other"] (defScope s_bezout) := ⟨rfl, rfl, rfl, by decide +kernel, rfl, by decide +kernel, by decide +kernel⟩
/-- sizes that can still be divided by -/
def sp_bezout (K : PySem.W.Frag) : Sp := fun vs H Q _ => ∃ a b : Int, vs = [.int a, .int b] ∧ 0 ≤ a ∧ 0 ≤ b ∧ Sz 8000 a ∧ Sz 8000 b ∧ ∀ p u v H', Same H H' → a * u + b * v = ((Nat.gcd a.natAbs b.natAbs : Nat) : Int) → Sz 8000 u → H' p = some (.tup [.int ((Nat.gcd a.natAbs b.natAbs : Nat) : Int), .int u, .int v]) → Q (.ref p) H'
theorem len_bezout {K : PySem.W.Frag} {vs : List V} {H : Hp} {Q : VK} {E : XK} (h : sp_bezout K vs H Q E) : vs.length = ["one", "other"].length := by
  obtain ⟨_, _, rfl, _⟩ := h
  rfl
def t_bezout_w1_c (K : PySem.W.Frag) : TT := (tTest (tOp rNe (tVar 3) (tC (.int 0))))
def t_bezout_w1_b (K : PySem.W.Frag) : TS := (tSeq (tAsg (tOp rDivZ (tVar 2) (tVar 3)) (gName 8))
  (tSeq (tPar 2 3 (tCons (tVar 3) (tCons (tOp rSub (tVar 2) (tOp rMulU (tVar 8) (tVar 3))) tNil)))
  (tSeq (tPar 4 5 (tCons (tVar 5) (tCons (tOp rSub (tVar 4) (tOp rMulU (tVar 8) (tVar 5))) tNil)))
  (tPar 6 7 (tCons (tVar 7) (tCons (tOp rSub (tVar 6) (tOp rMulU (tVar 8) (tVar 7))) tNil))))))
def t_bezout (K : PySem.W.Frag) : TS := (tSeq (tPar 2 3 (tCons (tVar 0) (tCons (tVar 1) tNil)))
  (tSeq (tAsg (tTup (tCons (tC (.int 1)) (tCons (tC (.int 0)) tNil))) (gTup K 2 (gCons (gName 4) (gCons (gName 5) gNil))))
  (tSeq (tAsg (tTup (tCons (tC (.int 0)) (tCons (tC (.int 1)) tNil))) (gTup K 2 (gCons (gName 6) (gCons (gName 7) gNil))))
  (tSeq (tWhile (t_bezout_w1_c K) (t_bezout_w1_b K))
  (tSeq (tIfS (tTest (tOp rLtI (tVar 2) (tC (.int 0)))) (tRet (tTup (tCons (tUn rNeg (tVar 2)) (tCons (tUn rNeg (tVar 4)) (tCons (tUn rNeg (tVar 6)) tNil))))) tNext)
  (tRet (tTup (tCons (tVar 2) (tCons (tVar 4) (tCons (tVar 6) tNil))))))))))
structure Bz (a b : Int) (r t u x v y : Int) (s : Int) : Prop where
  r0 : 0 ≤ r
  t0 : 0 ≤ t
  g : Nat.gcd r.natAbs t.natAbs = Nat.gcd a.natAbs b.natAbs
  e1 : a * u + b * v = r
  e2 : a * x + b * y = t
  sg : s = 1 ∨ s = -1
  u0 : 0 ≤ s * u
  x0 : 0 ≤ -(s * x)
  k : r * -(s * x) + t * (s * u) = b
theorem Bz.step {a b r t u x v y s : Int} (h : Bz a b r t u x v y s) (ht : t ≠ 0) : Bz a b t (r - r / t * t) x (u - r / t * x) y (v - r / t * y) (-s) := by
  have t1 : 0 < t := by have := h.t0; omega
  have er : r - r / t * t = r % t := by
    have := Int.emod_def r t
    rw [this, Int.mul_comm]
  have q0 : 0 ≤ r / t := Int.ediv_nonneg h.r0 h.t0
  refine ⟨h.t0, by rw [er]; exact Int.emod_nonneg _ ht, ?_, h.e2, ?_, by rcases h.sg with e | e <;> rw [e] <;> decide, ?_, ?_, ?_⟩
  · rw [er, ← h.g]
    obtain ⟨R, rfl⟩ : ∃ R : Nat, r = R := ⟨r.toNat, by have := h.r0; omega⟩
    obtain ⟨T, rfl⟩ : ∃ T : Nat, t = T := ⟨t.toNat, by omega⟩
    rw [← Int.natCast_emod, Int.natAbs_natCast, Int.natAbs_natCast, Int.natAbs_natCast, Nat.gcd_comm T (R % T), ← Nat.gcd_rec, Nat.gcd_comm]
  · have h1 := h.e1
    have h2 := h.e2
    generalize r / t = q at *
    rw [← h1, ← h2, Int.mul_sub, Int.mul_sub, Int.mul_add, Int.mul_left_comm a q x, Int.mul_left_comm b q y]
    omega
  · have := h.x0
    rw [Int.neg_mul]
    exact this
  · have h1 := h.u0
    have h2 := Int.mul_nonneg q0 h.x0
    generalize r / t = q at *
    have e : -(-s * (u - q * x)) = s * u + q * -(s * x) := by
      rw [Int.neg_mul, Int.neg_neg, Int.mul_sub, Int.mul_neg, Int.mul_left_comm s q x]
      omega
    rw [e]
    omega
  · have hk := h.k
    generalize r / t = q at *
    have e : -(-s * (u - q * x)) = s * u + q * -(s * x) := by
      rw [Int.neg_mul, Int.neg_neg, Int.mul_sub, Int.mul_neg, Int.mul_left_comm s q x]
      omega
    have e3 : -s * x = -(s * x) := Int.neg_mul s x
    rw [e, e3]
    generalize -(s * x) = X at *
    generalize s * u = U at *
    rw [← hk, Int.mul_add, Int.sub_mul, Int.mul_left_comm t q X, Int.mul_assoc q t X]
    omega
theorem s_abs {s x : Int} (h : s = 1 ∨ s = -1) : (s * x).natAbs = x.natAbs := by rcases h with e | e <;> rw [e] <;> simp
theorem sz_le {n : Nat} {x y : Int} (h : Sz n x) (h2 : y.natAbs ≤ x.natAbs) : Sz n y := Nat.lt_of_le_of_lt h2 h
theorem le_mulI {x y z : Int} (h : 0 ≤ x) (h1 : 1 ≤ y) (h2 : x * y ≤ z) : x ≤ z := by
  have := Int.mul_le_mul_of_nonneg_left h1 h
  omega
theorem pure_bezout (K : PySem.W.Frag) (vs : List V) (H : Hp) (Q : VK) (E : XK) (h : sp_bezout K vs H Q E) : t_bezout K { nx := fun _ H' => Q .non H', rt := Q } (start ["one", "other", "rest", "after", "u", "later_u", "v", "later_v", "often"] vs) H := by
  obtain ⟨a, b, rfl, ha, hb, sa, sb, hq⟩ := h
  unfold t_bezout
  walk_at "z"
  refine ⟨by decide, fun p hp => ⟨_, sqT_of upd_same, rfl, ?_⟩⟩
  walk_at "z"
  refine ⟨by decide, fun p2 hp2 => ⟨_, sqT_of upd_same, rfl, ?_⟩⟩
  walk_at "z"
  have sH := (same_upd (o := .tup [V.int 1, V.int 0]) hp).trans (same_upd (o := .tup [V.int 0, V.int 1]) hp2)
  revert sH
  generalize upd (upd H p (.tup [V.int 1, V.int 0])) p2 (.tup [V.int 0, V.int 1]) = H0
  intro sH
  have z0 : Sz 8000 0 := Nat.pow_pos (by decide)
  have z1 : Sz 8000 1 := Nat.one_lt_two_pow (by decide)
  refine while_of (fun μ σ H' => ∃ (r t u x v y s : Int) (o : Option V), σ = [some (.int a), some (.int b), some (.int r), some (.int t), some (.int u), some (.int x), some (.int v), some (.int y), o] ∧ H' = H0 ∧ Bz a b r t u x v y s ∧ Sz 8000 r ∧ Sz 8000 t ∧ Sz 8000 u ∧ Sz 8000 x ∧ Sz 16001 y ∧ t ≤ b ∧ μ = t.toNat) b.toNat ⟨a, b, 1, 0, 0, 1, 1, _, rfl, rfl, ⟨ha, hb, rfl, by omega, by omega, .inl rfl, by decide, by decide, by omega⟩, sa, sb, z1, z0, Nat.lt_of_lt_of_le z1 (Nat.pow_le_pow_right (by decide) (by decide)), Int.le_refl b, rfl⟩ ?_
  rintro μ σ H' ⟨r, t, u, x, v, y, s, o, rfl, rfl, B, sr, st, su, sx, sy, tb, rfl⟩ N hN hN2
  unfold t_bezout_w1_c t_bezout_w1_b
  walk_at "z"
  by_cases h0 : t = 0
  · subst h0
    have hg : r = ((Nat.gcd a.natAbs b.natAbs : Nat) : Int) := by
      have := B.g
      rw [Int.natAbs_zero, Nat.gcd_zero_right] at this
      have := B.r0
      omega
    have hn : ¬ r < 0 := by have := B.r0; omega
    have := B.e1
    walk_at "z"
    rw [if_neg hn]
    refine ⟨by decide, fun p hp => ?_⟩
    have sp := same_upd (o := .tup [V.int r, V.int u, V.int v]) hp
    refine hq p u v _ (sH.trans sp) ?_ su ?_
    · rw [← hg]; exact B.e1
    · rw [upd_same, hg]
  · have t1 : 0 < t := by have := B.t0; omega
    have B2 := B.step h0
    have q0 : 0 ≤ r / t := Int.ediv_nonneg B.r0 B.t0
    have qr : r / t ≤ r := Int.ediv_le_self _ B.r0
    have sq : Sz 8000 (r / t) := sz_le sr (by omega)
    have fd : r.fdiv t = r / t := Int.fdiv_eq_ediv_of_nonneg _ B.t0
    have er : r - r / t * t = r % t := by
      have := Int.emod_def r t
      rw [this, Int.mul_comm]
    have et : r % t < t := Int.emod_lt_of_pos _ t1
    have et0 : 0 ≤ r % t := Int.emod_nonneg _ h0
    have st2 : Sz 8000 (r - r / t * t) := sz_le st (by omega)
    have hb1 : b ≠ 0 := by omega
    have sx2 : Sz 8000 (u - r / t * x) := by
      have h2 := B2.k
      have h5 := B2.x0
      have h6 := Int.mul_nonneg B2.t0 B2.u0
      have h7 : -(-s * (u - r / t * x)) * t ≤ b := by rw [Int.mul_comm]; omega
      have h8 := le_mulI h5 (show 1 ≤ t by omega) h7
      have h9 := s_abs (x := u - r / t * x) B2.sg
      refine sz_le sb ?_
      omega
    have sy2 : Sz 16001 (v - r / t * y) := by
      have h2 := B2.e2
      have h3 : (b * (v - r / t * y)).natAbs ≤ t.natAbs + a.natAbs * (u - r / t * x).natAbs := by
        rw [← Int.natAbs_mul]
        omega
      have h4 : (v - r / t * y).natAbs ≤ (b * (v - r / t * y)).natAbs := by
        rw [Int.natAbs_mul]
        exact Nat.le_mul_of_pos_left _ (by omega)
      have h5 : a.natAbs * (u - r / t * x).natAbs ≤ 2 ^ 8000 * 2 ^ 8000 := Nat.mul_le_mul (Nat.le_of_lt sa) (Nat.le_of_lt sx2)
      rw [← Nat.pow_add] at h5
      have h6 : 2 ^ 8000 ≤ 2 ^ 16000 := Nat.pow_le_pow_right (by decide) (by decide)
      have h7 : (2 : Nat) ^ 16001 = 2 ^ 16000 + 2 ^ 16000 := by rw [show 16001 = 16000 + 1 from rfl, Nat.pow_succ]; omega
      have h8 : t.natAbs < 2 ^ 8000 := st
      show (v - r / t * y).natAbs < 2 ^ 16001
      rw [h7]
      generalize 2 ^ 16000 = P at *
      generalize 2 ^ 8000 = P2 at *
      omega
    rw [if_pos h0, fd]
    have lt8 : t.natAbs.log2 < 9000 := Nat.lt_of_lt_of_le (PySem.Flt.log2_lt_of (k := 8000) (by decide) st) (by decide)
    refine ⟨N, hN2, ⟨h0, lt8⟩, mulW (a := 8000) (b := 8000) sq st (by decide) (by decide) (by decide), mulW (a := 8000) (b := 8000) sq sx (by decide) (by decide) (by decide), mulW (a := 8000) (b := 16001) sq sy (by decide) (by decide) (by decide), ?_⟩
    refine hN (r % t).toNat _ _ (by omega) ⟨_, _, _, _, _, _, _, _, rfl, rfl, B2, st, st2, sx, sx2, sy2, by omega, by rw [er]⟩
theorem ok_bezout {P : Program} {w : World} {K : PySem.W.Frag} {mg : Str → Option Value} {base : Heap} (T : Tx K mg) : Okk P w K mg base 1 "bezout" ["one", "other"] (sp_bezout K) := by
  obtain ⟨fd, F⟩ := T.f_bezout
  refine ⟨fd, F.ok sc_bezout (fun vs H Q E h => len_bezout h) (fun cdv A outer s H vs Q E hr h => ⟨t_bezout K, PSs.nox ?_, pure_bezout K vs H Q E h⟩), F.bindsN (fun _ _ _ _ _ _ us hl => match us, hl with | [_, _], _ => rfl), T.g_bezout, F.kp⟩
  exact (pss_cons (ps_par (i := 2) (j := 3) rfl sc_bezout.nd rfl rfl (by decide) rfl rfl (pa_cons (pv 0) (pa_cons (pv 1) pa_nil)) (by rfl))
      (pss_cons (ps_asg (pe_tup (pa_cons pe_int (pa_cons pe_int pa_nil))) (pg_tup rfl (pgs_cons (pg_name (i := 4) sc_bezout.nd rfl (by first | exact Or.inl rfl | exact Or.inr rfl)) (pgs_cons (pg_name (i := 5) sc_bezout.nd rfl (by first | exact Or.inl rfl | exact Or.inr rfl)) pgs_nil))))
      (pss_cons (ps_asg (pe_tup (pa_cons pe_int (pa_cons pe_int pa_nil))) (pg_tup rfl (pgs_cons (pg_name (i := 6) sc_bezout.nd rfl (by first | exact Or.inl rfl | exact Or.inr rfl)) (pgs_cons (pg_name (i := 7) sc_bezout.nd rfl (by first | exact Or.inl rfl | exact Or.inr rfl)) pgs_nil))))
      (pss_cons (ps_while PassesOwn.never (pt_cmpR op_ne (pv 3) pe_int (nomark _)) (pss_cons (ps_set (i := 8) sc_bezout.nd rfl (by first | exact Or.inl rfl | exact Or.inr rfl) (pe_op op_fdivZ (pv 2) (pv 3)))
      (pss_cons (ps_par (i := 2) (j := 3) rfl sc_bezout.nd rfl rfl (by decide) rfl rfl (pa_cons (pv 3) (pa_cons (pe_op op_sub (pv 2) (pe_op op_mulU (pv 8) (pv 3))) pa_nil)) (by rfl))
      (pss_cons (ps_par (i := 4) (j := 5) rfl sc_bezout.nd rfl rfl (by decide) rfl rfl (pa_cons (pv 5) (pa_cons (pe_op op_sub (pv 4) (pe_op op_mulU (pv 8) (pv 5))) pa_nil)) (by rfl))
      (pss_one (ps_par (i := 6) (j := 7) rfl sc_bezout.nd rfl rfl (by decide) rfl rfl (pa_cons (pv 7) (pa_cons (pe_op op_sub (pv 6) (pe_op op_mulU (pv 8) (pv 7))) pa_nil)) (by rfl)))))))
      (pss_cons (ps_if (pt_cmpR op_lt (pv 2) pe_int (nomark _)) (pss_one (ps_ret (pe_tup (pa_cons (pe_un un_neg (pv 2)) (pa_cons (pe_un un_neg (pv 4)) (pa_cons (pe_un un_neg (pv 6)) pa_nil)))))) pss_nil)
      (pss_one (ps_ret (pe_tup (pa_cons (pv 2) (pa_cons (pv 4) (pa_cons (pv 6) pa_nil)))))))))))
/-! ### power_modulo -/
theorem sc_power_modulo : FnScope ["number", "exponent", "modulus", "result", "base"] ["number", "exponent", "modulus"] (defScope s_power_modulo) := ⟨rfl, rfl, rfl, by decide +kernel, rfl, by decide +kernel, by decide +kernel⟩
def sp_power_modulo (K : PySem.W.Frag) : Sp := fun vs H Q _ => ∃ b e m : Int, vs = [.int b, .int e, .int m] ∧ 0 ≤ e ∧ 0 < m ∧ m < 2 ^ 60 ∧ Q (.int (b ^ e.toNat % m)) H
theorem len_power_modulo {K : PySem.W.Frag} {vs : List V} {H : Hp} {Q : VK} {E : XK} (h : sp_power_modulo K vs H Q E) : vs.length = ["number", "exponent", "modulus"].length := by
  obtain ⟨_, _, _, rfl, _⟩ := h
  rfl
def t_power_modulo_w1_c (K : PySem.W.Frag) : TT := (tTest (tOp rGtI (tVar 1) (tC (.int 0))))
def t_power_modulo_w1_b (K : PySem.W.Frag) : TS := (tSeq (tIfS (tTest (tOp rEq (tOp rModU (tVar 1) (tC (.int 2))) (tC (.int 1)))) (tAsg (tOp rModU (tOp rMulU (tVar 3) (tVar 4)) (tVar 2)) (gName 3)) tNext)
  (tSeq (tAsg (tOp rModU (tOp rMulU (tVar 4) (tVar 4)) (tVar 2)) (gName 4))
  (tAsg (tOp rDivU (tVar 1) (tC (.int 2))) (gName 1))))
def t_power_modulo (K : PySem.W.Frag) : TS := (tSeq (tAsg (tOp rModU (tC (.int 1)) (tVar 2)) (gName 3))
  (tSeq (tAsg (tOp rModU (tVar 0) (tVar 2)) (gName 4))
  (tSeq (tWhile (t_power_modulo_w1_c K) (t_power_modulo_w1_b K))
  (tRet (tVar 3)))))
theorem emod_emod' (a m : Int) : a % m % m = a % m := Int.emod_emod_of_dvd a (Int.dvd_refl m)
theorem pow_emod (x m : Int) (k : Nat) : (x % m) ^ k % m = x ^ k % m := by
  induction k with
  | zero => rw [Int.pow_zero, Int.pow_zero]
  | succ k ih => rw [Int.pow_succ, Int.pow_succ, Int.mul_emod, ih, emod_emod', ← Int.mul_emod]
theorem pow_two_mul (b : Int) (e : Nat) : b ^ (2 * e) = (b * b) ^ e := by
  rw [Int.pow_mul, Int.pow_succ, Int.pow_succ, Int.pow_zero, Int.one_mul]
theorem pm_start {b m : Int} {e : Nat} : 1 % m * (b % m) ^ e % m = b ^ e % m := by
  rw [Int.mul_emod, pow_emod, emod_emod', ← Int.mul_emod, Int.one_mul]
theorem pm_even {r x m : Int} {e : Nat} (h : e % 2 = 0) : r * (x * x % m) ^ (e / 2) % m = r * x ^ e % m := by
  have e2 : x ^ e = (x * x) ^ (e / 2) := by rw [← pow_two_mul]; congr 1; omega
  rw [Int.mul_emod, pow_emod, ← Int.mul_emod, e2]
theorem pm_odd {r x m : Int} {e : Nat} (h : e % 2 = 1) : (r * x % m) * (x * x % m) ^ (e / 2) % m = r * x ^ e % m := by
  have e2 : x ^ e = x * (x * x) ^ (e / 2) := by
    rw [← pow_two_mul, Int.mul_comm, ← Int.pow_succ]; congr 1; omega
  rw [Int.mul_emod, pow_emod, emod_emod', ← Int.mul_emod, e2, Int.mul_assoc]
theorem half_toNat {e : Int} (h : 0 ≤ e) : (e / 2).toNat = e.toNat / 2 := by omega
theorem pure_power_modulo (K : PySem.W.Frag) (vs : List V) (H : Hp) (Q : VK) (E : XK) (h : sp_power_modulo K vs H Q E) : t_power_modulo K { nx := fun _ H' => Q .non H', rt := Q } (start ["number", "exponent", "modulus", "result", "base"] vs) H := by
  obtain ⟨b, e, m, rfl, he, hm, hm2, hq⟩ := h
  unfold t_power_modulo
  walk_at "z"
  refine ⟨hm, hm, ?_⟩
  refine while_of (fun μ σ H' => ∃ r x ee y : Int, σ = [some (.int y), some (.int ee), some (.int m), some (.int r), some (.int x)] ∧ H' = H ∧ 0 ≤ ee ∧ μ = ee.toNat ∧ 0 ≤ r ∧ r < m ∧ 0 ≤ x ∧ x < m ∧ r * x ^ ee.toNat % m = b ^ e.toNat % m) e.toNat ⟨1 % m, b % m, e, b, rfl, rfl, he, rfl, Int.emod_nonneg _ (by omega), Int.emod_lt_of_pos _ hm, Int.emod_nonneg _ (by omega), Int.emod_lt_of_pos _ hm, pm_start⟩ ?_
  rintro μ σ H' ⟨r, x, ee, y, rfl, rfl, hee, rfl, hr0, hr1, hx0, hx1, hinv⟩ N hN hN2
  unfold t_power_modulo_w1_c t_power_modulo_w1_b
  walk_at "z"
  by_cases h0 : 0 < ee
  · rw [if_pos h0]
    refine ⟨N, hN2, ?_⟩
    walk_at "z"
    refine ⟨by omega, ?_⟩
    have xx : 0 ≤ x * x % m ∧ x * x % m < m := ⟨Int.emod_nonneg _ (by omega), Int.emod_lt_of_pos _ hm⟩
    by_cases h1 : ee % 2 = 1
    · rw [if_pos h1]
      refine ⟨mulS (by omega), hm, mulS (by omega), hm, divS (by omega) (by omega), hN _ _ _ (by omega) ⟨_, _, _, _, rfl, rfl, by omega, rfl, Int.emod_nonneg _ (by omega), Int.emod_lt_of_pos _ hm, xx.1, xx.2, ?_⟩⟩
      rw [half_toNat hee, pm_odd (by omega), hinv]
    · rw [if_neg h1]
      refine ⟨mulS (by omega), hm, divS (by omega) (by omega), hN _ _ _ (by omega) ⟨_, _, _, _, rfl, rfl, by omega, rfl, hr0, hr1, xx.1, xx.2, ?_⟩⟩
      rw [half_toNat hee, pm_even (by omega), hinv]
  · rw [if_neg h0]
    obtain rfl : ee = 0 := by omega
    have e0 : r * x ^ (0 : Int).toNat % m = r := by
      show r * x ^ 0 % m = r
      rw [Int.pow_zero, Int.mul_one, emod_small hr0 hr1]
    rw [← hinv, e0] at hq
    exact hq
theorem ok_power_modulo {P : Program} {w : World} {K : PySem.W.Frag} {mg : Str → Option Value} {base : Heap} (T : Tx K mg) : Okk P w K mg base 1 "power_modulo" ["number", "exponent", "modulus"] (sp_power_modulo K) := by
  obtain ⟨fd, F⟩ := T.f_power_modulo
  refine ⟨fd, F.ok sc_power_modulo (fun vs H Q E h => len_power_modulo h) (fun cdv A outer s H vs Q E hr h => ⟨t_power_modulo K, PSs.nox ?_, pure_power_modulo K vs H Q E h⟩), F.bindsN (fun _ _ _ _ _ _ us hl => match us, hl with | [_, _, _], _ => rfl), T.g_power_modulo, F.kp⟩
  exact (pss_cons (ps_set (i := 3) sc_power_modulo.nd rfl (by first | exact Or.inl rfl | exact Or.inr rfl) (pe_op op_mod pe_int (pv 2)))
      (pss_cons (ps_set (i := 4) sc_power_modulo.nd rfl (by first | exact Or.inl rfl | exact Or.inr rfl) (pe_op op_mod (pv 0) (pv 2)))
      (pss_cons (ps_while PassesOwn.never (pt_cmpR op_gt (pv 1) pe_int (nomark _)) (pss_cons (ps_if (pt_cmpR op_eq (pe_op op_mod (pv 1) pe_int) pe_int (nomark _)) (pss_one (ps_set (i := 3) sc_power_modulo.nd rfl (by first | exact Or.inl rfl | exact Or.inr rfl) (pe_op op_mod (pe_op op_mulU (pv 3) (pv 4)) (pv 2)))) pss_nil)
      (pss_cons (ps_set (i := 4) sc_power_modulo.nd rfl (by first | exact Or.inl rfl | exact Or.inr rfl) (pe_op op_mod (pe_op op_mulU (pv 4) (pv 4)) (pv 2)))
      (pss_one (ps_set (i := 1) sc_power_modulo.nd rfl (by first | exact Or.inl rfl | exact Or.inr rfl) (pe_op op_fdivW (pv 1) pe_int))))))
      (pss_one (ps_ret (pv 3))))))
/-! ### integer_power -/
theorem sc_integer_power : FnScope ["number", "exponent", "result", "base"] ["number", "exponent"] (defScope s_integer_power) := ⟨rfl, rfl, rfl, by decide +kernel, rfl, by decide +kernel, by decide +kernel⟩
def sp_integer_power (K : PySem.W.Frag) : Sp := fun vs H Q _ => ∃ (b e : Int) (k : Nat) (_ : 1 ≤ k), vs = [.int b, .int e] ∧ 0 ≤ e ∧ Sz k b ∧ k * e.toNat ≤ 400000 ∧ Q (.int (b ^ e.toNat)) H
theorem len_integer_power {K : PySem.W.Frag} {vs : List V} {H : Hp} {Q : VK} {E : XK} (h : sp_integer_power K vs H Q E) : vs.length = ["number", "exponent"].length := by
  obtain ⟨_, _, _, _, rfl, _⟩ := h
  rfl
def t_integer_power_w1_c (K : PySem.W.Frag) : TT := (tTest (tOp rGtI (tVar 1) (tC (.int 0))))
def t_integer_power_w1_b (K : PySem.W.Frag) : TS := (tSeq (tIfS (tTest (tOp rEq (tOp rModU (tVar 1) (tC (.int 2))) (tC (.int 1)))) (tAsg (tOp rMulU (tVar 2) (tVar 3)) (gName 2)) tNext)
  (tSeq (tAsg (tOp rDivU (tVar 1) (tC (.int 2))) (gName 1))
  (tIfS (tTest (tOp rGtI (tVar 1) (tC (.int 0)))) (tAsg (tOp rMulU (tVar 3) (tVar 3)) (gName 3)) tNext)))
def t_integer_power (K : PySem.W.Frag) : TS := (tSeq (tAsg (tC (.int 1)) (gName 2))
  (tSeq (tAsg (tVar 0) (gName 3))
  (tSeq (tWhile (t_integer_power_w1_c K) (t_integer_power_w1_b K))
  (tRet (tVar 2)))))
theorem divS2 {i j : Int} (h : 0 < j) (h2 : j < 2 ^ 64) : CDivW i j := wide_div (b := 64) h (by omega) (by decide) (by decide)
theorem pure_integer_power (K : PySem.W.Frag) (vs : List V) (H : Hp) (Q : VK) (E : XK) (h : sp_integer_power K vs H Q E) : t_integer_power K { nx := fun _ H' => Q .non H', rt := Q } (start ["number", "exponent", "result", "base"] vs) H := by
  obtain ⟨b, e, k, k1, rfl, he, hb, hs, hq⟩ := h
  unfold t_integer_power
  walk_at "z"
  refine while_of (fun μ σ H' => ∃ (r x ee y : Int) (kr kx : Nat), σ = [some (.int y), some (.int ee), some (.int r), some (.int x)] ∧ H' = H ∧ 0 ≤ ee ∧ μ = ee.toNat ∧ Sz kr r ∧ Sz kx x ∧ 1 ≤ kr ∧ 1 ≤ kx ∧ kr + kx * ee.toNat ≤ 400001 ∧ r * x ^ ee.toNat = b ^ e.toNat) e.toNat ⟨1, b, e, b, 1, k, rfl, rfl, he, rfl, (show (1 : Int).natAbs < 2 ^ 1 by decide), hb, Nat.le_refl 1, k1, by omega, by rw [Int.one_mul]⟩ ?_
  rintro μ σ H' ⟨r, x, ee, y, kr, kx, rfl, rfl, hee, rfl, sr, sx, kr1, kx1, hk, hinv⟩ N hN hN2
  unfold t_integer_power_w1_c t_integer_power_w1_b
  walk_at "z"
  by_cases h0 : 0 < ee
  · rw [if_pos h0]
    refine ⟨N, hN2, ?_⟩
    walk_at "z"
    have kxl : kx ≤ 400000 := by
      have : kx * 1 ≤ kx * ee.toNat := Nat.mul_le_mul_left _ (by omega)
      omega
    have half : ∀ h2 : 0 < ee / 2, (x * x) ^ (ee / 2).toNat = x ^ (2 * (ee.toNat / 2)) := fun _ => by rw [pow_two_mul, half_toNat hee]
    refine ⟨by omega, ?_⟩
    by_cases h1 : ee % 2 = 1
    · rw [if_pos h1]
      refine ⟨mulW sr sx (by omega) (by omega) (by omega), divS2 (by omega) (by omega), ?_⟩
      by_cases h3 : 0 < ee / 2
      · rw [if_pos h3]
        refine ⟨mulW sx sx (by omega) (by omega) (by omega), hN _ _ _ (by omega) ⟨_, _, _, _, kr + kx, kx + kx, rfl, rfl, by omega, rfl, sz_mul sr sx, sz_mul sx sx, by omega, by omega, ?_, ?_⟩⟩
        · have e1 : ee.toNat = 2 * (ee / 2).toNat + 1 := by omega
          rw [e1, Nat.mul_add] at hk
          rw [Nat.add_mul]
          rw [Nat.mul_left_comm] at hk
          omega
        · rw [half h3, ← hinv, Int.mul_assoc]
          congr 1
          rw [Int.mul_comm, ← Int.pow_succ]
          congr 1
          omega
      · rw [if_neg h3]
        have e1 : ee = 1 := by omega
        subst e1
        refine hN _ _ _ (by decide) ⟨_, _, _, _, kr + kx, kx, rfl, rfl, by decide, rfl, sz_mul sr sx, sx, by omega, kx1, ?_, ?_⟩
        · have e2 : (1 : Int).toNat = 1 := rfl
          rw [e2] at hk
          show kr + kx + kx * 0 ≤ 400001
          omega
        · rw [← hinv]
          show r * x * x ^ 0 = r * x ^ 1
          rw [Int.pow_zero, Int.mul_one, Int.pow_succ, Int.pow_zero, Int.one_mul]
    · rw [if_neg h1]
      refine ⟨divS2 (by omega) (by omega), ?_⟩
      have h3 : 0 < ee / 2 := by omega
      rw [if_pos h3]
      refine ⟨mulW sx sx (by omega) (by omega) (by omega), hN _ _ _ (by omega) ⟨_, _, _, _, kr, kx + kx, rfl, rfl, by omega, rfl, sr, sz_mul sx sx, kr1, by omega, ?_, ?_⟩⟩
      · have e1 : ee.toNat = 2 * (ee / 2).toNat := by omega
        rw [e1, Nat.mul_left_comm] at hk
        rw [Nat.add_mul]
        omega
      · rw [half h3, ← hinv]
        congr 1
        congr 1
        omega
  · rw [if_neg h0]
    obtain rfl : ee = 0 := by omega
    have e0 : r * x ^ (0 : Int).toNat = r := by
      show r * x ^ 0 = r
      rw [Int.pow_zero, Int.mul_one]
    rw [← hinv, e0] at hq
    exact hq
theorem ok_integer_power {P : Program} {w : World} {K : PySem.W.Frag} {mg : Str → Option Value} {base : Heap} (T : Tx K mg) : Okk P w K mg base 1 "integer_power" ["number", "exponent"] (sp_integer_power K) := by
  obtain ⟨fd, F⟩ := T.f_integer_power
  refine ⟨fd, F.ok sc_integer_power (fun vs H Q E h => len_integer_power h) (fun cdv A outer s H vs Q E hr h => ⟨t_integer_power K, PSs.nox ?_, pure_integer_power K vs H Q E h⟩), F.bindsN (fun _ _ _ _ _ _ us hl => match us, hl with | [_, _], _ => rfl), T.g_integer_power, F.kp⟩
  exact (pss_cons (ps_set (i := 2) sc_integer_power.nd rfl (by first | exact Or.inl rfl | exact Or.inr rfl) pe_int)
      (pss_cons (ps_set (i := 3) sc_integer_power.nd rfl (by first | exact Or.inl rfl | exact Or.inr rfl) (pv 0))
      (pss_cons (ps_while PassesOwn.never (pt_cmpR op_gt (pv 1) pe_int (nomark _)) (pss_cons (ps_if (pt_cmpR op_eq (pe_op op_mod (pv 1) pe_int) pe_int (nomark _)) (pss_one (ps_set (i := 2) sc_integer_power.nd rfl (by first | exact Or.inl rfl | exact Or.inr rfl) (pe_op op_mulU (pv 2) (pv 3)))) pss_nil)
      (pss_cons (ps_set (i := 1) sc_integer_power.nd rfl (by first | exact Or.inl rfl | exact Or.inr rfl) (pe_op op_fdivW (pv 1) pe_int))
      (pss_one (ps_if (pt_cmpR op_gt (pv 1) pe_int (nomark _)) (pss_one (ps_set (i := 3) sc_integer_power.nd rfl (by first | exact Or.inl rfl | exact Or.inr rfl) (pe_op op_mulU (pv 3) (pv 3)))) pss_nil)))))
      (pss_one (ps_ret (pv 2))))))
/-! ### top_of -/
theorem sc_top_of : FnScope ["ground", "number"] ["ground", "number"] (defScope s_top_of) := ⟨rfl, rfl, rfl, by decide +kernel, rfl, by decide +kernel, by decide +kernel⟩
/-- a number of a ground: a over b, or the rest a -/
def NumR (H : Hp) (g : Int) (v : V) (a b : Int) : Prop :=
  (g = 0 ∧ (∃ p, v = .ref p ∧ H p = some (.tup [.int a, .int b])) ∧ 1 ≤ b ∧ Nat.gcd a.natAbs b.natAbs = 1) ∨ (g ≠ 0 ∧ v = .int a ∧ b = 1 ∧ 0 ≤ a ∧ a < g)
/-- at most sixty digits -/
def S60 (x : Int) : Prop := -(10 ^ 60) < x ∧ x < 10 ^ 60
theorem S60.sz {x : Int} (h : S60 x) : Sz 3000 x := Nat.lt_of_lt_of_le (show x.natAbs < 2 ^ 250 by have := h.1; have := h.2; omega) (Nat.pow_le_pow_right (by decide) (by decide))
theorem NumR.kn2 {H : Hp} {g : Int} {v : V} {a b : Int} (h : NumR H g v a b) : Kn2 H v := by
  rcases h with ⟨_, ⟨p, rfl, hp⟩, _⟩ | ⟨_, rfl, _⟩
  · refine ⟨.inr (.inl ⟨_, hp⟩), ?_⟩
    rintro xs ⟨a', e, h⟩ x hx
    cases e
    rw [hp] at h
    cases h
    simp only [List.mem_cons, List.not_mem_nil, or_false] at hx
    rcases hx with rfl | rfl <;> exact trivial
  · exact ⟨trivial, fun xs ⟨_, e, _⟩ => by cases e⟩
theorem NumR.numV {H : Hp} {g : Int} {v : V} {a b : Int} (h : NumR H g v a b) (sa : S60 a) (sb : S60 b) : NumV H g v (10 ^ 60) := by
  rcases h with ⟨e, ⟨p, rfl, hp⟩, b1, hc⟩ | ⟨hg, rfl, _, a0, a1⟩
  · exact .inr ⟨e, a, b, ⟨p, rfl, hp⟩, sa, sb, b1, hc⟩
  · exact .inl ⟨hg, a, rfl, a0, a1⟩
theorem ground_le {g : Int} (h : GroundV (.int g)) : 0 ≤ g ∧ g ≤ 9999 := by
  obtain ⟨n, e, h1, h2, _⟩ := h
  cases e
  exact ⟨h1, h2⟩
theorem ground_sz {g : Int} (h : GroundV (.int g)) : Sz 1000 g := Nat.lt_of_lt_of_le (show g.natAbs < 2 ^ 14 by have := ground_le h; omega) (Nat.pow_le_pow_right (by decide) (by decide))
theorem ground_cop {H : Hp} {g : Int} {w : V} {c d : Int} (h : GroundV (.int g)) (n : NumR H g w c d) (hc : c ≠ 0) : g ≠ 0 → Nat.gcd c.natAbs g.natAbs = 1 := fun hg => by
  obtain ⟨m, e, _, _, h | hp⟩ := h
  · cases e; exact absurd h hg
  · cases e
    rcases n with ⟨h, _⟩ | ⟨_, _, _, c0, c1⟩
    · exact absurd h hg
    · refine Classical.byContradiction fun hne => ?_
      have hg0 : Nat.gcd c.natAbs g.natAbs ≠ 0 := Nat.pos_iff_ne_zero.mp (Nat.gcd_pos_of_pos_left _ (by omega))
      have hle : Nat.gcd c.natAbs g.natAbs ≤ c.natAbs := Nat.le_of_dvd (by omega) (Nat.gcd_dvd_left _ _)
      refine hp.2 ((Nat.gcd c.natAbs g.natAbs : Nat) : Int) (by omega) (by omega) ?_
      exact Int.natAbs_dvd_natAbs.mp (by rw [Int.natAbs_natCast]; exact Nat.gcd_dvd_right _ _)
def sp_top_of (K : PySem.W.Frag) : Sp := fun vs H Q _ => ∃ (g : Int) (v : V) (a b : Int), vs = [.int g, v] ∧ NumR H g v a b ∧ Q (.int a) H
theorem len_top_of {K : PySem.W.Frag} {vs : List V} {H : Hp} {Q : VK} {E : XK} (h : sp_top_of K vs H Q E) : vs.length = ["ground", "number"].length := by
  obtain ⟨_, _, _, _, rfl, _⟩ := h
  rfl
def t_top_of (K : PySem.W.Frag) : TS := (tRet (tIf (tTest (tOp rEq (tVar 0) (tC (.int 0)))) (tOp (rIxA K) (tVar 1) (tC (.int 0))) (tVar 1)))
theorem NumR.same {H H' : Hp} {g : Int} {v : V} {a b : Int} (h : NumR H g v a b) (s : Same H H') : NumR H' g v a b := by
  rcases h with ⟨e, ⟨p, e2, h⟩, r⟩ | h
  · exact .inl ⟨e, ⟨p, e2, s _ _ h⟩, r⟩
  · exact .inr h
theorem pure_top_of (K : PySem.W.Frag) (vs : List V) (H : Hp) (Q : VK) (E : XK) (h : sp_top_of K vs H Q E) : t_top_of K { nx := fun _ H' => Q .non H', rt := Q } (start ["ground", "number"] vs) H := by
  obtain ⟨g, v, a, b, rfl, hn, hq⟩ := h
  unfold t_top_of
  walk_at "z"
  rcases hn with ⟨rfl, ⟨p, rfl, hp⟩, _⟩ | ⟨hg, rfl, _⟩
  · walk_at "z"
    exact ixT (sqT_of hp) (v := .int a) rfl hq
  · rw [if_neg hg]
    exact hq
theorem ok_top_of {P : Program} {w : World} {K : PySem.W.Frag} {mg : Str → Option Value} {base : Heap} (T : Tx K mg) : Okk P w K mg base 1 "top_of" ["ground", "number"] (sp_top_of K) := by
  obtain ⟨fd, F⟩ := T.f_top_of
  refine ⟨fd, F.ok sc_top_of (fun vs H Q E h => len_top_of h) (fun cdv A outer s H vs Q E hr h => ⟨t_top_of K, PSs.nox ?_, pure_top_of K vs H Q E h⟩), F.bindsN (fun _ _ _ _ _ _ us hl => match us, hl with | [_, _], _ => rfl), T.g_top_of, F.kp⟩
  exact (pss_one (ps_ret (pe_ifExp (pt_cmpR op_eq (pv 0) pe_int (nomark _)) (pe_ix ix_lt (pv 1) pe_int (fun _ _ => rfl)) (pv 1))))
/-! ### number_of -/
theorem sc_number_of : FnScope ["ground", "integer"] ["ground", "integer"] (defScope s_number_of) := ⟨rfl, rfl, rfl, by decide +kernel, rfl, by decide +kernel, by decide +kernel⟩
def sp_number_of (K : PySem.W.Frag) : Sp := fun vs H Q _ => ∃ g n : Int, vs = [.int g, .int n] ∧ 0 ≤ g ∧ (g = 0 → ∀ p, H p = none → Q (.ref p) (upd H p (.tup [.int n, .int 1]))) ∧ (g ≠ 0 → Q (.int (n % g)) H)
theorem len_number_of {K : PySem.W.Frag} {vs : List V} {H : Hp} {Q : VK} {E : XK} (h : sp_number_of K vs H Q E) : vs.length = ["ground", "integer"].length := by
  obtain ⟨_, _, rfl, _⟩ := h
  rfl
def t_number_of (K : PySem.W.Frag) : TS := (tRet (tIf (tTest (tOp rEq (tVar 0) (tC (.int 0)))) (tTup (tCons (tVar 1) (tCons (tC (.int 1)) tNil))) (tOp rModU (tVar 1) (tVar 0))))
theorem pure_number_of (K : PySem.W.Frag) (vs : List V) (H : Hp) (Q : VK) (E : XK) (h : sp_number_of K vs H Q E) : t_number_of K { nx := fun _ H' => Q .non H', rt := Q } (start ["ground", "integer"] vs) H := by
  obtain ⟨g, n, rfl, h0, h1, h2⟩ := h
  unfold t_number_of
  walk_at "z"
  by_cases hg : g = 0
  · rw [if_pos hg]
    exact ⟨by decide, h1 hg⟩
  · rw [if_neg hg]
    exact ⟨by omega, h2 hg⟩
theorem ok_number_of {P : Program} {w : World} {K : PySem.W.Frag} {mg : Str → Option Value} {base : Heap} (T : Tx K mg) : Okk P w K mg base 1 "number_of" ["ground", "integer"] (sp_number_of K) := by
  obtain ⟨fd, F⟩ := T.f_number_of
  refine ⟨fd, F.ok sc_number_of (fun vs H Q E h => len_number_of h) (fun cdv A outer s H vs Q E hr h => ⟨t_number_of K, PSs.nox ?_, pure_number_of K vs H Q E h⟩), F.bindsN (fun _ _ _ _ _ _ us hl => match us, hl with | [_, _], _ => rfl), T.g_number_of, F.kp⟩
  exact (pss_one (ps_ret (pe_ifExp (pt_cmpR op_eq (pv 0) pe_int (nomark _)) (pe_tup (pa_cons (pv 1) (pa_cons pe_int pa_nil))) (pe_op op_mod (pv 1) (pv 0)))))
/-! ### opposite -/
theorem sc_opposite : FnScope ["ground", "one"] ["ground", "one"] (defScope s_opposite) := ⟨rfl, rfl, rfl, by decide +kernel, rfl, by decide +kernel, by decide +kernel⟩
def sp_opposite (K : PySem.W.Frag) : Sp := fun vs H Q _ => ∃ (g : Int) (v : V) (a b : Int), vs = [.int g, v] ∧ 0 ≤ g ∧ NumR H g v a b ∧ ∀ z x H', Same H H' → NumR H' g z x b → (g = 0 → x = -a) → (g ≠ 0 → x = -a % g) → Q z H'
theorem len_opposite {K : PySem.W.Frag} {vs : List V} {H : Hp} {Q : VK} {E : XK} (h : sp_opposite K vs H Q E) : vs.length = ["ground", "one"].length := by
  obtain ⟨_, _, _, _, rfl, _⟩ := h
  rfl
def t_opposite (K : PySem.W.Frag) : TS := (tRet (tIf (tTest (tOp rEq (tVar 0) (tC (.int 0)))) (tTup (tCons (tUn rNeg (tOp (rIxA K) (tVar 1) (tC (.int 0)))) (tCons (tOp (rIxA K) (tVar 1) (tC (.int 1))) tNil))) (tOp rModU (tUn rNeg (tVar 1)) (tVar 0))))
theorem pure_opposite (K : PySem.W.Frag) (vs : List V) (H : Hp) (Q : VK) (E : XK) (h : sp_opposite K vs H Q E) : t_opposite K { nx := fun _ H' => Q .non H', rt := Q } (start ["ground", "one"] vs) H := by
  obtain ⟨g, v, a, b, rfl, hg, hn, hq⟩ := h
  unfold t_opposite
  walk_at "z"
  rcases hn with ⟨rfl, ⟨p, rfl, hp⟩, b1, hc⟩ | ⟨hg0, rfl, rfl, a0, a1⟩
  · walk_at "z"
    refine ixT (sqT_of hp) (v := .int a) rfl ?_
    walk_at "z"
    refine ixT (sqT_of hp) (v := .int b) rfl ?_
    walk_at "z"
    refine ⟨by decide, fun r hr => ?_⟩
    exact hq _ (-a) _ (same_upd hr) (.inl ⟨rfl, ⟨r, rfl, upd_same⟩, b1, by rw [Int.natAbs_neg]; exact hc⟩) (fun _ => rfl) (fun h => absurd rfl h)
  · rw [if_neg hg0]
    walk_at "z"
    exact ⟨by omega, hq _ _ H (Same.refl H) (.inr ⟨hg0, rfl, rfl, Int.emod_nonneg _ hg0, Int.emod_lt_of_pos _ (by omega)⟩) (fun h => absurd h hg0) (fun _ => rfl)⟩
theorem ok_opposite {P : Program} {w : World} {K : PySem.W.Frag} {mg : Str → Option Value} {base : Heap} (T : Tx K mg) : Okk P w K mg base 1 "opposite" ["ground", "one"] (sp_opposite K) := by
  obtain ⟨fd, F⟩ := T.f_opposite
  refine ⟨fd, F.ok sc_opposite (fun vs H Q E h => len_opposite h) (fun cdv A outer s H vs Q E hr h => ⟨t_opposite K, PSs.nox ?_, pure_opposite K vs H Q E h⟩), F.bindsN (fun _ _ _ _ _ _ us hl => match us, hl with | [_, _], _ => rfl), T.g_opposite, F.kp⟩
  exact (pss_one (ps_ret (pe_ifExp (pt_cmpR op_eq (pv 0) pe_int (nomark _)) (pe_tup (pa_cons (pe_un un_neg (pe_ix ix_lt (pv 1) pe_int (fun _ _ => rfl))) (pa_cons (pe_ix ix_lt (pv 1) pe_int (fun _ _ => rfl)) pa_nil))) (pe_op op_mod (pe_un un_neg (pv 1)) (pv 0)))))
/-! ### sign_of -/
theorem sc_sign_of : FnScope ["number"] ["number"] (defScope s_sign_of) := ⟨rfl, rfl, rfl, by decide +kernel, rfl, by decide +kernel, by decide +kernel⟩
def sp_sign_of (K : PySem.W.Frag) : Sp := fun vs H Q _ => ∃ n : Int, vs = [.int n] ∧ Q (.int (if n = 0 then 0 else if n < 0 then -1 else 1)) H
theorem len_sign_of {K : PySem.W.Frag} {vs : List V} {H : Hp} {Q : VK} {E : XK} (h : sp_sign_of K vs H Q E) : vs.length = ["number"].length := by
  obtain ⟨_, rfl, _⟩ := h
  rfl
def t_sign_of (K : PySem.W.Frag) : TS := (tSeq (tIfS (tTest (tOp rEq (tVar 0) (tC (.int 0)))) (tRet (tC (.int 0))) tNext)
  (tRet (tIf (tTest (tOp rLtI (tVar 0) (tC (.int 0)))) (tUn rNeg (tC (.int 1))) (tC (.int 1)))))
theorem pure_sign_of (K : PySem.W.Frag) (vs : List V) (H : Hp) (Q : VK) (E : XK) (h : sp_sign_of K vs H Q E) : t_sign_of K { nx := fun _ H' => Q .non H', rt := Q } (start ["number"] vs) H := by
  obtain ⟨n, rfl, hq⟩ := h
  unfold t_sign_of
  walk_at "z"
  by_cases h1 : n = 0
  · rw [if_pos h1] at hq
    rw [if_pos h1]
    exact hq
  · rw [if_neg h1] at hq
    rw [if_neg h1]
    walk_at "z"
    by_cases h2 : n < 0
    · rw [if_pos h2] at hq
      rw [if_pos h2]
      exact hq
    · rw [if_neg h2] at hq
      rw [if_neg h2]
      exact hq
theorem ok_sign_of {P : Program} {w : World} {K : PySem.W.Frag} {mg : Str → Option Value} {base : Heap} (T : Tx K mg) : Okk P w K mg base 1 "sign_of" ["number"] (sp_sign_of K) := by
  obtain ⟨fd, F⟩ := T.f_sign_of
  refine ⟨fd, F.ok sc_sign_of (fun vs H Q E h => len_sign_of h) (fun cdv A outer s H vs Q E hr h => ⟨t_sign_of K, PSs.nox ?_, pure_sign_of K vs H Q E h⟩), F.bindsN (fun _ _ _ _ _ _ us hl => match us, hl with | [_], _ => rfl), T.g_sign_of, F.kp⟩
  exact (pss_cons (ps_if (pt_cmpR op_eq (pv 0) pe_int (nomark _)) (pss_one (ps_ret pe_int)) pss_nil)
      (pss_one (ps_ret (pe_ifExp (pt_cmpR op_lt (pv 0) pe_int (nomark _)) (pe_un un_neg pe_int) pe_int))))
/-! ### is_below -/
theorem sc_is_below : FnScope ["value", "limit"] ["value", "limit"] (defScope s_is_below) := ⟨rfl, rfl, rfl, by decide +kernel, rfl, by decide +kernel, by decide +kernel⟩
def sp_is_below (K : PySem.W.Frag) : Sp := fun vs H Q _ => ∃ (v : V) (l : Int), vs = [v, .int l] ∧ Kn H v ∧ Q (.bl (belowB v l)) H
theorem len_is_below {K : PySem.W.Frag} {vs : List V} {H : Hp} {Q : VK} {E : XK} (h : sp_is_below K vs H Q E) : vs.length = ["value", "limit"].length := by
  obtain ⟨_, _, rfl, _⟩ := h
  rfl
def t_is_below (K : PySem.W.Frag) : TS := (tRet (tAndV (tCall (sp_is_int K) [] E0 (tCons (tVar 0) tNil)) (tOrV (tIsN (tVar 1)) (tChain rLtI rLtI (tUn rNeg (tVar 1)) (tVar 0) (tVar 1)))))
theorem pure_is_below (K : PySem.W.Frag) (vs : List V) (H : Hp) (Q : VK) (E : XK) (h : sp_is_below K vs H Q E) : t_is_below K { nx := fun _ H' => Q .non H', rt := Q } (start ["value", "limit"] vs) H := by
  obtain ⟨v, l, rfl, hk, hq⟩ := h
  unfold t_is_below
  walk_at "z"
  refine ⟨v, rfl, hk, ?_⟩
  walk_at "z"
  cases v with
  | int i =>
    simp only [isI, if_true]
    walk_at "z"
    unfold belowB at hq
    by_cases h1 : -l < i
    · rw [if_pos h1]
      simpa [h1] using hq
    · rw [if_neg h1]
      simpa [h1] using hq
  | _ =>
    simp only [isI, Bool.false_eq_true, if_false]
    exact hq
theorem ok_is_below {P : Program} {w : World} {K : PySem.W.Frag} {mg : Str → Option Value} {base : Heap} (T : Tx K mg) : Okk P w K mg base 2 "is_below" ["value", "limit"] (sp_is_below K) := by
  obtain ⟨fd_is_int, F_is_int, b_is_int, g_is_int, k_is_int⟩ := ok_is_int (P := P) (w := w) (base := base) T
  obtain ⟨fd, F⟩ := T.f_is_below
  refine ⟨fd, F.ok sc_is_below (fun vs H Q E h => len_is_below h) (fun cdv A outer s H vs Q E hr h => ⟨t_is_below K, PSs.nox ?_, pure_is_below K vs H Q E h⟩), F.bindsN (fun _ _ _ _ _ _ us hl => match us, hl with | [_, _], _ => rfl), T.g_is_below, F.kp⟩
  exact (pss_one (ps_ret (pe_and (pe_call F_is_int (hr.mono (by decide)) rfl g_is_int k_is_int b_is_int .nil pass0 (pa_cons (pv 0) pa_nil)) (pe_one (pe_or (pe_cmp (pc_isN (pv 1))) (pe_one (pe_chain op_lt op_lt (pe_un un_neg (pv 1)) (pv 0) (pv 1))))))))
/-! ### is_between -/
theorem sc_is_between : FnScope ["value", "low", "high"] ["value", "low", "high"] (defScope s_is_between) := ⟨rfl, rfl, rfl, by decide +kernel, rfl, by decide +kernel, by decide +kernel⟩
def betwB (v : V) (lo hi : Int) : Bool := match v with
  | .int i => decide (lo ≤ i ∧ i ≤ hi)
  | _ => false
def sp_is_between (K : PySem.W.Frag) : Sp := fun vs H Q _ => ∃ (v : V) (lo hi : Int), vs = [v, .int lo, .int hi] ∧ Kn H v ∧ Q (.bl (betwB v lo hi)) H
theorem len_is_between {K : PySem.W.Frag} {vs : List V} {H : Hp} {Q : VK} {E : XK} (h : sp_is_between K vs H Q E) : vs.length = ["value", "low", "high"].length := by
  obtain ⟨_, _, _, rfl, _⟩ := h
  rfl
def t_is_between (K : PySem.W.Frag) : TS := (tRet (tAndV (tCall (sp_is_int K) [] E0 (tCons (tVar 0) tNil)) (tAndV (tOp rGeI (tVar 0) (tVar 1)) (tOrV (tIsN (tVar 2)) (tOp rLeI (tVar 0) (tVar 2))))))
theorem pure_is_between (K : PySem.W.Frag) (vs : List V) (H : Hp) (Q : VK) (E : XK) (h : sp_is_between K vs H Q E) : t_is_between K { nx := fun _ H' => Q .non H', rt := Q } (start ["value", "low", "high"] vs) H := by
  obtain ⟨v, lo, hi, rfl, hk, hq⟩ := h
  unfold t_is_between
  walk_at "z"
  refine ⟨v, rfl, hk, ?_⟩
  walk_at "z"
  cases v with
  | int i =>
    simp only [isI, if_true]
    walk_at "z"
    unfold betwB at hq
    by_cases h1 : lo ≤ i
    · rw [if_pos h1]
      simpa [h1] using hq
    · rw [if_neg h1]
      simpa [h1] using hq
  | _ =>
    simp only [isI, Bool.false_eq_true, if_false]
    exact hq
theorem ok_is_between {P : Program} {w : World} {K : PySem.W.Frag} {mg : Str → Option Value} {base : Heap} (T : Tx K mg) : Okk P w K mg base 2 "is_between" ["value", "low", "high"] (sp_is_between K) := by
  obtain ⟨fd_is_int, F_is_int, b_is_int, g_is_int, k_is_int⟩ := ok_is_int (P := P) (w := w) (base := base) T
  obtain ⟨fd, F⟩ := T.f_is_between
  refine ⟨fd, F.ok sc_is_between (fun vs H Q E h => len_is_between h) (fun cdv A outer s H vs Q E hr h => ⟨t_is_between K, PSs.nox ?_, pure_is_between K vs H Q E h⟩), F.bindsN (fun _ _ _ _ _ _ us hl => match us, hl with | [_, _, _], _ => rfl), T.g_is_between, F.kp⟩
  exact (pss_one (ps_ret (pe_and (pe_call F_is_int (hr.mono (by decide)) rfl g_is_int k_is_int b_is_int .nil pass0 (pa_cons (pv 0) pa_nil)) (pe_and (pe_cmpR op_ge (pv 0) (pv 1) (nomark _)) (pe_one (pe_or (pe_cmp (pc_isN (pv 2))) (pe_one (pe_cmpR op_le (pv 0) (pv 2) (nomark _)))))))))
/-! ### undone_modulo -/
theorem sc_undone_modulo : FnScope ["number", "modulus"] ["number", "modulus"] (defScope s_undone_modulo) := ⟨rfl, rfl, rfl, by decide +kernel, rfl, by decide +kernel, by decide +kernel⟩
def sp_undone_modulo (K : PySem.W.Frag) : Sp := fun vs H Q _ => ∃ a m : Int, vs = [.int a, .int m] ∧ 0 < m ∧ Sz 8000 m ∧ ∀ u H', Same H H' → 0 ≤ u → u < m → (a * u) % m = ((Nat.gcd (a % m).natAbs m.natAbs : Nat) : Int) % m → Q (.int u) H'
theorem len_undone_modulo {K : PySem.W.Frag} {vs : List V} {H : Hp} {Q : VK} {E : XK} (h : sp_undone_modulo K vs H Q E) : vs.length = ["number", "modulus"].length := by
  obtain ⟨_, _, rfl, _⟩ := h
  rfl
def t_undone_modulo (K : PySem.W.Frag) : TS := (tRet (tOp rModU (tOp (rIxA K) (tCall (sp_bezout K) [] E0 (tCons (tOp rModU (tVar 0) (tVar 1)) (tCons (tVar 1) tNil))) (tC (.int 1))) (tVar 1)))
theorem pure_undone_modulo (K : PySem.W.Frag) (vs : List V) (H : Hp) (Q : VK) (E : XK) (h : sp_undone_modulo K vs H Q E) : t_undone_modulo K { nx := fun _ H' => Q .non H', rt := Q } (start ["number", "modulus"] vs) H := by
  obtain ⟨a, m, rfl, hm, sm, hq⟩ := h
  unfold t_undone_modulo
  walk_at "z"
  have h0 : 0 ≤ a % m := Int.emod_nonneg _ (by omega)
  have h1 : a % m < m := Int.emod_lt_of_pos _ hm
  refine ⟨hm, a % m, m, rfl, h0, by omega, sz_le sm (by omega), sm, fun p u v H' s e su hp => ?_⟩
  refine ixT (sqT_of hp) (v := .int u) rfl ?_
  walk_at "z"
  refine ⟨hm, hq _ _ s (Int.emod_nonneg _ (by omega)) (Int.emod_lt_of_pos _ hm) ?_⟩
  rw [← e, Int.mul_emod, emod_emod', ← Int.mul_emod, Int.add_mul_emod_self_left, Int.mul_emod (a % m), emod_emod', ← Int.mul_emod]
theorem ok_undone_modulo {P : Program} {w : World} {K : PySem.W.Frag} {mg : Str → Option Value} {base : Heap} (T : Tx K mg) : Okk P w K mg base 2 "undone_modulo" ["number", "modulus"] (sp_undone_modulo K) := by
  obtain ⟨fd_bezout, F_bezout, b_bezout, g_bezout, k_bezout⟩ := ok_bezout (P := P) (w := w) (base := base) T
  obtain ⟨fd, F⟩ := T.f_undone_modulo
  refine ⟨fd, F.ok sc_undone_modulo (fun vs H Q E h => len_undone_modulo h) (fun cdv A outer s H vs Q E hr h => ⟨t_undone_modulo K, PSs.nox ?_, pure_undone_modulo K vs H Q E h⟩), F.bindsN (fun _ _ _ _ _ _ us hl => match us, hl with | [_, _], _ => rfl), T.g_undone_modulo, F.kp⟩
  exact (pss_one (ps_ret (pe_op op_mod (pe_ix ix_lt (pe_call F_bezout (hr.mono (by decide)) rfl g_bezout k_bezout b_bezout .nil pass0 (pa_cons (pe_op op_mod (pv 0) (pv 1)) (pa_cons (pv 1) pa_nil))) pe_int (fun _ _ => rfl)) (pv 1))))
/-! ### is_zero -/
theorem sc_is_zero : FnScope ["ground", "number"] ["ground", "number"] (defScope s_is_zero) := ⟨rfl, rfl, rfl, by decide +kernel, rfl, by decide +kernel, by decide +kernel⟩
def sp_is_zero (K : PySem.W.Frag) : Sp := fun vs H Q _ => ∃ (g : Int) (v : V) (a b : Int), vs = [.int g, v] ∧ NumR H g v a b ∧ Q (.bl (decide (a = 0))) H
theorem len_is_zero {K : PySem.W.Frag} {vs : List V} {H : Hp} {Q : VK} {E : XK} (h : sp_is_zero K vs H Q E) : vs.length = ["ground", "number"].length := by
  obtain ⟨_, _, _, _, rfl, _⟩ := h
  rfl
def t_is_zero (K : PySem.W.Frag) : TS := (tRet (tOp rEq (tCall (sp_top_of K) [] E0 (tCons (tVar 0) (tCons (tVar 1) tNil))) (tC (.int 0))))
theorem pure_is_zero (K : PySem.W.Frag) (vs : List V) (H : Hp) (Q : VK) (E : XK) (h : sp_is_zero K vs H Q E) : t_is_zero K { nx := fun _ H' => Q .non H', rt := Q } (start ["ground", "number"] vs) H := by
  obtain ⟨g, v, a, b, rfl, hn, hq⟩ := h
  unfold t_is_zero
  walk_at "z"
  refine ⟨g, v, a, b, rfl, hn, ?_⟩
  walk_at "z"
  exact hq
theorem ok_is_zero {P : Program} {w : World} {K : PySem.W.Frag} {mg : Str → Option Value} {base : Heap} (T : Tx K mg) : Okk P w K mg base 2 "is_zero" ["ground", "number"] (sp_is_zero K) := by
  obtain ⟨fd_top_of, F_top_of, b_top_of, g_top_of, k_top_of⟩ := ok_top_of (P := P) (w := w) (base := base) T
  obtain ⟨fd, F⟩ := T.f_is_zero
  refine ⟨fd, F.ok sc_is_zero (fun vs H Q E h => len_is_zero h) (fun cdv A outer s H vs Q E hr h => ⟨t_is_zero K, PSs.nox ?_, pure_is_zero K vs H Q E h⟩), F.bindsN (fun _ _ _ _ _ _ us hl => match us, hl with | [_, _], _ => rfl), T.g_is_zero, F.kp⟩
  exact (pss_one (ps_ret (pe_cmpR op_eq (pe_call F_top_of (hr.mono (by decide)) rfl g_top_of k_top_of b_top_of .nil pass0 (pa_cons (pv 0) (pa_cons (pv 1) pa_nil))) pe_int (nomark _))))
/-! ### power -/
theorem sc_power : FnScope ["ground", "one", "exponent"] ["ground", "one", "exponent"] (defScope s_power) := ⟨rfl, rfl, rfl, by decide +kernel, rfl, by decide +kernel, by decide +kernel⟩
def sp_power (K : PySem.W.Frag) : Sp := fun vs H Q _ => ∃ (g : Int) (v : V) (a b e : Int), vs = [.int g, v, .int e] ∧ 0 ≤ g ∧ 0 ≤ e ∧ NumR H g v a b ∧ g < 2 ^ 60 ∧ (g = 0 → ∃ k : Nat, 1 ≤ k ∧ Sz k a ∧ Sz k b ∧ k * e.toNat ≤ 400000) ∧
  (g = 0 → ∀ p H', Same H H' → H' p = some (.tup [.int (a ^ e.toNat), .int (b ^ e.toNat)]) → Q (.ref p) H') ∧ (g ≠ 0 → Q (.int (a ^ e.toNat % g)) H)
theorem len_power {K : PySem.W.Frag} {vs : List V} {H : Hp} {Q : VK} {E : XK} (h : sp_power K vs H Q E) : vs.length = ["ground", "one", "exponent"].length := by
  obtain ⟨_, _, _, _, _, rfl, _⟩ := h
  rfl
def t_power (K : PySem.W.Frag) : TS := (tSeq (tIfS (tTest (tOp rNe (tVar 0) (tC (.int 0)))) (tRet (tCall (sp_power_modulo K) [] E0 (tCons (tVar 1) (tCons (tVar 2) (tCons (tVar 0) tNil))))) tNext)
  (tRet (tTup (tCons (tCall (sp_integer_power K) [] E0 (tCons (tOp (rIxA K) (tVar 1) (tC (.int 0))) (tCons (tVar 2) tNil))) (tCons (tCall (sp_integer_power K) [] E0 (tCons (tOp (rIxA K) (tVar 1) (tC (.int 1))) (tCons (tVar 2) tNil))) tNil)))))
theorem pure_power (K : PySem.W.Frag) (vs : List V) (H : Hp) (Q : VK) (E : XK) (h : sp_power K vs H Q E) : t_power K { nx := fun _ H' => Q .non H', rt := Q } (start ["ground", "one", "exponent"] vs) H := by
  obtain ⟨g, v, a, b, e, rfl, hg, he, hn, hg60, hk, hq1, hq2⟩ := h
  unfold t_power
  walk_at "z"
  rcases hn with ⟨rfl, ⟨p, rfl, hp⟩, b1, hc⟩ | ⟨hg0, rfl, rfl, a0, a1⟩
  · obtain ⟨k, k1, ka, kb, kk⟩ := hk rfl
    walk_at "z"
    refine ixT (sqT_of hp) (v := .int a) rfl ?_
    refine ⟨a, e, k, k1, rfl, he, ka, kk, ?_⟩
    walk_at "z"
    refine ixT (sqT_of hp) (v := .int b) rfl ?_
    refine ⟨b, e, k, k1, rfl, he, kb, kk, ?_⟩
    walk_at "z"
    exact ⟨by decide, fun r hr => hq1 rfl r _ (same_upd hr) upd_same⟩
  · rw [if_pos hg0]
    exact ⟨a, e, g, rfl, he, by omega, hg60, hq2 hg0⟩
theorem ok_power {P : Program} {w : World} {K : PySem.W.Frag} {mg : Str → Option Value} {base : Heap} (T : Tx K mg) : Okk P w K mg base 2 "power" ["ground", "one", "exponent"] (sp_power K) := by
  obtain ⟨fd_power_modulo, F_power_modulo, b_power_modulo, g_power_modulo, k_power_modulo⟩ := ok_power_modulo (P := P) (w := w) (base := base) T
  obtain ⟨fd_integer_power, F_integer_power, b_integer_power, g_integer_power, k_integer_power⟩ := ok_integer_power (P := P) (w := w) (base := base) T
  obtain ⟨fd, F⟩ := T.f_power
  refine ⟨fd, F.ok sc_power (fun vs H Q E h => len_power h) (fun cdv A outer s H vs Q E hr h => ⟨t_power K, PSs.nox ?_, pure_power K vs H Q E h⟩), F.bindsN (fun _ _ _ _ _ _ us hl => match us, hl with | [_, _, _], _ => rfl), T.g_power, F.kp⟩
  exact (pss_cons (ps_if (pt_cmpR op_ne (pv 0) pe_int (nomark _)) (pss_one (ps_ret (pe_call F_power_modulo (hr.mono (by decide)) rfl g_power_modulo k_power_modulo b_power_modulo .nil pass0 (pa_cons (pv 1) (pa_cons (pv 2) (pa_cons (pv 0) pa_nil)))))) pss_nil)
      (pss_one (ps_ret (pe_tup (pa_cons (pe_call F_integer_power (hr.mono (by decide)) rfl g_integer_power k_integer_power b_integer_power .nil pass0 (pa_cons (pe_ix ix_lt (pv 1) pe_int (fun _ _ => rfl)) (pa_cons (pv 2) pa_nil))) (pa_cons (pe_call F_integer_power (hr.mono (by decide)) rfl g_integer_power k_integer_power b_integer_power .nil pass0 (pa_cons (pe_ix ix_lt (pv 1) pe_int (fun _ _ => rfl)) (pa_cons (pv 2) pa_nil))) pa_nil))))))
/-! ### sign_of_difference -/
theorem sc_sign_of_difference : FnScope ["one", "other"] ["one", "other"] (defScope s_sign_of_difference) := ⟨rfl, rfl, rfl, by decide +kernel, rfl, by decide +kernel, by decide +kernel⟩
def sp_sign_of_difference (K : PySem.W.Frag) : Sp := fun vs H Q _ => ∃ (v w : V) (a b c d : Int), vs = [v, w] ∧ NumR H 0 v a b ∧ NumR H 0 w c d ∧ Sz 3000 a ∧ Sz 3000 b ∧ Sz 3000 c ∧ Sz 3000 d ∧ Q (.int (if a * d = c * b then 0 else if a * d < c * b then -1 else 1)) H
theorem len_sign_of_difference {K : PySem.W.Frag} {vs : List V} {H : Hp} {Q : VK} {E : XK} (h : sp_sign_of_difference K vs H Q E) : vs.length = ["one", "other"].length := by
  obtain ⟨_, _, _, _, _, _, rfl, _⟩ := h
  rfl
def t_sign_of_difference (K : PySem.W.Frag) : TS := (tRet (tCall (sp_sign_of K) [] E0 (tCons (tOp rSub (tOp rMulU (tOp (rIxA K) (tVar 0) (tC (.int 0))) (tOp (rIxA K) (tVar 1) (tC (.int 1)))) (tOp rMulU (tOp (rIxA K) (tVar 1) (tC (.int 0))) (tOp (rIxA K) (tVar 0) (tC (.int 1))))) tNil)))
theorem pure_sign_of_difference (K : PySem.W.Frag) (vs : List V) (H : Hp) (Q : VK) (E : XK) (h : sp_sign_of_difference K vs H Q E) : t_sign_of_difference K { nx := fun _ H' => Q .non H', rt := Q } (start ["one", "other"] vs) H := by
  obtain ⟨v, w, a, b, c, d, rfl, n1, n2, sa, sb, sc, sd, hq⟩ := h
  unfold t_sign_of_difference
  walk_at "z"
  rcases n1 with ⟨_, ⟨p, rfl, hp⟩, b1, _⟩ | ⟨h, _⟩
  rotate_left
  · exact absurd rfl h
  rcases n2 with ⟨_, ⟨q, rfl, hp2⟩, d1, _⟩ | ⟨h, _⟩
  rotate_left
  · exact absurd rfl h
  refine ixT (sqT_of hp) (v := .int a) rfl ?_
  refine ixT (sqT_of hp2) (v := .int d) rfl ?_
  walk_at "z"
  refine ⟨szm sa sd, ixT (sqT_of hp2) (v := .int c) rfl ?_⟩
  refine ixT (sqT_of hp) (v := .int b) rfl ?_
  walk_at "z"
  refine ⟨szm sc sb, _, rfl, ?_⟩
  have e1 : (a * d - c * b = 0) = (a * d = c * b) := propext ⟨fun h => by omega, fun h => by omega⟩
  have e2 : (a * d - c * b < 0) = (a * d < c * b) := propext ⟨fun h => by omega, fun h => by omega⟩
  simp only [e1, e2]
  exact hq
theorem ok_sign_of_difference {P : Program} {w : World} {K : PySem.W.Frag} {mg : Str → Option Value} {base : Heap} (T : Tx K mg) : Okk P w K mg base 2 "sign_of_difference" ["one", "other"] (sp_sign_of_difference K) := by
  obtain ⟨fd_sign_of, F_sign_of, b_sign_of, g_sign_of, k_sign_of⟩ := ok_sign_of (P := P) (w := w) (base := base) T
  obtain ⟨fd, F⟩ := T.f_sign_of_difference
  refine ⟨fd, F.ok sc_sign_of_difference (fun vs H Q E h => len_sign_of_difference h) (fun cdv A outer s H vs Q E hr h => ⟨t_sign_of_difference K, PSs.nox ?_, pure_sign_of_difference K vs H Q E h⟩), F.bindsN (fun _ _ _ _ _ _ us hl => match us, hl with | [_, _], _ => rfl), T.g_sign_of_difference, F.kp⟩
  exact (pss_one (ps_ret (pe_call F_sign_of (hr.mono (by decide)) rfl g_sign_of k_sign_of b_sign_of .nil pass0 (pa_cons (pe_op op_sub (pe_op op_mulU (pe_ix ix_lt (pv 0) pe_int (fun _ _ => rfl)) (pe_ix ix_lt (pv 1) pe_int (fun _ _ => rfl))) (pe_op op_mulU (pe_ix ix_lt (pv 1) pe_int (fun _ _ => rfl)) (pe_ix ix_lt (pv 0) pe_int (fun _ _ => rfl)))) pa_nil))))
/-! ### check_between -/
theorem sc_check_between : FnScope ["number", "low", "high"] ["number", "low", "high"] (defScope s_check_between) := ⟨rfl, rfl, rfl, by decide +kernel, rfl, by decide +kernel, by decide +kernel⟩
def sp_check_between (K : PySem.W.Frag) : Sp := fun vs H Q _ => ∃ n lo hi : Int, vs = [.int n, .int lo, .int hi] ∧ lo ≤ n ∧ n ≤ hi ∧ Q .non H
theorem len_check_between {K : PySem.W.Frag} {vs : List V} {H : Hp} {Q : VK} {E : XK} (h : sp_check_between K vs H Q E) : vs.length = ["number", "low", "high"].length := by
  obtain ⟨_, _, _, rfl, _⟩ := h
  rfl
def t_check_between (K : PySem.W.Frag) : TS := (tIfS (tOr (tNot (tB (tCall (sp_is_int K) [] E0 (tCons (tVar 0) tNil)))) (tOr (tTest (tOp rLtI (tVar 0) (tVar 1))) (tTest (tOp rGtI (tVar 0) (tVar 2))))) tNever tNext)
theorem pure_check_between (K : PySem.W.Frag) (vs : List V) (H : Hp) (Q : VK) (E : XK) (h : sp_check_between K vs H Q E) : t_check_between K { nx := fun _ H' => Q .non H', rt := Q } (start ["number", "low", "high"] vs) H := by
  obtain ⟨n, lo, hi, rfl, h1, h2, hq⟩ := h
  unfold t_check_between
  walk_at "z"
  refine ⟨_, rfl, trivial, ?_⟩
  simp only [isI]
  walk_at "z"
  rw [if_neg (by omega), if_neg (by omega)]
  exact hq
theorem ok_check_between {P : Program} {w : World} {K : PySem.W.Frag} {mg : Str → Option Value} {base : Heap} (T : Tx K mg) : Okk P w K mg base 2 "check_between" ["number", "low", "high"] (sp_check_between K) := by
  obtain ⟨fd_is_int, F_is_int, b_is_int, g_is_int, k_is_int⟩ := ok_is_int (P := P) (w := w) (base := base) T
  obtain ⟨fd, F⟩ := T.f_check_between
  refine ⟨fd, F.ok sc_check_between (fun vs H Q E h => len_check_between h) (fun cdv A outer s H vs Q E hr h => ⟨t_check_between K, PSs.nox ?_, pure_check_between K vs H Q E h⟩), F.bindsN (fun _ _ _ _ _ _ us hl => match us, hl with | [_, _, _], _ => rfl), T.g_check_between, F.kp⟩
  exact (pss_one (ps_if (PW.pt (pw_or (pt_not (pt_val (pe_call F_is_int (hr.mono (by decide)) rfl g_is_int k_is_int b_is_int .nil pass0 (pa_cons (pv 0) pa_nil)))) (pw_or (pt_cmpR op_lt (pv 0) (pv 1) (nomark _)) (pw_or1 (pt_cmpR op_gt (pv 0) (pv 2) (nomark _)))))) pss_never pss_nil))
/-! ### prime_fits -/
theorem sc_prime_fits : FnScope ["value", "most"] ["value", "most"] (defScope s_prime_fits) := ⟨rfl, rfl, rfl, by decide +kernel, rfl, by decide +kernel, by decide +kernel⟩
def sp_prime_fits (K : PySem.W.Frag) : Sp := fun vs H Q _ => ∃ n hi : Int, vs = [.int n, .int hi] ∧ hi < 2 ^ 40 ∧ ∀ b : Bool, (b = true ↔ n ≤ hi ∧ PrimeI n) → Q (.bl b) H
theorem len_prime_fits {K : PySem.W.Frag} {vs : List V} {H : Hp} {Q : VK} {E : XK} (h : sp_prime_fits K vs H Q E) : vs.length = ["value", "most"].length := by
  obtain ⟨_, _, rfl, _⟩ := h
  rfl
def t_prime_fits (K : PySem.W.Frag) : TS := (tRet (tAndV (tCall (sp_is_between K) [] E0 (tCons (tVar 0) (tCons (tC (.int 2)) (tCons (tVar 1) tNil)))) (tCall (sp_has_no_parts K) [] E0 (tCons (tVar 0) tNil))))
theorem pure_prime_fits (K : PySem.W.Frag) (vs : List V) (H : Hp) (Q : VK) (E : XK) (h : sp_prime_fits K vs H Q E) : t_prime_fits K { nx := fun _ H' => Q .non H', rt := Q } (start ["value", "most"] vs) H := by
  obtain ⟨n, hi, rfl, hh, hq⟩ := h
  unfold t_prime_fits
  walk_at "z"
  refine ⟨_, _, _, rfl, trivial, ?_⟩
  unfold betwB
  walk_at "z"
  by_cases h1 : 2 ≤ n ∧ n ≤ hi
  · rw [if_pos h1]
    refine ⟨n, rfl, by omega, fun b hb => hq b (hb.trans ⟨fun h => ⟨h1.2, h⟩, fun h => h.2⟩)⟩
  · rw [if_neg h1]
    exact hq _ ⟨fun h => (by cases h), fun h => absurd ⟨h.2.1, h.1⟩ h1⟩
theorem ok_prime_fits {P : Program} {w : World} {K : PySem.W.Frag} {mg : Str → Option Value} {base : Heap} (T : Tx K mg) : Okk P w K mg base 3 "prime_fits" ["value", "most"] (sp_prime_fits K) := by
  obtain ⟨fd_is_between, F_is_between, b_is_between, g_is_between, k_is_between⟩ := ok_is_between (P := P) (w := w) (base := base) T
  obtain ⟨fd_has_no_parts, F_has_no_parts, b_has_no_parts, g_has_no_parts, k_has_no_parts⟩ := ok_has_no_parts (P := P) (w := w) (base := base) T
  obtain ⟨fd, F⟩ := T.f_prime_fits
  refine ⟨fd, F.ok sc_prime_fits (fun vs H Q E h => len_prime_fits h) (fun cdv A outer s H vs Q E hr h => ⟨t_prime_fits K, PSs.nox ?_, pure_prime_fits K vs H Q E h⟩), F.bindsN (fun _ _ _ _ _ _ us hl => match us, hl with | [_, _], _ => rfl), T.g_prime_fits, F.kp⟩
  exact (pss_one (ps_ret (pe_and (pe_call F_is_between (hr.mono (by decide)) rfl g_is_between k_is_between b_is_between .nil pass0 (pa_cons (pv 0) (pa_cons pe_int (pa_cons (pv 1) pa_nil)))) (pe_one (pe_call F_has_no_parts (hr.mono (by decide)) rfl g_has_no_parts k_has_no_parts b_has_no_parts .nil pass0 (pa_cons (pv 0) pa_nil))))))
/-! ### number_fits -/
theorem sc_number_fits : FnScope ["ground", "value", "limit", "top", "bottom"] ["ground", "value", "limit"] (defScope s_number_fits) := ⟨rfl, rfl, rfl, by decide +kernel, rfl, by decide +kernel, by decide +kernel⟩
def sp_number_fits (K : PySem.W.Frag) : Sp := fun vs H Q _ => ∃ (g : Int) (v : V) (l : Int), vs = [.int g, v, .int l] ∧ Kn2 H v ∧ ∀ b : Bool, (b = true ↔ NumV H g v l) → Q (.bl b) H
theorem len_number_fits {K : PySem.W.Frag} {vs : List V} {H : Hp} {Q : VK} {E : XK} (h : sp_number_fits K vs H Q E) : vs.length = ["ground", "value", "limit"].length := by
  obtain ⟨_, _, _, rfl, _⟩ := h
  rfl
def t_number_fits (K : PySem.W.Frag) : TS := (tSeq (tIfS (tTest (tOp rNe (tVar 0) (tC (.int 0)))) (tRet (tAndV (tCall (sp_is_int K) [] E0 (tCons (tVar 1) tNil)) (tChain rLeI rLtI (tC (.int 0)) (tVar 1) (tVar 0)))) tNext)
  (tSeq (tIfS (tOr (tNot (tB (tCB (rIsi K) (tCons (tVar 1) (tCons (tC (.ty "tuple")) tNil))))) (tTest (tOp rNe (tCB (rLenU K) (tCons (tVar 1) tNil)) (tC (.int 2))))) (tRet (tC (.bl false))) tNext)
  (tSeq (tAsg (tVar 1) (gTup K 2 (gCons (gName 3) (gCons (gName 4) gNil))))
  (tSeq (tIfS (tOr (tNot (tB (tCall (sp_is_below K) [] E0 (tCons (tVar 3) (tCons (tVar 2) tNil))))) (tNot (tB (tCall (sp_is_below K) [] E0 (tCons (tVar 4) (tCons (tVar 2) tNil)))))) (tRet (tC (.bl false))) tNext)
  (tRet (tAndV (tOp rGeI (tVar 4) (tC (.int 1))) (tOp rEq (tCB rGcd (tCons (tVar 3) (tCons (tVar 4) tNil))) (tC (.int 1)))))))))
theorem bfalse {p : Prop} (h : ¬ p) : (false = true ↔ p) := ⟨fun x => (by cases x), fun x => (h x).elim⟩
theorem TupV.inj {H : Hp} {v : V} {xs ys : List V} (a : TupV H v xs) (b : TupV H v ys) : xs = ys := by
  obtain ⟨p, e, h⟩ := a
  obtain ⟨q, e2, h2⟩ := b
  rw [e] at e2
  cases e2
  rw [h] at h2
  cases h2
  rfl
theorem pure_number_fits (K : PySem.W.Frag) (vs : List V) (H : Hp) (Q : VK) (E : XK) (h : sp_number_fits K vs H Q E) : t_number_fits K { nx := fun _ H' => Q .non H', rt := Q } (start ["ground", "value", "limit", "top", "bottom"] vs) H := by
  obtain ⟨g, v, l, rfl, hk, hq⟩ := h
  unfold t_number_fits
  walk_at "z"
  by_cases h0 : g = 0
  · subst h0
    walk_at "z"
    refine isi_kn_tuple hk.1 (fun xs ht => ?_) (fun hn => ?_)
    · walk_at "z"
      have hkx := hk.2 xs ht
      obtain ⟨a, rfl, ha⟩ := ht
      have ht : TupV H (V.ref a) xs := ⟨a, rfl, ha⟩
      refine lenT (sqT_of ha) ?_
      walk_at "z"
      match xs, ha, ht, hkx with
      | [], ha, ht, _ =>
        rw [if_pos (by simp)]
        refine hq false (bfalse fun h => ?_)
        rcases h with ⟨h, _⟩ | ⟨_, t, b, h, _⟩
        · exact h rfl
        · have := ht.inj h; simp at this
      | [x], ha, ht, _ =>
        rw [if_pos (by simp)]
        refine hq false (bfalse fun h => ?_)
        rcases h with ⟨h, _⟩ | ⟨_, t, b, h, _⟩
        · exact h rfl
        · have := ht.inj h; simp at this
      | x :: y :: z :: r, ha, ht, _ =>
        rw [if_pos (by simp only [List.length_cons]; omega)]
        refine hq false (bfalse fun h => ?_)
        rcases h with ⟨h, _⟩ | ⟨_, t, b, h, _⟩
        · exact h rfl
        · have := ht.inj h; simp at this
      | [x, y], ha, ht, hkx =>
        have e2 : ¬ ¬ (([x, y] : List V).length : Int) = 2 := fun c => c rfl
        rw [if_neg e2]
        refine ⟨[x, y], sqT_of ha, rfl, ?_⟩
        walk_at "z"
        refine ⟨x, l, rfl, hkx x (by simp), ?_⟩
        walk_at "z"
        by_cases hx : belowB x l = true
        · rw [hx]
          walk_at "z"
          refine ⟨y, l, rfl, hkx y (by simp), ?_⟩
          walk_at "z"
          by_cases hy : belowB y l = true
          · rw [hy]
            walk_at "z"
            obtain ⟨t, rfl, t1, t2⟩ := belowB_int hx
            obtain ⟨b, rfl, b1, b2⟩ := belowB_int hy
            walk_at "z"
            have iff : NumV H 0 (V.ref a) l ↔ 1 ≤ b ∧ Nat.gcd t.natAbs b.natAbs = 1 := by
              constructor
              · rintro (⟨h, _⟩ | ⟨_, t', b', h, _, _, h1, h2⟩)
                · exact absurd rfl h
                · have := ht.inj h
                  simp at this
                  obtain ⟨rfl, rfl⟩ := this
                  exact ⟨h1, h2⟩
              · rintro ⟨h1, h2⟩
                exact .inr ⟨rfl, t, b, ht, ⟨t1, t2⟩, ⟨b1, b2⟩, h1, h2⟩
            by_cases hb : 1 ≤ b
            · rw [if_pos hb]
              refine hq _ ?_
              rw [iff, decide_eq_true_eq]
              constructor
              · intro h; exact ⟨hb, by omega⟩
              · rintro ⟨_, h⟩; omega
            · rw [if_neg hb]
              exact hq false (bfalse fun h => hb (iff.mp h).1)
          · have hy2 : belowB y l = false := by simpa using hy
            rw [hy2]
            walk_at "z"
            refine hq false (bfalse fun h => ?_)
            rcases h with ⟨h, _⟩ | ⟨_, t, b, h, _, h3, _⟩
            · exact h rfl
            · have := ht.inj h
              simp at this
              rw [this.2] at hy
              exact hy (decide_eq_true h3)
        · have hx2 : belowB x l = false := by simpa using hx
          rw [hx2]
          walk_at "z"
          refine hq false (bfalse fun h => ?_)
          rcases h with ⟨h, _⟩ | ⟨_, t, b, h, h3, _⟩
          · exact h rfl
          · have := ht.inj h
            simp at this
            rw [this.1] at hx
            exact hx (decide_eq_true h3)
    · walk_at "z"
      refine hq false (bfalse fun h => ?_)
      rcases h with ⟨h, _⟩ | ⟨_, t, b, h, _⟩
      · exact h rfl
      · exact hn _ h
  · rw [if_pos h0]
    refine ⟨v, rfl, hk.1, ?_⟩
    walk_at "z"
    cases v with
    | int n =>
      simp only [isI, if_true]
      walk_at "z"
      have iff : NumV H g (V.int n) l ↔ 0 ≤ n ∧ n < g := by
        constructor
        · rintro (⟨_, m, e, h⟩ | ⟨h, _⟩)
          · cases e; exact h
          · exact absurd h h0
        · intro h
          exact .inl ⟨h0, n, rfl, h⟩
      by_cases h1 : 0 ≤ n
      · rw [if_pos h1]
        refine hq _ ?_
        rw [iff, decide_eq_true_eq]
        exact ⟨fun h => ⟨h1, h⟩, fun h => h.2⟩
      · rw [if_neg h1]
        exact hq false (bfalse fun h => h1 (iff.mp h).1)
    | _ =>
      simp only [isI, Bool.false_eq_true, if_false]
      refine hq false (bfalse ?_)
      rintro (⟨_, m, e, _⟩ | ⟨h, _⟩)
      · cases e
      · exact absurd h h0
theorem ok_number_fits {P : Program} {w : World} {K : PySem.W.Frag} {mg : Str → Option Value} {base : Heap} (T : Tx K mg) : Okk P w K mg base 3 "number_fits" ["ground", "value", "limit"] (sp_number_fits K) := by
  obtain ⟨fd_is_int, F_is_int, b_is_int, g_is_int, k_is_int⟩ := ok_is_int (P := P) (w := w) (base := base) T
  obtain ⟨fd_is_below, F_is_below, b_is_below, g_is_below, k_is_below⟩ := ok_is_below (P := P) (w := w) (base := base) T
  have hf_isinstance := T.n_isinstance
  have hf_len := T.n_len
  have hf_tuple := T.n_tuple
  have hb_gcd := T.b_gcd
  obtain ⟨fd, F⟩ := T.f_number_fits
  refine ⟨fd, F.ok sc_number_fits (fun vs H Q E h => len_number_fits h) (fun cdv A outer s H vs Q E hr h => ⟨t_number_fits K, PSs.nox ?_, pure_number_fits K vs H Q E h⟩), F.bindsN (fun _ _ _ _ _ _ us hl => match us, hl with | [_, _, _], _ => rfl), T.g_number_fits, F.kp⟩
  exact (pss_cons (ps_if (pt_cmpR op_ne (pv 0) pe_int (nomark _)) (pss_one (ps_ret (pe_and (pe_call F_is_int (hr.mono (by decide)) rfl g_is_int k_is_int b_is_int .nil pass0 (pa_cons (pv 1) pa_nil)) (pe_one (pe_chain op_le op_lt pe_int (pv 1) (pv 0)))))) pss_nil)
      (pss_cons (ps_if (PW.pt (pw_or (pt_not (pt_val (pe_callB call_isi (by rfl) hf_isinstance (by decide +kernel) (pa_cons (pv 1) (pa_cons (pe_bltn (v := .ty "tuple") rfl hf_tuple (by decide +kernel) rfl) pa_nil))))) (pw_or1 (pt_cmpR op_ne (pe_callB call_len_seq (by rfl) hf_len (by decide +kernel) (pa_cons (pv 1) pa_nil)) pe_int (nomark _))))) (pss_one (ps_ret pe_bl)) pss_nil)
      (pss_cons (ps_asg (pv 1) (pg_tup rfl (pgs_cons (pg_name (i := 3) sc_number_fits.nd rfl (by first | exact Or.inl rfl | exact Or.inr rfl)) (pgs_cons (pg_name (i := 4) sc_number_fits.nd rfl (by first | exact Or.inl rfl | exact Or.inr rfl)) pgs_nil))))
      (pss_cons (ps_if (PW.pt (pw_or (pt_not (pt_val (pe_call F_is_below (hr.mono (by decide)) rfl g_is_below k_is_below b_is_below .nil pass0 (pa_cons (pv 3) (pa_cons (pv 2) pa_nil))))) (pw_or1 (pt_not (pt_val (pe_call F_is_below (hr.mono (by decide)) rfl g_is_below k_is_below b_is_below .nil pass0 (pa_cons (pv 4) (pa_cons (pv 2) pa_nil)))))))) (pss_one (ps_ret pe_bl)) pss_nil)
      (pss_one (ps_ret (pe_and (pe_cmpR op_ge (pv 4) pe_int (nomark _)) (pe_one (pe_cmpR op_eq (pe_callBfun cr_gcd rfl hb_gcd (pa_cons (pv 3) (pa_cons (pv 4) pa_nil))) pe_int (nomark _))))))))))
/-! ### quotient -/
theorem sc_quotient : FnScope ["ground", "top", "bottom", "common"] ["ground", "top", "bottom"] (defScope s_quotient) := ⟨rfl, rfl, rfl, by decide +kernel, rfl, by decide +kernel, by decide +kernel⟩
/-- x over y is t over b in lowest terms -/
def Frac (t b x y : Int) : Prop := 1 ≤ y ∧ Nat.gcd x.natAbs y.natAbs = 1 ∧ x * b = t * y
def sp_quotient (K : PySem.W.Frag) : Sp := fun vs H Q _ => ∃ g t b : Int, vs = [.int g, .int t, .int b] ∧ 0 ≤ g ∧
  (g = 0 → b ≠ 0 ∧ Sz 8000 b ∧ ∀ p x y H', Same H H' → Frac t b x y → x.natAbs ≤ t.natAbs → y.natAbs ≤ b.natAbs → H' p = some (.tup [.int x, .int y]) → Q (.ref p) H') ∧
  (g ≠ 0 → Sz 1000 g ∧ Sz 8000 t ∧ ∀ w u H', Same H H' → w = t * u % g → (b * u) % g = ((Nat.gcd (b % g).natAbs g.natAbs : Nat) : Int) % g → Q (.int w) H')
theorem len_quotient {K : PySem.W.Frag} {vs : List V} {H : Hp} {Q : VK} {E : XK} (h : sp_quotient K vs H Q E) : vs.length = ["ground", "top", "bottom"].length := by
  obtain ⟨_, _, _, rfl, _⟩ := h
  rfl
def t_quotient (K : PySem.W.Frag) : TS := (tSeq (tIfS (tTest (tOp rNe (tVar 0) (tC (.int 0)))) (tRet (tOp rModU (tOp rMulU (tVar 1) (tCall (sp_undone_modulo K) [] E0 (tCons (tVar 2) (tCons (tVar 0) tNil)))) (tVar 0))) tNext)
  (tSeq (tAsg (tCB rGcd (tCons (tVar 1) (tCons (tVar 2) tNil))) (gName 3))
  (tSeq (tIfS (tTest (tOp rLtI (tVar 2) (tC (.int 0)))) (tAsg (tUn rNeg (tVar 3)) (gName 3)) tNext)
  (tRet (tTup (tCons (tOp rDivZ (tVar 1) (tVar 3)) (tCons (tOp rDivZ (tVar 2) (tVar 3)) tNil)))))))
theorem frac_of {t b c : Int} (hc : c = ((Nat.gcd t.natAbs b.natAbs : Nat) : Int) ∧ 0 < b ∨ c = -((Nat.gcd t.natAbs b.natAbs : Nat) : Int) ∧ b < 0) : Frac t b (t.fdiv c) (b.fdiv c) ∧ (t.fdiv c).natAbs ≤ t.natAbs ∧ (b.fdiv c).natAbs ≤ b.natAbs ∧ c ≠ 0 ∧ c.natAbs ≤ b.natAbs := by
  have hb : b ≠ 0 := by rcases hc with ⟨_, h⟩ | ⟨_, h⟩ <;> omega
  have hg : 0 < Nat.gcd t.natAbs b.natAbs := Nat.gcd_pos_of_pos_right _ (by omega)
  have hca : c.natAbs = Nat.gcd t.natAbs b.natAbs := by rcases hc with ⟨h, _⟩ | ⟨h, _⟩ <;> omega
  have hc0 : c ≠ 0 := by omega
  have d1 : c ∣ t := Int.natAbs_dvd_natAbs.mp (by rw [hca]; exact Nat.gcd_dvd_left _ _)
  have d2 : c ∣ b := Int.natAbs_dvd_natAbs.mp (by rw [hca]; exact Nat.gcd_dvd_right _ _)
  rw [Int.fdiv_eq_ediv_of_dvd d1, Int.fdiv_eq_ediv_of_dvd d2]
  obtain ⟨x, rfl⟩ := d1
  obtain ⟨y, rfl⟩ := d2
  rw [Int.mul_ediv_cancel_left _ hc0, Int.mul_ediv_cancel_left _ hc0]
  have h1 : 1 ≤ c.natAbs := by omega
  refine ⟨⟨?_, ?_, by rw [Int.mul_left_comm, Int.mul_assoc]⟩, ?_, ?_, hc0, ?_⟩
  · have hy : y ≠ 0 := fun z => by rw [z] at hb; simp at hb
    refine Classical.byContradiction fun hn => ?_
    have hy2 : y < 0 := by omega
    rcases hc with ⟨h, h2⟩ | ⟨h, h2⟩
    · have := Int.mul_neg_of_pos_of_neg (show 0 < c by omega) hy2
      omega
    · have := Int.mul_pos_of_neg_of_neg (show c < 0 by omega) hy2
      omega
  · rw [Int.natAbs_mul, Int.natAbs_mul, Nat.gcd_mul_left] at hca
    have : c.natAbs * Nat.gcd x.natAbs y.natAbs = c.natAbs * 1 := by rw [← hca, Nat.mul_one]
    exact Nat.eq_of_mul_eq_mul_left (by omega) this
  · rw [Int.natAbs_mul]; exact Nat.le_mul_of_pos_left _ (by omega)
  · rw [Int.natAbs_mul]; exact Nat.le_mul_of_pos_left _ (by omega)
  · rw [Int.natAbs_mul]
    exact Nat.le_mul_of_pos_right _ (by
      have : y ≠ 0 := fun z => by rw [z] at hb; simp at hb
      omega)
theorem pure_quotient (K : PySem.W.Frag) (vs : List V) (H : Hp) (Q : VK) (E : XK) (h : sp_quotient K vs H Q E) : t_quotient K { nx := fun _ H' => Q .non H', rt := Q } (start ["ground", "top", "bottom", "common"] vs) H := by
  obtain ⟨g, t, b, rfl, hg, hq1, hq2⟩ := h
  unfold t_quotient
  walk_at "z"
  by_cases h0 : g = 0
  · subst h0
    obtain ⟨hb, sb, hq⟩ := hq1 rfl
    walk_at "z"
    have key : ∀ c : Int, (c = ((Nat.gcd t.natAbs b.natAbs : Nat) : Int) ∧ 0 < b ∨ c = -((Nat.gcd t.natAbs b.natAbs : Nat) : Int) ∧ b < 0) →
        CDivZ t c ∧ CDivZ b c ∧ 2 ≤ sizeLine ∧ ∀ p, H p = none → Q (.ref p) (upd H p (.tup [.int (t.fdiv c), .int (b.fdiv c)])) := fun c hc => by
      obtain ⟨f, e1, e2, e3, e4⟩ := frac_of hc
      have lc : c.natAbs.log2 < 9000 := Nat.lt_of_lt_of_le (PySem.Flt.log2_lt_of (k := 8000) (by decide) (sz_le sb e4)) (by decide)
      exact ⟨⟨e3, lc⟩, ⟨e3, lc⟩, by decide, fun p hp => hq p _ _ _ (same_upd hp) f e1 e2 upd_same⟩
    by_cases h0 : b < 0
    · rw [if_pos h0]
      exact key _ (.inr ⟨rfl, h0⟩)
    · rw [if_neg h0]
      exact key _ (.inl ⟨rfl, by omega⟩)
  · rw [if_pos h0]
    obtain ⟨sg, st, hq⟩ := hq2 h0
    refine ⟨b, g, rfl, by omega, Nat.lt_of_lt_of_le sg (Nat.pow_le_pow_right (by decide) (by decide)), fun u H' s u0 u1 e => ?_⟩
    walk_at "z"
    refine ⟨mulW (a := 8000) (b := 1000) st (sz_le sg (by omega)) (by decide) (by decide) (by decide), by omega, ?_⟩
    exact hq _ u _ s rfl e
theorem ok_quotient {P : Program} {w : World} {K : PySem.W.Frag} {mg : Str → Option Value} {base : Heap} (T : Tx K mg) : Okk P w K mg base 3 "quotient" ["ground", "top", "bottom"] (sp_quotient K) := by
  obtain ⟨fd_undone_modulo, F_undone_modulo, b_undone_modulo, g_undone_modulo, k_undone_modulo⟩ := ok_undone_modulo (P := P) (w := w) (base := base) T
  have hb_gcd := T.b_gcd
  obtain ⟨fd, F⟩ := T.f_quotient
  refine ⟨fd, F.ok sc_quotient (fun vs H Q E h => len_quotient h) (fun cdv A outer s H vs Q E hr h => ⟨t_quotient K, PSs.nox ?_, pure_quotient K vs H Q E h⟩), F.bindsN (fun _ _ _ _ _ _ us hl => match us, hl with | [_, _, _], _ => rfl), T.g_quotient, F.kp⟩
  exact (pss_cons (ps_if (pt_cmpR op_ne (pv 0) pe_int (nomark _)) (pss_one (ps_ret (pe_op op_mod (pe_op op_mulU (pv 1) (pe_call F_undone_modulo (hr.mono (by decide)) rfl g_undone_modulo k_undone_modulo b_undone_modulo .nil pass0 (pa_cons (pv 2) (pa_cons (pv 0) pa_nil)))) (pv 0)))) pss_nil)
      (pss_cons (ps_set (i := 3) sc_quotient.nd rfl (by first | exact Or.inl rfl | exact Or.inr rfl) (pe_callBfun cr_gcd rfl hb_gcd (pa_cons (pv 1) (pa_cons (pv 2) pa_nil))))
      (pss_cons (ps_if (pt_cmpR op_lt (pv 2) pe_int (nomark _)) (pss_one (ps_set (i := 3) sc_quotient.nd rfl (by first | exact Or.inl rfl | exact Or.inr rfl) (pe_un un_neg (pv 3)))) pss_nil)
      (pss_one (ps_ret (pe_tup (pa_cons (pe_op op_fdivZ (pv 1) (pv 3)) (pa_cons (pe_op op_fdivZ (pv 2) (pv 3)) pa_nil))))))))
/-! ### check_integer -/
theorem sc_check_integer : FnScope ["number"] ["number"] (defScope s_check_integer) := ⟨rfl, rfl, rfl, by decide +kernel, rfl, by decide +kernel, by decide +kernel⟩
def sp_check_integer (K : PySem.W.Frag) : Sp := fun vs H Q _ => ∃ n : Int, vs = [.int n] ∧ -(10 ^ 60) < n ∧ n < 10 ^ 60 ∧ Q .non H
theorem len_check_integer {K : PySem.W.Frag} {vs : List V} {H : Hp} {Q : VK} {E : XK} (h : sp_check_integer K vs H Q E) : vs.length = ["number"].length := by
  obtain ⟨_, rfl, _⟩ := h
  rfl
def t_check_integer (K : PySem.W.Frag) : TS := (tIfS (tNot (tB (tCall (sp_is_below K) [] E0 (tCons (tVar 0) (tCons (tC (.int 1000000000000000000000000000000000000000000000000000000000000)) tNil))))) tNever tNext)
theorem pure_check_integer (K : PySem.W.Frag) (vs : List V) (H : Hp) (Q : VK) (E : XK) (h : sp_check_integer K vs H Q E) : t_check_integer K { nx := fun _ H' => Q .non H', rt := Q } (start ["number"] vs) H := by
  obtain ⟨n, rfl, h1, h2, hq⟩ := h
  unfold t_check_integer
  walk_at "z"
  refine ⟨_, _, rfl, trivial, ?_⟩
  have e : belowB (V.int n) 1000000000000000000000000000000000000000000000000000000000000 = true := decide_eq_true ⟨by omega, by omega⟩
  rw [e]
  walk_at "z"
  exact hq
theorem ok_check_integer {P : Program} {w : World} {K : PySem.W.Frag} {mg : Str → Option Value} {base : Heap} (T : Tx K mg) : Okk P w K mg base 3 "check_integer" ["number"] (sp_check_integer K) := by
  obtain ⟨fd_is_below, F_is_below, b_is_below, g_is_below, k_is_below⟩ := ok_is_below (P := P) (w := w) (base := base) T
  obtain ⟨_, hc_SIXTY_DIGITS⟩ := T.c_SIXTY_DIGITS
  obtain ⟨fd, F⟩ := T.f_check_integer
  refine ⟨fd, F.ok sc_check_integer (fun vs H Q E h => len_check_integer h) (fun cdv A outer s H vs Q E hr h => ⟨t_check_integer K, PSs.nox ?_, pure_check_integer K vs H Q E h⟩), F.bindsN (fun _ _ _ _ _ _ us hl => match us, hl with | [_], _ => rfl), T.g_check_integer, F.kp⟩
  exact (pss_one (ps_if (pt_not (pt_val (pe_call F_is_below (hr.mono (by decide)) rfl g_is_below k_is_below b_is_below .nil pass0 (pa_cons (pv 0) (pa_cons (pe_glob rfl hc_SIXTY_DIGITS ⟨_, rfl⟩) pa_nil))))) pss_never pss_nil))
/-! ### ground_fits -/
theorem sc_ground_fits : FnScope ["value"] ["value"] (defScope s_ground_fits) := ⟨rfl, rfl, rfl, by decide +kernel, rfl, by decide +kernel, by decide +kernel⟩
def sp_ground_fits (K : PySem.W.Frag) : Sp := fun vs H Q _ => ∃ v : V, vs = [v] ∧ Kn H v ∧ ∀ b : Bool, (b = true ↔ GroundV v) → Q (.bl b) H
theorem len_ground_fits {K : PySem.W.Frag} {vs : List V} {H : Hp} {Q : VK} {E : XK} (h : sp_ground_fits K vs H Q E) : vs.length = ["value"].length := by
  obtain ⟨_, rfl, _⟩ := h
  rfl
def t_ground_fits (K : PySem.W.Frag) : TS := (tRet (tAndV (tCall (sp_is_int K) [] E0 (tCons (tVar 0) tNil)) (tOrV (tOp rEq (tVar 0) (tC (.int 0))) (tCall (sp_prime_fits K) [] E0 (tCons (tVar 0) (tCons (tC (.int 9999)) tNil))))))
theorem pure_ground_fits (K : PySem.W.Frag) (vs : List V) (H : Hp) (Q : VK) (E : XK) (h : sp_ground_fits K vs H Q E) : t_ground_fits K { nx := fun _ H' => Q .non H', rt := Q } (start ["value"] vs) H := by
  obtain ⟨v, rfl, hk, hq⟩ := h
  unfold t_ground_fits
  walk_at "z"
  refine ⟨v, rfl, hk, ?_⟩
  walk_at "z"
  cases v with
  | int n =>
    simp only [isI]
    walk_at "z"
    by_cases h3 : n = 0
    · rw [if_pos h3]
      exact hq _ ⟨fun _ => ⟨n, rfl, by omega, by omega, .inl h3⟩, fun _ => rfl⟩
    · rw [if_neg h3]
      refine ⟨n, _, rfl, by omega, fun b hb => hq b (hb.trans ⟨fun h => ⟨n, rfl, by have := h.2.1; omega, h.1, .inr h.2⟩, fun ⟨m, e, _, h4, h⟩ => ?_⟩)⟩
      cases e
      exact ⟨h4, h.resolve_left h3⟩
  | _ =>
    simp only [isI]
    walk_at "z"
    refine hq false ⟨fun h => (by cases h), fun ⟨m, e, _⟩ => (by cases e)⟩
theorem ok_ground_fits {P : Program} {w : World} {K : PySem.W.Frag} {mg : Str → Option Value} {base : Heap} (T : Tx K mg) : Okk P w K mg base 4 "ground_fits" ["value"] (sp_ground_fits K) := by
  obtain ⟨fd_is_int, F_is_int, b_is_int, g_is_int, k_is_int⟩ := ok_is_int (P := P) (w := w) (base := base) T
  obtain ⟨fd_prime_fits, F_prime_fits, b_prime_fits, g_prime_fits, k_prime_fits⟩ := ok_prime_fits (P := P) (w := w) (base := base) T
  obtain ⟨_, hc_LAST_GROUND⟩ := T.c_LAST_GROUND
  obtain ⟨fd, F⟩ := T.f_ground_fits
  refine ⟨fd, F.ok sc_ground_fits (fun vs H Q E h => len_ground_fits h) (fun cdv A outer s H vs Q E hr h => ⟨t_ground_fits K, PSs.nox ?_, pure_ground_fits K vs H Q E h⟩), F.bindsN (fun _ _ _ _ _ _ us hl => match us, hl with | [_], _ => rfl), T.g_ground_fits, F.kp⟩
  exact (pss_one (ps_ret (pe_and (pe_call F_is_int (hr.mono (by decide)) rfl g_is_int k_is_int b_is_int .nil pass0 (pa_cons (pv 0) pa_nil)) (pe_one (pe_or (pe_cmpR op_eq (pv 0) pe_int (nomark _)) (pe_one (pe_call F_prime_fits (hr.mono (by decide)) rfl g_prime_fits k_prime_fits b_prime_fits .nil pass0 (pa_cons (pv 0) (pa_cons (pe_glob rfl hc_LAST_GROUND ⟨_, rfl⟩) pa_nil)))))))))
/-! ### times -/
theorem sc_times : FnScope ["ground", "one", "other"] ["ground", "one", "other"] (defScope s_times) := ⟨rfl, rfl, rfl, by decide +kernel, rfl, by decide +kernel, by decide +kernel⟩
def sp_times (K : PySem.W.Frag) : Sp := fun vs H Q _ => ∃ (g : Int) (v w : V) (a b c d : Int), vs = [.int g, v, w] ∧ 0 ≤ g ∧ NumR H g v a b ∧ NumR H g w c d ∧ Sz 3000 a ∧ Sz 3000 b ∧ Sz 3000 c ∧ Sz 3000 d ∧
  ∀ z x y H', Same H H' → NumR H' g z x y → (g = 0 → x * (b * d) = (a * c) * y ∧ x.natAbs ≤ (a * c).natAbs ∧ y.natAbs ≤ (b * d).natAbs) → (g ≠ 0 → x = (a * c) % g) → Q z H'
theorem len_times {K : PySem.W.Frag} {vs : List V} {H : Hp} {Q : VK} {E : XK} (h : sp_times K vs H Q E) : vs.length = ["ground", "one", "other"].length := by
  obtain ⟨_, _, _, _, _, _, _, rfl, _⟩ := h
  rfl
def t_times (K : PySem.W.Frag) : TS := (tSeq (tIfS (tTest (tOp rNe (tVar 0) (tC (.int 0)))) (tRet (tOp rModU (tOp rMulU (tVar 1) (tVar 2)) (tVar 0))) tNext)
  (tRet (tCall (sp_quotient K) [] E0 (tCons (tC (.int 0)) (tCons (tOp rMulU (tOp (rIxA K) (tVar 1) (tC (.int 0))) (tOp (rIxA K) (tVar 2) (tC (.int 0)))) (tCons (tOp rMulU (tOp (rIxA K) (tVar 1) (tC (.int 1))) (tOp (rIxA K) (tVar 2) (tC (.int 1)))) tNil))))))
theorem pure_times (K : PySem.W.Frag) (vs : List V) (H : Hp) (Q : VK) (E : XK) (h : sp_times K vs H Q E) : t_times K { nx := fun _ H' => Q .non H', rt := Q } (start ["ground", "one", "other"] vs) H := by
  obtain ⟨g, v, w, a, b, c, d, rfl, hg, n1, n2, sa, sb, sc, sd, hq⟩ := h
  unfold t_times
  walk_at "z"
  rcases n1 with ⟨rfl, ⟨p, rfl, hp⟩, b1, _⟩ | ⟨hg0, rfl, rfl, a0, a1⟩
  · rcases n2 with ⟨_, ⟨q, rfl, hp2⟩, d1, _⟩ | ⟨h, _⟩
    · walk_at "z"
      refine ixT (sqT_of hp) (v := .int a) rfl ?_
      refine ixT (sqT_of hp2) (v := .int c) rfl ?_
      walk_at "z"
      refine ⟨szm sa sc, ixT (sqT_of hp) (v := .int b) rfl ?_⟩
      refine ixT (sqT_of hp2) (v := .int d) rfl ?_
      walk_at "z"
      have hbd : 1 ≤ b * d := Int.mul_pos (by omega) (by omega)
      refine ⟨szm sb sd, 0, _, _, rfl, by decide, fun _ => ⟨by omega, sz_mono (sz_mul sb sd) (by decide), fun p x y H' s f f1 f2 hp => ?_⟩, fun h => absurd rfl h⟩
      exact hq _ x y H' s (.inl ⟨rfl, ⟨p, rfl, hp⟩, f.1, f.2.1⟩) (fun _ => ⟨f.2.2, f1, f2⟩) (fun h => absurd rfl h)
    · exact absurd rfl h
  · rcases n2 with ⟨h, _⟩ | ⟨_, rfl, rfl, c0, c1⟩
    · exact absurd h hg0
    · rw [if_pos hg0]
      walk_at "z"
      refine ⟨szm sa sc, by omega, hq _ _ 1 H (Same.refl H) (.inr ⟨hg0, rfl, rfl, Int.emod_nonneg _ hg0, Int.emod_lt_of_pos _ (by omega)⟩) (fun h => absurd h hg0) (fun _ => rfl)⟩
theorem ok_times {P : Program} {w : World} {K : PySem.W.Frag} {mg : Str → Option Value} {base : Heap} (T : Tx K mg) : Okk P w K mg base 4 "times" ["ground", "one", "other"] (sp_times K) := by
  obtain ⟨fd_quotient, F_quotient, b_quotient, g_quotient, k_quotient⟩ := ok_quotient (P := P) (w := w) (base := base) T
  obtain ⟨fd, F⟩ := T.f_times
  refine ⟨fd, F.ok sc_times (fun vs H Q E h => len_times h) (fun cdv A outer s H vs Q E hr h => ⟨t_times K, PSs.nox ?_, pure_times K vs H Q E h⟩), F.bindsN (fun _ _ _ _ _ _ us hl => match us, hl with | [_, _, _], _ => rfl), T.g_times, F.kp⟩
  exact (pss_cons (ps_if (pt_cmpR op_ne (pv 0) pe_int (nomark _)) (pss_one (ps_ret (pe_op op_mod (pe_op op_mulU (pv 1) (pv 2)) (pv 0)))) pss_nil)
      (pss_one (ps_ret (pe_call F_quotient (hr.mono (by decide)) rfl g_quotient k_quotient b_quotient .nil pass0 (pa_cons pe_int (pa_cons (pe_op op_mulU (pe_ix ix_lt (pv 1) pe_int (fun _ _ => rfl)) (pe_ix ix_lt (pv 2) pe_int (fun _ _ => rfl))) (pa_cons (pe_op op_mulU (pe_ix ix_lt (pv 1) pe_int (fun _ _ => rfl)) (pe_ix ix_lt (pv 2) pe_int (fun _ _ => rfl))) pa_nil)))))))
/-! ### check_number -/
theorem sc_check_number : FnScope ["ground", "number"] ["ground", "number"] (defScope s_check_number) := ⟨rfl, rfl, rfl, by decide +kernel, rfl, by decide +kernel, by decide +kernel⟩
def sp_check_number (K : PySem.W.Frag) : Sp := fun vs H Q _ => ∃ (g : Int) (v : V), vs = [.int g, v] ∧ Kn2 H v ∧ NumV H g v (10 ^ 60) ∧ Q .non H
theorem len_check_number {K : PySem.W.Frag} {vs : List V} {H : Hp} {Q : VK} {E : XK} (h : sp_check_number K vs H Q E) : vs.length = ["ground", "number"].length := by
  obtain ⟨_, _, rfl, _⟩ := h
  rfl
def t_check_number (K : PySem.W.Frag) : TS := (tIfS (tNot (tB (tCall (sp_number_fits K) [] E0 (tCons (tVar 0) (tCons (tVar 1) (tCons (tC (.int 1000000000000000000000000000000000000000000000000000000000000)) tNil)))))) tNever tNext)
theorem pure_check_number (K : PySem.W.Frag) (vs : List V) (H : Hp) (Q : VK) (E : XK) (h : sp_check_number K vs H Q E) : t_check_number K { nx := fun _ H' => Q .non H', rt := Q } (start ["ground", "number"] vs) H := by
  obtain ⟨g, v, rfl, hk, hn, hq⟩ := h
  unfold t_check_number
  walk_at "z"
  refine ⟨g, v, _, rfl, hk, fun b hb => ?_⟩
  rw [hb.mpr hn]
  walk_at "z"
  exact hq
theorem ok_check_number {P : Program} {w : World} {K : PySem.W.Frag} {mg : Str → Option Value} {base : Heap} (T : Tx K mg) : Okk P w K mg base 4 "check_number" ["ground", "number"] (sp_check_number K) := by
  obtain ⟨fd_number_fits, F_number_fits, b_number_fits, g_number_fits, k_number_fits⟩ := ok_number_fits (P := P) (w := w) (base := base) T
  obtain ⟨_, hc_SIXTY_DIGITS⟩ := T.c_SIXTY_DIGITS
  obtain ⟨fd, F⟩ := T.f_check_number
  refine ⟨fd, F.ok sc_check_number (fun vs H Q E h => len_check_number h) (fun cdv A outer s H vs Q E hr h => ⟨t_check_number K, PSs.nox ?_, pure_check_number K vs H Q E h⟩), F.bindsN (fun _ _ _ _ _ _ us hl => match us, hl with | [_, _], _ => rfl), T.g_check_number, F.kp⟩
  exact (pss_one (ps_if (pt_not (pt_val (pe_call F_number_fits (hr.mono (by decide)) rfl g_number_fits k_number_fits b_number_fits .nil pass0 (pa_cons (pv 0) (pa_cons (pv 1) (pa_cons (pe_glob rfl hc_SIXTY_DIGITS ⟨_, rfl⟩) pa_nil)))))) pss_never pss_nil))
/-! ### plus -/
theorem sc_plus : FnScope ["ground", "one", "other"] ["ground", "one", "other"] (defScope s_plus) := ⟨rfl, rfl, rfl, by decide +kernel, rfl, by decide +kernel, by decide +kernel⟩
def sp_plus (K : PySem.W.Frag) : Sp := fun vs H Q _ => ∃ (g : Int) (v w : V) (a b c d : Int), vs = [.int g, v, w] ∧ 0 ≤ g ∧ NumR H g v a b ∧ NumR H g w c d ∧ Sz 3000 a ∧ Sz 3000 b ∧ Sz 3000 c ∧ Sz 3000 d ∧
  ∀ z x y H', Same H H' → NumR H' g z x y → (g = 0 → x * (b * d) = (a * d + c * b) * y ∧ x.natAbs ≤ (a * d + c * b).natAbs ∧ y.natAbs ≤ (b * d).natAbs) → (g ≠ 0 → x = (a + c) % g) → Q z H'
theorem len_plus {K : PySem.W.Frag} {vs : List V} {H : Hp} {Q : VK} {E : XK} (h : sp_plus K vs H Q E) : vs.length = ["ground", "one", "other"].length := by
  obtain ⟨_, _, _, _, _, _, _, rfl, _⟩ := h
  rfl
def t_plus (K : PySem.W.Frag) : TS := (tSeq (tIfS (tTest (tOp rNe (tVar 0) (tC (.int 0)))) (tRet (tOp rModU (tOp rAdd (tVar 1) (tVar 2)) (tVar 0))) tNext)
  (tRet (tCall (sp_quotient K) [] E0 (tCons (tC (.int 0)) (tCons (tOp rAdd (tOp rMulU (tOp (rIxA K) (tVar 1) (tC (.int 0))) (tOp (rIxA K) (tVar 2) (tC (.int 1)))) (tOp rMulU (tOp (rIxA K) (tVar 2) (tC (.int 0))) (tOp (rIxA K) (tVar 1) (tC (.int 1))))) (tCons (tOp rMulU (tOp (rIxA K) (tVar 1) (tC (.int 1))) (tOp (rIxA K) (tVar 2) (tC (.int 1)))) tNil))))))
theorem pure_plus (K : PySem.W.Frag) (vs : List V) (H : Hp) (Q : VK) (E : XK) (h : sp_plus K vs H Q E) : t_plus K { nx := fun _ H' => Q .non H', rt := Q } (start ["ground", "one", "other"] vs) H := by
  obtain ⟨g, v, w, a, b, c, d, rfl, hg, n1, n2, sa, sb, sc, sd, hq⟩ := h
  unfold t_plus
  walk_at "z"
  rcases n1 with ⟨rfl, ⟨p, rfl, hp⟩, b1, _⟩ | ⟨hg0, rfl, rfl, a0, a1⟩
  · rcases n2 with ⟨_, ⟨q, rfl, hp2⟩, d1, _⟩ | ⟨h, _⟩
    · walk_at "z"
      refine ixT (sqT_of hp) (v := .int a) rfl ?_
      refine ixT (sqT_of hp2) (v := .int d) rfl ?_
      walk_at "z"
      refine ⟨szm sa sd, ixT (sqT_of hp2) (v := .int c) rfl ?_⟩
      refine ixT (sqT_of hp) (v := .int b) rfl ?_
      walk_at "z"
      refine ⟨szm sc sb, ixT (sqT_of hp) (v := .int b) rfl ?_⟩
      refine ixT (sqT_of hp2) (v := .int d) rfl ?_
      walk_at "z"
      have hbd : 1 ≤ b * d := Int.mul_pos (by omega) (by omega)
      refine ⟨szm sb sd, 0, _, _, rfl, by decide, fun _ => ⟨by omega, sz_mono (sz_mul sb sd) (by decide), fun p x y H' s f f1 f2 hp => ?_⟩, fun h => absurd rfl h⟩
      exact hq _ x y H' s (.inl ⟨rfl, ⟨p, rfl, hp⟩, f.1, f.2.1⟩) (fun _ => ⟨f.2.2, f1, f2⟩) (fun h => absurd rfl h)
    · exact absurd rfl h
  · rcases n2 with ⟨h, _⟩ | ⟨_, rfl, rfl, c0, c1⟩
    · exact absurd h hg0
    · rw [if_pos hg0]
      walk_at "z"
      refine ⟨by omega, hq _ _ 1 H (Same.refl H) (.inr ⟨hg0, rfl, rfl, Int.emod_nonneg _ hg0, Int.emod_lt_of_pos _ (by omega)⟩) (fun h => absurd h hg0) (fun _ => rfl)⟩
theorem ok_plus {P : Program} {w : World} {K : PySem.W.Frag} {mg : Str → Option Value} {base : Heap} (T : Tx K mg) : Okk P w K mg base 4 "plus" ["ground", "one", "other"] (sp_plus K) := by
  obtain ⟨fd_quotient, F_quotient, b_quotient, g_quotient, k_quotient⟩ := ok_quotient (P := P) (w := w) (base := base) T
  obtain ⟨fd, F⟩ := T.f_plus
  refine ⟨fd, F.ok sc_plus (fun vs H Q E h => len_plus h) (fun cdv A outer s H vs Q E hr h => ⟨t_plus K, PSs.nox ?_, pure_plus K vs H Q E h⟩), F.bindsN (fun _ _ _ _ _ _ us hl => match us, hl with | [_, _, _], _ => rfl), T.g_plus, F.kp⟩
  exact (pss_cons (ps_if (pt_cmpR op_ne (pv 0) pe_int (nomark _)) (pss_one (ps_ret (pe_op op_mod (pe_op op_add (pv 1) (pv 2)) (pv 0)))) pss_nil)
      (pss_one (ps_ret (pe_call F_quotient (hr.mono (by decide)) rfl g_quotient k_quotient b_quotient .nil pass0 (pa_cons pe_int (pa_cons (pe_op op_add (pe_op op_mulU (pe_ix ix_lt (pv 1) pe_int (fun _ _ => rfl)) (pe_ix ix_lt (pv 2) pe_int (fun _ _ => rfl))) (pe_op op_mulU (pe_ix ix_lt (pv 2) pe_int (fun _ _ => rfl)) (pe_ix ix_lt (pv 1) pe_int (fun _ _ => rfl)))) (pa_cons (pe_op op_mulU (pe_ix ix_lt (pv 1) pe_int (fun _ _ => rfl)) (pe_ix ix_lt (pv 2) pe_int (fun _ _ => rfl))) pa_nil)))))))
/-! ### over -/
theorem sc_over : FnScope ["ground", "one", "other"] ["ground", "one", "other"] (defScope s_over) := ⟨rfl, rfl, rfl, by decide +kernel, rfl, by decide +kernel, by decide +kernel⟩
def sp_over (K : PySem.W.Frag) : Sp := fun vs H Q _ => ∃ (g : Int) (v w : V) (a b c d : Int), vs = [.int g, v, w] ∧ 0 ≤ g ∧ NumR H g v a b ∧ NumR H g w c d ∧ c ≠ 0 ∧ Sz 1000 g ∧ Sz 3000 a ∧ Sz 3000 b ∧ Sz 3000 c ∧ Sz 3000 d ∧ (g ≠ 0 → Nat.gcd c.natAbs g.natAbs = 1) ∧
  ∀ z x y H', Same H H' → NumR H' g z x y → (g = 0 → x * (b * c) = (a * d) * y ∧ x.natAbs ≤ (a * d).natAbs ∧ y.natAbs ≤ (b * c).natAbs) → (g ≠ 0 → (x * c) % g = a) → Q z H'
theorem len_over {K : PySem.W.Frag} {vs : List V} {H : Hp} {Q : VK} {E : XK} (h : sp_over K vs H Q E) : vs.length = ["ground", "one", "other"].length := by
  obtain ⟨_, _, _, _, _, _, _, rfl, _⟩ := h
  rfl
def t_over (K : PySem.W.Frag) : TS := (tSeq (tIfS (tTest (tOp rNe (tVar 0) (tC (.int 0)))) (tRet (tCall (sp_quotient K) [] E0 (tCons (tVar 0) (tCons (tVar 1) (tCons (tVar 2) tNil))))) tNext)
  (tRet (tCall (sp_quotient K) [] E0 (tCons (tC (.int 0)) (tCons (tOp rMulU (tOp (rIxA K) (tVar 1) (tC (.int 0))) (tOp (rIxA K) (tVar 2) (tC (.int 1)))) (tCons (tOp rMulU (tOp (rIxA K) (tVar 1) (tC (.int 1))) (tOp (rIxA K) (tVar 2) (tC (.int 0)))) tNil))))))
theorem pure_over (K : PySem.W.Frag) (vs : List V) (H : Hp) (Q : VK) (E : XK) (h : sp_over K vs H Q E) : t_over K { nx := fun _ H' => Q .non H', rt := Q } (start ["ground", "one", "other"] vs) H := by
  obtain ⟨g, v, w, a, b, c, d, rfl, hg, n1, n2, hc0, sg, sa, sb, sc, sd, hgc, hq⟩ := h
  unfold t_over
  walk_at "z"
  rcases n1 with ⟨rfl, ⟨p, rfl, hp⟩, b1, _⟩ | ⟨hg0, rfl, rfl, a0, a1⟩
  · rcases n2 with ⟨_, ⟨q, rfl, hp2⟩, d1, _⟩ | ⟨h, _⟩
    · walk_at "z"
      refine ixT (sqT_of hp) (v := .int a) rfl ?_
      refine ixT (sqT_of hp2) (v := .int d) rfl ?_
      walk_at "z"
      refine ⟨szm sa sd, ixT (sqT_of hp) (v := .int b) rfl ?_⟩
      refine ixT (sqT_of hp2) (v := .int c) rfl ?_
      walk_at "z"
      have hbc : b * c ≠ 0 := Int.mul_ne_zero (by omega) hc0
      refine ⟨szm sb sc, 0, _, _, rfl, by decide, fun _ => ⟨hbc, sz_mono (sz_mul sb sc) (by decide), fun p x y H' s f f1 f2 hp => ?_⟩, fun h => absurd rfl h⟩
      exact hq _ x y H' s (.inl ⟨rfl, ⟨p, rfl, hp⟩, f.1, f.2.1⟩) (fun _ => ⟨f.2.2, f1, f2⟩) (fun h => absurd rfl h)
    · exact absurd rfl h
  · rcases n2 with ⟨h, _⟩ | ⟨_, rfl, rfl, c0, c1⟩
    · exact absurd h hg0
    · rw [if_pos hg0]
      walk_at "z"
      refine ⟨g, a, c, rfl, hg, fun h => absurd h hg0, fun _ => ⟨sg, sz_mono sa (by decide), fun w u H' s e1 e2 => ?_⟩⟩
      refine hq _ w 1 H' s (.inr ⟨hg0, rfl, rfl, by rw [e1]; exact Int.emod_nonneg _ hg0, by rw [e1]; exact Int.emod_lt_of_pos _ (by omega)⟩) (fun h => absurd h hg0) (fun _ => ?_)
      rw [Int.emod_eq_of_lt c0 c1, hgc hg0] at e2
      rw [e1, Int.mul_emod, emod_emod', ← Int.mul_emod, Int.mul_assoc, Int.mul_comm u c, Int.mul_emod, e2, ← Int.mul_emod]
      show a * 1 % g = a
      rw [Int.mul_one]
      exact Int.emod_eq_of_lt a0 a1
theorem ok_over {P : Program} {w : World} {K : PySem.W.Frag} {mg : Str → Option Value} {base : Heap} (T : Tx K mg) : Okk P w K mg base 4 "over" ["ground", "one", "other"] (sp_over K) := by
  obtain ⟨fd_quotient, F_quotient, b_quotient, g_quotient, k_quotient⟩ := ok_quotient (P := P) (w := w) (base := base) T
  obtain ⟨fd, F⟩ := T.f_over
  refine ⟨fd, F.ok sc_over (fun vs H Q E h => len_over h) (fun cdv A outer s H vs Q E hr h => ⟨t_over K, PSs.nox ?_, pure_over K vs H Q E h⟩), F.bindsN (fun _ _ _ _ _ _ us hl => match us, hl with | [_, _, _], _ => rfl), T.g_over, F.kp⟩
  exact (pss_cons (ps_if (pt_cmpR op_ne (pv 0) pe_int (nomark _)) (pss_one (ps_ret (pe_call F_quotient (hr.mono (by decide)) rfl g_quotient k_quotient b_quotient .nil pass0 (pa_cons (pv 0) (pa_cons (pv 1) (pa_cons (pv 2) pa_nil)))))) pss_nil)
      (pss_one (ps_ret (pe_call F_quotient (hr.mono (by decide)) rfl g_quotient k_quotient b_quotient .nil pass0 (pa_cons pe_int (pa_cons (pe_op op_mulU (pe_ix ix_lt (pv 1) pe_int (fun _ _ => rfl)) (pe_ix ix_lt (pv 2) pe_int (fun _ _ => rfl))) (pa_cons (pe_op op_mulU (pe_ix ix_lt (pv 1) pe_int (fun _ _ => rfl)) (pe_ix ix_lt (pv 2) pe_int (fun _ _ => rfl))) pa_nil)))))))
/-! ### fraction -/
theorem sc_fraction : FnScope ["top", "bottom"] ["top", "bottom"] (defScope s_fraction) := ⟨rfl, rfl, rfl, by decide +kernel, rfl, by decide +kernel, by decide +kernel⟩
def sp_fraction (K : PySem.W.Frag) : Sp := fun vs H Q _ => ∃ t b : Int, vs = [.int t, .int b] ∧ S60 t ∧ S60 b ∧ b ≠ 0 ∧ ∀ p x y H', Same H H' → Frac t b x y → x.natAbs ≤ t.natAbs → y.natAbs ≤ b.natAbs → H' p = some (.tup [.int x, .int y]) → Q (.ref p) H'
theorem len_fraction {K : PySem.W.Frag} {vs : List V} {H : Hp} {Q : VK} {E : XK} (h : sp_fraction K vs H Q E) : vs.length = ["top", "bottom"].length := by
  obtain ⟨_, _, rfl, _⟩ := h
  rfl
def t_fraction (K : PySem.W.Frag) : TS := (tSeq (tDrop (tCall (sp_check_integer K) [] E0 (tCons (tVar 0) tNil)))
  (tSeq (tDrop (tCall (sp_check_integer K) [] E0 (tCons (tVar 1) tNil)))
  (tSeq (tIfS (tTest (tOp rEq (tVar 1) (tC (.int 0)))) tNever tNext)
  (tRet (tCall (sp_quotient K) [] E0 (tCons (tC (.int 0)) (tCons (tVar 0) (tCons (tVar 1) tNil))))))))
theorem pure_fraction (K : PySem.W.Frag) (vs : List V) (H : Hp) (Q : VK) (E : XK) (h : sp_fraction K vs H Q E) : t_fraction K { nx := fun _ H' => Q .non H', rt := Q } (start ["top", "bottom"] vs) H := by
  obtain ⟨t, b, rfl, t1, b1, b0, hq⟩ := h
  unfold t_fraction
  walk_at "z"
  refine ⟨t, rfl, t1.1, t1.2, ?_⟩
  walk_at "z"
  refine ⟨b, rfl, b1.1, b1.2, ?_⟩
  walk_at "z"
  rw [if_neg b0]
  exact ⟨0, t, b, rfl, by decide, fun _ => ⟨b0, sz_le (n := 8000) (Nat.lt_of_lt_of_le b1.sz (Nat.pow_le_pow_right (by decide) (by decide))) (Nat.le_refl _), hq⟩, fun h => absurd rfl h⟩
theorem ok_fraction {P : Program} {w : World} {K : PySem.W.Frag} {mg : Str → Option Value} {base : Heap} (T : Tx K mg) : Okk P w K mg base 4 "fraction" ["top", "bottom"] (sp_fraction K) := by
  obtain ⟨fd_quotient, F_quotient, b_quotient, g_quotient, k_quotient⟩ := ok_quotient (P := P) (w := w) (base := base) T
  obtain ⟨fd_check_integer, F_check_integer, b_check_integer, g_check_integer, k_check_integer⟩ := ok_check_integer (P := P) (w := w) (base := base) T
  obtain ⟨fd, F⟩ := T.f_fraction
  refine ⟨fd, F.ok sc_fraction (fun vs H Q E h => len_fraction h) (fun cdv A outer s H vs Q E hr h => ⟨t_fraction K, PSs.nox ?_, pure_fraction K vs H Q E h⟩), F.bindsN (fun _ _ _ _ _ _ us hl => match us, hl with | [_, _], _ => rfl), T.g_fraction, F.kp⟩
  exact (pss_cons (ps_expr (pe_call F_check_integer (hr.mono (by decide)) rfl g_check_integer k_check_integer b_check_integer .nil pass0 (pa_cons (pv 0) pa_nil)))
      (pss_cons (ps_expr (pe_call F_check_integer (hr.mono (by decide)) rfl g_check_integer k_check_integer b_check_integer .nil pass0 (pa_cons (pv 1) pa_nil)))
      (pss_cons (ps_if (pt_cmpR op_eq (pv 1) pe_int (nomark _)) pss_never pss_nil)
      (pss_one (ps_ret (pe_call F_quotient (hr.mono (by decide)) rfl g_quotient k_quotient b_quotient .nil pass0 (pa_cons pe_int (pa_cons (pv 0) (pa_cons (pv 1) pa_nil)))))))))
/-! ### check_ground -/
theorem sc_check_ground : FnScope ["ground"] ["ground"] (defScope s_check_ground) := ⟨rfl, rfl, rfl, by decide +kernel, rfl, by decide +kernel, by decide +kernel⟩
def sp_check_ground (K : PySem.W.Frag) : Sp := fun vs H Q _ => ∃ v : V, vs = [v] ∧ Kn H v ∧ GroundV v ∧ Q .non H
theorem len_check_ground {K : PySem.W.Frag} {vs : List V} {H : Hp} {Q : VK} {E : XK} (h : sp_check_ground K vs H Q E) : vs.length = ["ground"].length := by
  obtain ⟨_, rfl, _⟩ := h
  rfl
def t_check_ground (K : PySem.W.Frag) : TS := (tIfS (tNot (tB (tCall (sp_ground_fits K) [] E0 (tCons (tVar 0) tNil)))) tNever tNext)
theorem pure_check_ground (K : PySem.W.Frag) (vs : List V) (H : Hp) (Q : VK) (E : XK) (h : sp_check_ground K vs H Q E) : t_check_ground K { nx := fun _ H' => Q .non H', rt := Q } (start ["ground"] vs) H := by
  obtain ⟨v, rfl, hk, hg, hq⟩ := h
  unfold t_check_ground
  walk_at "z"
  refine ⟨v, rfl, hk, fun b hb => ?_⟩
  walk_at "z"
  rw [hb.mpr hg]
  walk_at "z"
  exact hq
theorem ok_check_ground {P : Program} {w : World} {K : PySem.W.Frag} {mg : Str → Option Value} {base : Heap} (T : Tx K mg) : Okk P w K mg base 5 "check_ground" ["ground"] (sp_check_ground K) := by
  obtain ⟨fd_ground_fits, F_ground_fits, b_ground_fits, g_ground_fits, k_ground_fits⟩ := ok_ground_fits (P := P) (w := w) (base := base) T
  obtain ⟨fd, F⟩ := T.f_check_ground
  refine ⟨fd, F.ok sc_check_ground (fun vs H Q E h => len_check_ground h) (fun cdv A outer s H vs Q E hr h => ⟨t_check_ground K, PSs.nox ?_, pure_check_ground K vs H Q E h⟩), F.bindsN (fun _ _ _ _ _ _ us hl => match us, hl with | [_], _ => rfl), T.g_check_ground, F.kp⟩
  exact (pss_one (ps_if (pt_not (pt_val (pe_call F_ground_fits (hr.mono (by decide)) rfl g_ground_fits k_ground_fits b_ground_fits .nil pass0 (pa_cons (pv 0) pa_nil)))) pss_never pss_nil))
/-! ### check_prime_ground -/
theorem sc_check_prime_ground : FnScope ["ground"] ["ground"] (defScope s_check_prime_ground) := ⟨rfl, rfl, rfl, by decide +kernel, rfl, by decide +kernel, by decide +kernel⟩
def sp_check_prime_ground (K : PySem.W.Frag) : Sp := fun vs H Q _ => ∃ p : Int, vs = [.int p] ∧ GroundV (.int p) ∧ p ≠ 0 ∧ Q .non H
theorem len_check_prime_ground {K : PySem.W.Frag} {vs : List V} {H : Hp} {Q : VK} {E : XK} (h : sp_check_prime_ground K vs H Q E) : vs.length = ["ground"].length := by
  obtain ⟨_, rfl, _⟩ := h
  rfl
def t_check_prime_ground (K : PySem.W.Frag) : TS := (tIfS (tOr (tNot (tB (tCall (sp_ground_fits K) [] E0 (tCons (tVar 0) tNil)))) (tTest (tOp rEq (tVar 0) (tC (.int 0))))) tNever tNext)
theorem pure_check_prime_ground (K : PySem.W.Frag) (vs : List V) (H : Hp) (Q : VK) (E : XK) (h : sp_check_prime_ground K vs H Q E) : t_check_prime_ground K { nx := fun _ H' => Q .non H', rt := Q } (start ["ground"] vs) H := by
  obtain ⟨p, rfl, hp, hp0, hq⟩ := h
  unfold t_check_prime_ground
  walk_at "z"
  refine ⟨_, rfl, trivial, fun c hc => ?_⟩
  rw [hc.mpr hp]
  walk_at "z"
  rw [if_neg hp0]
  exact hq
theorem ok_check_prime_ground {P : Program} {w : World} {K : PySem.W.Frag} {mg : Str → Option Value} {base : Heap} (T : Tx K mg) : Okk P w K mg base 5 "check_prime_ground" ["ground"] (sp_check_prime_ground K) := by
  obtain ⟨fd_ground_fits, F_ground_fits, b_ground_fits, g_ground_fits, k_ground_fits⟩ := ok_ground_fits (P := P) (w := w) (base := base) T
  obtain ⟨fd, F⟩ := T.f_check_prime_ground
  refine ⟨fd, F.ok sc_check_prime_ground (fun vs H Q E h => len_check_prime_ground h) (fun cdv A outer s H vs Q E hr h => ⟨t_check_prime_ground K, PSs.nox ?_, pure_check_prime_ground K vs H Q E h⟩), F.bindsN (fun _ _ _ _ _ _ us hl => match us, hl with | [_], _ => rfl), T.g_check_prime_ground, F.kp⟩
  exact (pss_one (ps_if (PW.pt (pw_or (pt_not (pt_val (pe_call F_ground_fits (hr.mono (by decide)) rfl g_ground_fits k_ground_fits b_ground_fits .nil pass0 (pa_cons (pv 0) pa_nil)))) (pw_or1 (pt_cmpR op_eq (pv 0) pe_int (nomark _))))) pss_never pss_nil))
/-! ### minus -/
theorem sc_minus : FnScope ["ground", "one", "other"] ["ground", "one", "other"] (defScope s_minus) := ⟨rfl, rfl, rfl, by decide +kernel, rfl, by decide +kernel, by decide +kernel⟩
def sp_minus (K : PySem.W.Frag) : Sp := fun vs H Q _ => ∃ (g : Int) (v w : V) (a b c d : Int), vs = [.int g, v, w] ∧ 0 ≤ g ∧ NumR H g v a b ∧ NumR H g w c d ∧ Sz 3000 g ∧ Sz 3000 a ∧ Sz 3000 b ∧ Sz 3000 c ∧ Sz 3000 d ∧
  ∀ z x y H', Same H H' → NumR H' g z x y → (g = 0 → x * (b * d) = (a * d - c * b) * y ∧ x.natAbs ≤ (a * d - c * b).natAbs ∧ y.natAbs ≤ (b * d).natAbs) → (g ≠ 0 → x = (a - c) % g) → Q z H'
theorem len_minus {K : PySem.W.Frag} {vs : List V} {H : Hp} {Q : VK} {E : XK} (h : sp_minus K vs H Q E) : vs.length = ["ground", "one", "other"].length := by
  obtain ⟨_, _, _, _, _, _, _, rfl, _⟩ := h
  rfl
def t_minus (K : PySem.W.Frag) : TS := (tRet (tCall (sp_plus K) [] E0 (tCons (tVar 0) (tCons (tVar 1) (tCons (tCall (sp_opposite K) [] E0 (tCons (tVar 0) (tCons (tVar 2) tNil))) tNil)))))
theorem pure_minus (K : PySem.W.Frag) (vs : List V) (H : Hp) (Q : VK) (E : XK) (h : sp_minus K vs H Q E) : t_minus K { nx := fun _ H' => Q .non H', rt := Q } (start ["ground", "one", "other"] vs) H := by
  obtain ⟨g, v, w, a, b, c, d, rfl, hg, n1, n2, sg, sa, sb, sc, sd, hq⟩ := h
  unfold t_minus
  walk_at "z"
  refine ⟨g, w, c, d, rfl, hg, n2, fun w2 c2 H1 s1 n3 e1 e2 => ?_⟩
  have sc2 : Sz 3000 c2 := by
    by_cases h : g = 0
    · rw [e1 h]; exact sz_le sc (by omega)
    · rcases n3 with ⟨h2, _⟩ | ⟨_, _, _, h3, h4⟩
      · exact absurd h2 h
      · rcases n2 with ⟨h2, _⟩ | ⟨_, _, _, h5, h6⟩
        · exact absurd h2 h
        · exact sz_le sg (by omega)
  walk_at "z"
  refine ⟨g, v, w2, a, b, c2, d, rfl, hg, n1.same s1, n3, sa, sb, sc2, sd, fun z x y H2 s2 n4 e3 e4 => ?_⟩
  refine hq z x y H2 (s1.trans s2) n4 (fun h => ?_) (fun h => ?_)
  · obtain ⟨k1, k2, k3⟩ := e3 h
    rw [e1 h] at k1 k2
    have e : a * d + -c * b = a * d - c * b := by rw [Int.neg_mul]; omega
    rw [e] at k1 k2
    exact ⟨k1, k2, k3⟩
  · rw [e4 h, e2 h, Int.add_emod, emod_emod', ← Int.add_emod]
    rfl
theorem ok_minus {P : Program} {w : World} {K : PySem.W.Frag} {mg : Str → Option Value} {base : Heap} (T : Tx K mg) : Okk P w K mg base 5 "minus" ["ground", "one", "other"] (sp_minus K) := by
  obtain ⟨fd_opposite, F_opposite, b_opposite, g_opposite, k_opposite⟩ := ok_opposite (P := P) (w := w) (base := base) T
  obtain ⟨fd_plus, F_plus, b_plus, g_plus, k_plus⟩ := ok_plus (P := P) (w := w) (base := base) T
  obtain ⟨fd, F⟩ := T.f_minus
  refine ⟨fd, F.ok sc_minus (fun vs H Q E h => len_minus h) (fun cdv A outer s H vs Q E hr h => ⟨t_minus K, PSs.nox ?_, pure_minus K vs H Q E h⟩), F.bindsN (fun _ _ _ _ _ _ us hl => match us, hl with | [_, _, _], _ => rfl), T.g_minus, F.kp⟩
  exact (pss_one (ps_ret (pe_call F_plus (hr.mono (by decide)) rfl g_plus k_plus b_plus .nil pass0 (pa_cons (pv 0) (pa_cons (pv 1) (pa_cons (pe_call F_opposite (hr.mono (by decide)) rfl g_opposite k_opposite b_opposite .nil pass0 (pa_cons (pv 0) (pa_cons (pv 2) pa_nil))) pa_nil))))))
/-! ### compared -/
theorem sc_compared : FnScope ["one", "other"] ["one", "other"] (defScope s_compared) := ⟨rfl, rfl, rfl, by decide +kernel, rfl, by decide +kernel, by decide +kernel⟩
def sp_compared (K : PySem.W.Frag) : Sp := fun vs H Q _ => ∃ (v w : V) (a b c d : Int), vs = [v, w] ∧ NumR H 0 v a b ∧ NumR H 0 w c d ∧ S60 a ∧ S60 b ∧ S60 c ∧ S60 d ∧ Q (.int (if a * d = c * b then 0 else if a * d < c * b then -1 else 1)) H
theorem len_compared {K : PySem.W.Frag} {vs : List V} {H : Hp} {Q : VK} {E : XK} (h : sp_compared K vs H Q E) : vs.length = ["one", "other"].length := by
  obtain ⟨_, _, _, _, _, _, rfl, _⟩ := h
  rfl
def t_compared (K : PySem.W.Frag) : TS := (tSeq (tDrop (tCall (sp_check_number K) [] E0 (tCons (tC (.int 0)) (tCons (tVar 0) tNil))))
  (tSeq (tDrop (tCall (sp_check_number K) [] E0 (tCons (tC (.int 0)) (tCons (tVar 1) tNil))))
  (tRet (tCall (sp_sign_of_difference K) [] E0 (tCons (tVar 0) (tCons (tVar 1) tNil))))))
theorem pure_compared (K : PySem.W.Frag) (vs : List V) (H : Hp) (Q : VK) (E : XK) (h : sp_compared K vs H Q E) : t_compared K { nx := fun _ H' => Q .non H', rt := Q } (start ["one", "other"] vs) H := by
  obtain ⟨v, w, a, b, c, d, rfl, n1, n2, sa, sb, sc, sd, hq⟩ := h
  unfold t_compared
  walk_at "z"
  refine ⟨0, v, rfl, n1.kn2, n1.numV sa sb, ?_⟩
  walk_at "z"
  refine ⟨0, w, rfl, n2.kn2, n2.numV sc sd, ?_⟩
  walk_at "z"
  exact ⟨v, w, a, b, c, d, rfl, n1, n2, sa.sz, sb.sz, sc.sz, sd.sz, hq⟩
theorem ok_compared {P : Program} {w : World} {K : PySem.W.Frag} {mg : Str → Option Value} {base : Heap} (T : Tx K mg) : Okk P w K mg base 5 "compared" ["one", "other"] (sp_compared K) := by
  obtain ⟨fd_sign_of_difference, F_sign_of_difference, b_sign_of_difference, g_sign_of_difference, k_sign_of_difference⟩ := ok_sign_of_difference (P := P) (w := w) (base := base) T
  obtain ⟨fd_check_number, F_check_number, b_check_number, g_check_number, k_check_number⟩ := ok_check_number (P := P) (w := w) (base := base) T
  obtain ⟨fd, F⟩ := T.f_compared
  refine ⟨fd, F.ok sc_compared (fun vs H Q E h => len_compared h) (fun cdv A outer s H vs Q E hr h => ⟨t_compared K, PSs.nox ?_, pure_compared K vs H Q E h⟩), F.bindsN (fun _ _ _ _ _ _ us hl => match us, hl with | [_, _], _ => rfl), T.g_compared, F.kp⟩
  exact (pss_cons (ps_expr (pe_call F_check_number (hr.mono (by decide)) rfl g_check_number k_check_number b_check_number .nil pass0 (pa_cons pe_int (pa_cons (pv 0) pa_nil))))
      (pss_cons (ps_expr (pe_call F_check_number (hr.mono (by decide)) rfl g_check_number k_check_number b_check_number .nil pass0 (pa_cons pe_int (pa_cons (pv 1) pa_nil))))
      (pss_one (ps_ret (pe_call F_sign_of_difference (hr.mono (by decide)) rfl g_sign_of_difference k_sign_of_difference b_sign_of_difference .nil pass0 (pa_cons (pv 0) (pa_cons (pv 1) pa_nil)))))))
/-! ### rounded -/
theorem sc_rounded : FnScope ["one"] ["one"] (defScope s_rounded) := ⟨rfl, rfl, rfl, by decide +kernel, rfl, by decide +kernel, by decide +kernel⟩
def sp_rounded (K : PySem.W.Frag) : Sp := fun vs H Q _ => ∃ (v : V) (a b : Int), vs = [v] ∧ NumR H 0 v a b ∧ S60 a ∧ S60 b ∧ Q (.int (a / b)) H
theorem len_rounded {K : PySem.W.Frag} {vs : List V} {H : Hp} {Q : VK} {E : XK} (h : sp_rounded K vs H Q E) : vs.length = ["one"].length := by
  obtain ⟨_, _, _, rfl, _⟩ := h
  rfl
def t_rounded (K : PySem.W.Frag) : TS := (tSeq (tDrop (tCall (sp_check_number K) [] E0 (tCons (tC (.int 0)) (tCons (tVar 0) tNil))))
  (tRet (tOp rDivU (tOp (rIxA K) (tVar 0) (tC (.int 0))) (tOp (rIxA K) (tVar 0) (tC (.int 1))))))
theorem pure_rounded (K : PySem.W.Frag) (vs : List V) (H : Hp) (Q : VK) (E : XK) (h : sp_rounded K vs H Q E) : t_rounded K { nx := fun _ H' => Q .non H', rt := Q } (start ["one"] vs) H := by
  obtain ⟨v, a, b, rfl, n1, sa, sb, hq⟩ := h
  unfold t_rounded
  walk_at "z"
  refine ⟨0, v, rfl, n1.kn2, n1.numV sa sb, ?_⟩
  walk_at "z"
  rcases n1 with ⟨_, ⟨p, rfl, hp⟩, b1, _⟩ | ⟨h, _⟩
  rotate_left
  · exact absurd rfl h
  refine ixT (sqT_of hp) (v := .int a) rfl ?_
  refine ixT (sqT_of hp) (v := .int b) rfl ?_
  walk_at "z"
  exact ⟨wide_div (b := 3000) (by omega) sb.sz (by decide) (by decide), hq⟩
theorem ok_rounded {P : Program} {w : World} {K : PySem.W.Frag} {mg : Str → Option Value} {base : Heap} (T : Tx K mg) : Okk P w K mg base 5 "rounded" ["one"] (sp_rounded K) := by
  obtain ⟨fd_check_number, F_check_number, b_check_number, g_check_number, k_check_number⟩ := ok_check_number (P := P) (w := w) (base := base) T
  obtain ⟨fd, F⟩ := T.f_rounded
  refine ⟨fd, F.ok sc_rounded (fun vs H Q E h => len_rounded h) (fun cdv A outer s H vs Q E hr h => ⟨t_rounded K, PSs.nox ?_, pure_rounded K vs H Q E h⟩), F.bindsN (fun _ _ _ _ _ _ us hl => match us, hl with | [_], _ => rfl), T.g_rounded, F.kp⟩
  exact (pss_cons (ps_expr (pe_call F_check_number (hr.mono (by decide)) rfl g_check_number k_check_number b_check_number .nil pass0 (pa_cons pe_int (pa_cons (pv 0) pa_nil))))
      (pss_one (ps_ret (pe_op op_fdivW (pe_ix ix_lt (pv 0) pe_int (fun _ _ => rfl)) (pe_ix ix_lt (pv 0) pe_int (fun _ _ => rfl))))))
/-! ### whole -/
theorem sc_whole : FnScope ["ground", "number"] ["ground", "number"] (defScope s_whole) := ⟨rfl, rfl, rfl, by decide +kernel, rfl, by decide +kernel, by decide +kernel⟩
def sp_whole (K : PySem.W.Frag) : Sp := fun vs H Q _ => ∃ g n : Int, vs = [.int g, .int n] ∧ GroundV (.int g) ∧ -(10 ^ 60) < n ∧ n < 10 ^ 60 ∧ (g = 0 → ∀ p, H p = none → Q (.ref p) (upd H p (.tup [.int n, .int 1]))) ∧ (g ≠ 0 → Q (.int (n % g)) H)
theorem len_whole {K : PySem.W.Frag} {vs : List V} {H : Hp} {Q : VK} {E : XK} (h : sp_whole K vs H Q E) : vs.length = ["ground", "number"].length := by
  obtain ⟨_, _, rfl, _⟩ := h
  rfl
def t_whole (K : PySem.W.Frag) : TS := (tSeq (tDrop (tCall (sp_check_ground K) [] E0 (tCons (tVar 0) tNil)))
  (tSeq (tDrop (tCall (sp_check_integer K) [] E0 (tCons (tVar 1) tNil)))
  (tRet (tCall (sp_number_of K) [] E0 (tCons (tVar 0) (tCons (tVar 1) tNil))))))
theorem pure_whole (K : PySem.W.Frag) (vs : List V) (H : Hp) (Q : VK) (E : XK) (h : sp_whole K vs H Q E) : t_whole K { nx := fun _ H' => Q .non H', rt := Q } (start ["ground", "number"] vs) H := by
  obtain ⟨g, n, rfl, hg, n1, n2, h1, h2⟩ := h
  unfold t_whole
  walk_at "z"
  refine ⟨_, rfl, trivial, hg, ?_⟩
  walk_at "z"
  refine ⟨n, rfl, n1, n2, ?_⟩
  walk_at "z"
  obtain ⟨m, e, hm, _⟩ := hg
  cases e
  exact ⟨_, _, rfl, hm, h1, h2⟩
theorem ok_whole {P : Program} {w : World} {K : PySem.W.Frag} {mg : Str → Option Value} {base : Heap} (T : Tx K mg) : Okk P w K mg base 6 "whole" ["ground", "number"] (sp_whole K) := by
  obtain ⟨fd_number_of, F_number_of, b_number_of, g_number_of, k_number_of⟩ := ok_number_of (P := P) (w := w) (base := base) T
  obtain ⟨fd_check_ground, F_check_ground, b_check_ground, g_check_ground, k_check_ground⟩ := ok_check_ground (P := P) (w := w) (base := base) T
  obtain ⟨fd_check_integer, F_check_integer, b_check_integer, g_check_integer, k_check_integer⟩ := ok_check_integer (P := P) (w := w) (base := base) T
  obtain ⟨fd, F⟩ := T.f_whole
  refine ⟨fd, F.ok sc_whole (fun vs H Q E h => len_whole h) (fun cdv A outer s H vs Q E hr h => ⟨t_whole K, PSs.nox ?_, pure_whole K vs H Q E h⟩), F.bindsN (fun _ _ _ _ _ _ us hl => match us, hl with | [_, _], _ => rfl), T.g_whole, F.kp⟩
  exact (pss_cons (ps_expr (pe_call F_check_ground (hr.mono (by decide)) rfl g_check_ground k_check_ground b_check_ground .nil pass0 (pa_cons (pv 0) pa_nil)))
      (pss_cons (ps_expr (pe_call F_check_integer (hr.mono (by decide)) rfl g_check_integer k_check_integer b_check_integer .nil pass0 (pa_cons (pv 1) pa_nil)))
      (pss_one (ps_ret (pe_call F_number_of (hr.mono (by decide)) rfl g_number_of k_number_of b_number_of .nil pass0 (pa_cons (pv 0) (pa_cons (pv 1) pa_nil)))))))
/-! ### check_two -/
theorem sc_check_two : FnScope ["ground", "one", "other"] ["ground", "one", "other"] (defScope s_check_two) := ⟨rfl, rfl, rfl, by decide +kernel, rfl, by decide +kernel, by decide +kernel⟩
def sp_check_two (K : PySem.W.Frag) : Sp := fun vs H Q _ => ∃ (g : Int) (v w : V), vs = [.int g, v, w] ∧ GroundV (.int g) ∧ Kn2 H v ∧ NumV H g v (10 ^ 60) ∧ Kn2 H w ∧ NumV H g w (10 ^ 60) ∧ Q .non H
theorem len_check_two {K : PySem.W.Frag} {vs : List V} {H : Hp} {Q : VK} {E : XK} (h : sp_check_two K vs H Q E) : vs.length = ["ground", "one", "other"].length := by
  obtain ⟨_, _, _, rfl, _⟩ := h
  rfl
def t_check_two (K : PySem.W.Frag) : TS := (tSeq (tDrop (tCall (sp_check_ground K) [] E0 (tCons (tVar 0) tNil)))
  (tSeq (tDrop (tCall (sp_check_number K) [] E0 (tCons (tVar 0) (tCons (tVar 1) tNil))))
  (tDrop (tCall (sp_check_number K) [] E0 (tCons (tVar 0) (tCons (tVar 2) tNil))))))
theorem pure_check_two (K : PySem.W.Frag) (vs : List V) (H : Hp) (Q : VK) (E : XK) (h : sp_check_two K vs H Q E) : t_check_two K { nx := fun _ H' => Q .non H', rt := Q } (start ["ground", "one", "other"] vs) H := by
  obtain ⟨g, v, w, rfl, hg, k1, n1, k2, n2, hq⟩ := h
  unfold t_check_two
  walk_at "z"
  refine ⟨_, rfl, trivial, hg, ?_⟩
  walk_at "z"
  refine ⟨g, v, rfl, k1, n1, ?_⟩
  walk_at "z"
  refine ⟨g, w, rfl, k2, n2, ?_⟩
  walk_at "z"
  exact hq
theorem ok_check_two {P : Program} {w : World} {K : PySem.W.Frag} {mg : Str → Option Value} {base : Heap} (T : Tx K mg) : Okk P w K mg base 6 "check_two" ["ground", "one", "other"] (sp_check_two K) := by
  obtain ⟨fd_check_ground, F_check_ground, b_check_ground, g_check_ground, k_check_ground⟩ := ok_check_ground (P := P) (w := w) (base := base) T
  obtain ⟨fd_check_number, F_check_number, b_check_number, g_check_number, k_check_number⟩ := ok_check_number (P := P) (w := w) (base := base) T
  obtain ⟨fd, F⟩ := T.f_check_two
  refine ⟨fd, F.ok sc_check_two (fun vs H Q E h => len_check_two h) (fun cdv A outer s H vs Q E hr h => ⟨t_check_two K, PSs.nox ?_, pure_check_two K vs H Q E h⟩), F.bindsN (fun _ _ _ _ _ _ us hl => match us, hl with | [_, _, _], _ => rfl), T.g_check_two, F.kp⟩
  exact (pss_cons (ps_expr (pe_call F_check_ground (hr.mono (by decide)) rfl g_check_ground k_check_ground b_check_ground .nil pass0 (pa_cons (pv 0) pa_nil)))
      (pss_cons (ps_expr (pe_call F_check_number (hr.mono (by decide)) rfl g_check_number k_check_number b_check_number .nil pass0 (pa_cons (pv 0) (pa_cons (pv 1) pa_nil))))
      (pss_one (ps_expr (pe_call F_check_number (hr.mono (by decide)) rfl g_check_number k_check_number b_check_number .nil pass0 (pa_cons (pv 0) (pa_cons (pv 2) pa_nil)))))))
/-! ### raised -/
theorem sc_raised : FnScope ["ground", "one", "exponent"] ["ground", "one", "exponent"] (defScope s_raised) := ⟨rfl, rfl, rfl, by decide +kernel, rfl, by decide +kernel, by decide +kernel⟩
def sp_raised (K : PySem.W.Frag) : Sp := fun vs H Q _ => ∃ (g : Int) (v : V) (a b e : Int), vs = [.int g, v, .int e] ∧ GroundV (.int g) ∧ NumR H g v a b ∧ S60 a ∧ S60 b ∧ -1000 ≤ e ∧ e ≤ 1000 ∧ (e < 0 → a ≠ 0) ∧
  (g = 0 → ∀ p x y H', Same H H' → (0 ≤ e → x = a ∧ y = b) → (e < 0 → Frac b a x y) → H' p = some (.tup [.int (x ^ e.natAbs), .int (y ^ e.natAbs)]) → Q (.ref p) H') ∧
  (g ≠ 0 → ∀ z H', Same H H' → (0 ≤ e → z = a) → (e < 0 → (z * a) % g = 1 % g) → Q (.int (z ^ e.natAbs % g)) H')
theorem len_raised {K : PySem.W.Frag} {vs : List V} {H : Hp} {Q : VK} {E : XK} (h : sp_raised K vs H Q E) : vs.length = ["ground", "one", "exponent"].length := by
  obtain ⟨_, _, _, _, _, rfl, _⟩ := h
  rfl
def t_raised (K : PySem.W.Frag) : TS := (tSeq (tDrop (tCall (sp_check_ground K) [] E0 (tCons (tVar 0) tNil)))
  (tSeq (tDrop (tCall (sp_check_number K) [] E0 (tCons (tVar 0) (tCons (tVar 1) tNil))))
  (tSeq (tDrop (tCall (sp_check_between K) [] E0 (tCons (tVar 2) (tCons (tUn rNeg (tC (.int 1000))) (tCons (tC (.int 1000)) tNil)))))
  (tSeq (tIfS (tTest (tOp rGeI (tVar 2) (tC (.int 0)))) (tRet (tCall (sp_power K) [] E0 (tCons (tVar 0) (tCons (tVar 1) (tCons (tVar 2) tNil))))) tNext)
  (tSeq (tIfS (tB (tCall (sp_is_zero K) [] E0 (tCons (tVar 0) (tCons (tVar 1) tNil)))) tNever tNext)
  (tRet (tCall (sp_power K) [] E0 (tCons (tVar 0) (tCons (tCall (sp_over K) [] E0 (tCons (tVar 0) (tCons (tCall (sp_number_of K) [] E0 (tCons (tVar 0) (tCons (tC (.int 1)) tNil))) (tCons (tVar 1) tNil)))) (tCons (tUn rNeg (tVar 2)) tNil))))))))))
theorem S60.sz250 {x : Int} (h : S60 x) : Sz 250 x := show x.natAbs < 2 ^ 250 by have := h.1; have := h.2; omega
theorem pure_raised (K : PySem.W.Frag) (vs : List V) (H : Hp) (Q : VK) (E : XK) (h : sp_raised K vs H Q E) : t_raised K { nx := fun _ H' => Q .non H', rt := Q } (start ["ground", "one", "exponent"] vs) H := by
  obtain ⟨g, v, a, b, e, rfl, hg, n1, sa, sb, e1, e2, he0, hq1, hq2⟩ := h
  have gl := ground_le hg
  unfold t_raised
  walk_at "z"
  refine ⟨_, rfl, trivial, hg, ?_⟩
  walk_at "z"
  refine ⟨g, v, rfl, n1.kn2, n1.numV sa sb, ?_⟩
  walk_at "z"
  refine ⟨_, _, _, rfl, by omega, by omega, ?_⟩
  walk_at "z"
  by_cases h0 : 0 ≤ e
  · rw [if_pos h0]
    have et : e.natAbs = e.toNat := by omega
    refine ⟨g, v, a, b, e, rfl, gl.1, h0, n1, by omega, fun _ => ⟨250, by decide, sa.sz250, sb.sz250, by omega⟩, fun hg0 p H' s hp => ?_, fun hg0 => ?_⟩
    · exact hq1 hg0 p a b H' s (fun _ => ⟨rfl, rfl⟩) (fun h => by omega) (by rw [et]; exact hp)
    · have := hq2 hg0 a H (Same.refl H) (fun _ => rfl) (fun h => by omega)
      rwa [et] at this
  · rw [if_neg h0]
    have hlt : e < 0 := by omega
    have ha := he0 hlt
    have et : e.natAbs = (-e).toNat := by omega
    refine ⟨g, v, a, b, rfl, n1, ?_⟩
    rw [decide_eq_false ha]
    walk_at "z"
    have one60 : S60 1 := ⟨by decide, by decide⟩
    have go : ∀ (w : V) (o : Int) H1, Same H H1 → NumR H1 g w o 1 → S60 o → (g = 0 → o = 1) → (g ≠ 0 → o = 1 % g) → sp_over K [.int g, w, v] H1 (fun x H1 => sp_power K [.int g, x, .int (-e)] H1 Q E0) E0 := by
      intro w o H1 s1 nw so ho1 ho2
      refine ⟨g, w, v, o, 1, a, b, rfl, gl.1, nw, n1.same s1, ha, ground_sz hg, so.sz, one60.sz, sa.sz, sb.sz, ground_cop hg (n1.same s1) ha, fun z x y H2 s2 nz r1 r2 => ?_⟩
      refine ⟨g, z, x, y, -e, rfl, gl.1, by omega, nz, by omega, fun hg0 => ?_, fun hg0 p H' s hp => ?_, fun hg0 => ?_⟩
      · obtain ⟨_, k2, k3⟩ := r1 hg0
        rw [ho1 hg0, Int.one_mul] at k2
        rw [Int.one_mul] at k3
        exact ⟨250, by decide, sz_le sb.sz250 k2, sz_le sa.sz250 k3, by omega⟩
      · obtain ⟨k1, _, _⟩ := r1 hg0
        rw [ho1 hg0, Int.one_mul, Int.one_mul] at k1
        rcases nz with ⟨_, _, y1, yc⟩ | ⟨h, _⟩
        · refine hq1 hg0 p x y H' ((s1.trans s2).trans s) (fun h => absurd h h0) (fun _ => ⟨y1, yc, k1⟩) (by rw [et]; exact hp)
        · exact absurd hg0 h
      · have := hq2 hg0 x H2 (s1.trans s2) (fun h => absurd h h0) (fun _ => by rw [r2 hg0, ho2 hg0])
        rwa [et] at this
    refine ⟨g, 1, rfl, gl.1, fun hg0 p hp => ?_, fun hg0 => ?_⟩
    · exact go _ 1 _ (same_upd hp) (.inl ⟨hg0, ⟨p, rfl, upd_same⟩, by decide, by decide⟩) one60 (fun _ => rfl) (fun h => absurd hg0 h)
    · have m0 := Int.emod_nonneg 1 hg0
      have m1 := Int.emod_lt_of_pos 1 (show 0 < g by omega)
      exact go _ (1 % g) H (Same.refl H) (.inr ⟨hg0, rfl, rfl, m0, m1⟩) ⟨by omega, by omega⟩ (fun h => absurd h hg0) (fun _ => rfl)
theorem ok_raised {P : Program} {w : World} {K : PySem.W.Frag} {mg : Str → Option Value} {base : Heap} (T : Tx K mg) : Okk P w K mg base 6 "raised" ["ground", "one", "exponent"] (sp_raised K) := by
  obtain ⟨fd_number_of, F_number_of, b_number_of, g_number_of, k_number_of⟩ := ok_number_of (P := P) (w := w) (base := base) T
  obtain ⟨fd_is_zero, F_is_zero, b_is_zero, g_is_zero, k_is_zero⟩ := ok_is_zero (P := P) (w := w) (base := base) T
  obtain ⟨fd_power, F_power, b_power, g_power, k_power⟩ := ok_power (P := P) (w := w) (base := base) T
  obtain ⟨fd_check_ground, F_check_ground, b_check_ground, g_check_ground, k_check_ground⟩ := ok_check_ground (P := P) (w := w) (base := base) T
  obtain ⟨fd_check_number, F_check_number, b_check_number, g_check_number, k_check_number⟩ := ok_check_number (P := P) (w := w) (base := base) T
  obtain ⟨fd_check_between, F_check_between, b_check_between, g_check_between, k_check_between⟩ := ok_check_between (P := P) (w := w) (base := base) T
  obtain ⟨fd_over, F_over, b_over, g_over, k_over⟩ := ok_over (P := P) (w := w) (base := base) T
  obtain ⟨_, hc_MAX_EXPONENT⟩ := T.c_MAX_EXPONENT
  obtain ⟨fd, F⟩ := T.f_raised
  refine ⟨fd, F.ok sc_raised (fun vs H Q E h => len_raised h) (fun cdv A outer s H vs Q E hr h => ⟨t_raised K, PSs.nox ?_, pure_raised K vs H Q E h⟩), F.bindsN (fun _ _ _ _ _ _ us hl => match us, hl with | [_, _, _], _ => rfl), T.g_raised, F.kp⟩
  exact (pss_cons (ps_expr (pe_call F_check_ground (hr.mono (by decide)) rfl g_check_ground k_check_ground b_check_ground .nil pass0 (pa_cons (pv 0) pa_nil)))
      (pss_cons (ps_expr (pe_call F_check_number (hr.mono (by decide)) rfl g_check_number k_check_number b_check_number .nil pass0 (pa_cons (pv 0) (pa_cons (pv 1) pa_nil))))
      (pss_cons (ps_expr (pe_call F_check_between (hr.mono (by decide)) rfl g_check_between k_check_between b_check_between .nil pass0 (pa_cons (pv 2) (pa_cons (pe_un un_neg (pe_glob rfl hc_MAX_EXPONENT ⟨_, rfl⟩)) (pa_cons (pe_glob rfl hc_MAX_EXPONENT ⟨_, rfl⟩) pa_nil)))))
      (pss_cons (ps_if (pt_cmpR op_ge (pv 2) pe_int (nomark _)) (pss_one (ps_ret (pe_call F_power (hr.mono (by decide)) rfl g_power k_power b_power .nil pass0 (pa_cons (pv 0) (pa_cons (pv 1) (pa_cons (pv 2) pa_nil)))))) pss_nil)
      (pss_cons (ps_if (pt_val (pe_call F_is_zero (hr.mono (by decide)) rfl g_is_zero k_is_zero b_is_zero .nil pass0 (pa_cons (pv 0) (pa_cons (pv 1) pa_nil)))) pss_never pss_nil)
      (pss_one (ps_ret (pe_call F_power (hr.mono (by decide)) rfl g_power k_power b_power .nil pass0 (pa_cons (pv 0) (pa_cons (pe_call F_over (hr.mono (by decide)) rfl g_over k_over b_over .nil pass0 (pa_cons (pv 0) (pa_cons (pe_call F_number_of (hr.mono (by decide)) rfl g_number_of k_number_of b_number_of .nil pass0 (pa_cons (pv 0) (pa_cons pe_int pa_nil))) (pa_cons (pv 1) pa_nil)))) (pa_cons (pe_un un_neg (pv 2)) pa_nil)))))))))))
/-! ### read_at -/
theorem sc_read_at : FnScope ["prime", "one"] ["prime", "one"] (defScope s_read_at) := ⟨rfl, rfl, rfl, by decide +kernel, rfl, by decide +kernel, by decide +kernel⟩
def sp_read_at (K : PySem.W.Frag) : Sp := fun vs H Q _ => ∃ (p : Int) (v : V) (a b : Int), vs = [.int p, v] ∧ GroundV (.int p) ∧ p ≠ 0 ∧ NumR H 0 v a b ∧ S60 a ∧ S60 b ∧ b % p ≠ 0 ∧ ∀ w H', Same H H' → 0 ≤ w → w < p → (w * b) % p = a % p → Q (.int w) H'
theorem len_read_at {K : PySem.W.Frag} {vs : List V} {H : Hp} {Q : VK} {E : XK} (h : sp_read_at K vs H Q E) : vs.length = ["prime", "one"].length := by
  obtain ⟨_, _, _, _, rfl, _⟩ := h
  rfl
def t_read_at (K : PySem.W.Frag) : TS := (tSeq (tDrop (tCall (sp_check_prime_ground K) [] E0 (tCons (tVar 0) tNil)))
  (tSeq (tDrop (tCall (sp_check_number K) [] E0 (tCons (tC (.int 0)) (tCons (tVar 1) tNil))))
  (tSeq (tIfS (tTest (tOp rEq (tOp rModU (tOp (rIxA K) (tVar 1) (tC (.int 1))) (tVar 0)) (tC (.int 0)))) tNever tNext)
  (tRet (tCall (sp_quotient K) [] E0 (tCons (tVar 0) (tCons (tOp (rIxA K) (tVar 1) (tC (.int 0))) (tCons (tOp (rIxA K) (tVar 1) (tC (.int 1))) tNil))))))))
theorem prime_cop {p b : Int} (h : GroundV (.int p)) (hp : p ≠ 0) (hb : b % p ≠ 0) : Nat.gcd (b % p).natAbs p.natAbs = 1 := by
  have gl := ground_le h
  have m0 := Int.emod_nonneg b hp
  have m1 := Int.emod_lt_of_pos b (show 0 < p by omega)
  exact ground_cop (H := fun _ => none) (w := .int (b % p)) (d := 1) h (.inr ⟨hp, rfl, rfl, m0, m1⟩) hb hp
theorem pure_read_at (K : PySem.W.Frag) (vs : List V) (H : Hp) (Q : VK) (E : XK) (h : sp_read_at K vs H Q E) : t_read_at K { nx := fun _ H' => Q .non H', rt := Q } (start ["prime", "one"] vs) H := by
  obtain ⟨p, v, a, b, rfl, hp, hp0, n1, sa, sb, hb, hq⟩ := h
  have gl := ground_le hp
  unfold t_read_at
  walk_at "z"
  refine ⟨p, rfl, hp, hp0, ?_⟩
  walk_at "z"
  refine ⟨0, v, rfl, n1.kn2, n1.numV sa sb, ?_⟩
  walk_at "z"
  rcases n1 with ⟨_, ⟨q, rfl, hq2⟩, b1, _⟩ | ⟨h, _⟩
  rotate_left
  · exact absurd rfl h
  refine ixT (sqT_of hq2) (v := .int b) rfl ?_
  walk_at "z"
  refine ⟨by omega, ?_⟩
  rw [if_neg hb]
  refine ixT (sqT_of hq2) (v := .int a) rfl ?_
  refine ixT (sqT_of hq2) (v := .int b) rfl ?_
  refine ⟨p, a, b, rfl, by omega, fun h => absurd h hp0, fun _ => ⟨ground_sz hp, sz_mono sa.sz (by decide), fun w u H' s e1 e2 => ?_⟩⟩
  refine hq w H' s (by rw [e1]; exact Int.emod_nonneg _ hp0) (by rw [e1]; exact Int.emod_lt_of_pos _ (by omega)) ?_
  rw [prime_cop hp hp0 hb] at e2
  rw [e1, Int.mul_emod, emod_emod', ← Int.mul_emod, Int.mul_assoc, Int.mul_comm u b, Int.mul_emod, e2, ← Int.mul_emod]
  show a * 1 % p = a % p
  rw [Int.mul_one]

theorem ok_read_at {P : Program} {w : World} {K : PySem.W.Frag} {mg : Str → Option Value} {base : Heap} (T : Tx K mg) : Okk P w K mg base 6 "read_at" ["prime", "one"] (sp_read_at K) := by
  obtain ⟨fd_quotient, F_quotient, b_quotient, g_quotient, k_quotient⟩ := ok_quotient (P := P) (w := w) (base := base) T
  obtain ⟨fd_check_prime_ground, F_check_prime_ground, b_check_prime_ground, g_check_prime_ground, k_check_prime_ground⟩ := ok_check_prime_ground (P := P) (w := w) (base := base) T
  obtain ⟨fd_check_number, F_check_number, b_check_number, g_check_number, k_check_number⟩ := ok_check_number (P := P) (w := w) (base := base) T
  obtain ⟨fd, F⟩ := T.f_read_at
  refine ⟨fd, F.ok sc_read_at (fun vs H Q E h => len_read_at h) (fun cdv A outer s H vs Q E hr h => ⟨t_read_at K, PSs.nox ?_, pure_read_at K vs H Q E h⟩), F.bindsN (fun _ _ _ _ _ _ us hl => match us, hl with | [_, _], _ => rfl), T.g_read_at, F.kp⟩
  exact (pss_cons (ps_expr (pe_call F_check_prime_ground (hr.mono (by decide)) rfl g_check_prime_ground k_check_prime_ground b_check_prime_ground .nil pass0 (pa_cons (pv 0) pa_nil)))
      (pss_cons (ps_expr (pe_call F_check_number (hr.mono (by decide)) rfl g_check_number k_check_number b_check_number .nil pass0 (pa_cons pe_int (pa_cons (pv 1) pa_nil))))
      (pss_cons (ps_if (pt_cmpR op_eq (pe_op op_mod (pe_ix ix_lt (pv 1) pe_int (fun _ _ => rfl)) (pv 0)) pe_int (nomark _)) pss_never pss_nil)
      (pss_one (ps_ret (pe_call F_quotient (hr.mono (by decide)) rfl g_quotient k_quotient b_quotient .nil pass0 (pa_cons (pv 0) (pa_cons (pe_ix ix_lt (pv 1) pe_int (fun _ _ => rfl)) (pa_cons (pe_ix ix_lt (pv 1) pe_int (fun _ _ => rfl)) pa_nil)))))))))
/-! ### added -/
theorem sc_added : FnScope ["ground", "one", "other"] ["ground", "one", "other"] (defScope s_added) := ⟨rfl, rfl, rfl, by decide +kernel, rfl, by decide +kernel, by decide +kernel⟩
def sp_added (K : PySem.W.Frag) : Sp := fun vs H Q _ => ∃ (g : Int) (v w : V) (a b c d : Int), vs = [.int g, v, w] ∧ GroundV (.int g) ∧ NumR H g v a b ∧ NumR H g w c d ∧ S60 a ∧ S60 b ∧ S60 c ∧ S60 d ∧
  ∀ z x y H', Same H H' → NumR H' g z x y → (g = 0 → x * (b * d) = (a * d + c * b) * y ∧ x.natAbs ≤ (a * d + c * b).natAbs ∧ y.natAbs ≤ (b * d).natAbs) → (g ≠ 0 → x = (a + c) % g) → Q z H'
theorem len_added {K : PySem.W.Frag} {vs : List V} {H : Hp} {Q : VK} {E : XK} (h : sp_added K vs H Q E) : vs.length = ["ground", "one", "other"].length := by
  obtain ⟨_, _, _, _, _, _, _, rfl, _⟩ := h
  rfl
def t_added (K : PySem.W.Frag) : TS := (tSeq (tDrop (tCall (sp_check_two K) [] E0 (tCons (tVar 0) (tCons (tVar 1) (tCons (tVar 2) tNil)))))
  (tRet (tCall (sp_plus K) [] E0 (tCons (tVar 0) (tCons (tVar 1) (tCons (tVar 2) tNil))))))
theorem pure_added (K : PySem.W.Frag) (vs : List V) (H : Hp) (Q : VK) (E : XK) (h : sp_added K vs H Q E) : t_added K { nx := fun _ H' => Q .non H', rt := Q } (start ["ground", "one", "other"] vs) H := by
  obtain ⟨g, v, w, a, b, c, d, rfl, hg, n1, n2, sa, sb, sc, sd, hq⟩ := h
  unfold t_added
  walk_at "z"
  refine ⟨g, v, w, rfl, hg, n1.kn2, n1.numV sa sb, n2.kn2, n2.numV sc sd, ?_⟩
  walk_at "z"
  exact ⟨g, v, w, a, b, c, d, rfl, (ground_le hg).1, n1, n2, sa.sz, sb.sz, sc.sz, sd.sz, hq⟩
theorem ok_added {P : Program} {w : World} {K : PySem.W.Frag} {mg : Str → Option Value} {base : Heap} (T : Tx K mg) : Okk P w K mg base 7 "added" ["ground", "one", "other"] (sp_added K) := by
  obtain ⟨fd_plus, F_plus, b_plus, g_plus, k_plus⟩ := ok_plus (P := P) (w := w) (base := base) T
  obtain ⟨fd_check_two, F_check_two, b_check_two, g_check_two, k_check_two⟩ := ok_check_two (P := P) (w := w) (base := base) T
  obtain ⟨fd, F⟩ := T.f_added
  refine ⟨fd, F.ok sc_added (fun vs H Q E h => len_added h) (fun cdv A outer s H vs Q E hr h => ⟨t_added K, PSs.nox ?_, pure_added K vs H Q E h⟩), F.bindsN (fun _ _ _ _ _ _ us hl => match us, hl with | [_, _, _], _ => rfl), T.g_added, F.kp⟩
  exact (pss_cons (ps_expr (pe_call F_check_two (hr.mono (by decide)) rfl g_check_two k_check_two b_check_two .nil pass0 (pa_cons (pv 0) (pa_cons (pv 1) (pa_cons (pv 2) pa_nil)))))
      (pss_one (ps_ret (pe_call F_plus (hr.mono (by decide)) rfl g_plus k_plus b_plus .nil pass0 (pa_cons (pv 0) (pa_cons (pv 1) (pa_cons (pv 2) pa_nil)))))))
/-! ### subtracted -/
theorem sc_subtracted : FnScope ["ground", "one", "other"] ["ground", "one", "other"] (defScope s_subtracted) := ⟨rfl, rfl, rfl, by decide +kernel, rfl, by decide +kernel, by decide +kernel⟩
def sp_subtracted (K : PySem.W.Frag) : Sp := fun vs H Q _ => ∃ (g : Int) (v w : V) (a b c d : Int), vs = [.int g, v, w] ∧ GroundV (.int g) ∧ NumR H g v a b ∧ NumR H g w c d ∧ S60 a ∧ S60 b ∧ S60 c ∧ S60 d ∧
  ∀ z x y H', Same H H' → NumR H' g z x y → (g = 0 → x * (b * d) = (a * d - c * b) * y ∧ x.natAbs ≤ (a * d - c * b).natAbs ∧ y.natAbs ≤ (b * d).natAbs) → (g ≠ 0 → x = (a - c) % g) → Q z H'
theorem len_subtracted {K : PySem.W.Frag} {vs : List V} {H : Hp} {Q : VK} {E : XK} (h : sp_subtracted K vs H Q E) : vs.length = ["ground", "one", "other"].length := by
  obtain ⟨_, _, _, _, _, _, _, rfl, _⟩ := h
  rfl
def t_subtracted (K : PySem.W.Frag) : TS := (tSeq (tDrop (tCall (sp_check_two K) [] E0 (tCons (tVar 0) (tCons (tVar 1) (tCons (tVar 2) tNil)))))
  (tRet (tCall (sp_minus K) [] E0 (tCons (tVar 0) (tCons (tVar 1) (tCons (tVar 2) tNil))))))
theorem pure_subtracted (K : PySem.W.Frag) (vs : List V) (H : Hp) (Q : VK) (E : XK) (h : sp_subtracted K vs H Q E) : t_subtracted K { nx := fun _ H' => Q .non H', rt := Q } (start ["ground", "one", "other"] vs) H := by
  obtain ⟨g, v, w, a, b, c, d, rfl, hg, n1, n2, sa, sb, sc, sd, hq⟩ := h
  unfold t_subtracted
  walk_at "z"
  refine ⟨g, v, w, rfl, hg, n1.kn2, n1.numV sa sb, n2.kn2, n2.numV sc sd, ?_⟩
  walk_at "z"
  exact ⟨g, v, w, a, b, c, d, rfl, (ground_le hg).1, n1, n2, sz_mono (ground_sz hg) (by decide), sa.sz, sb.sz, sc.sz, sd.sz, hq⟩
theorem ok_subtracted {P : Program} {w : World} {K : PySem.W.Frag} {mg : Str → Option Value} {base : Heap} (T : Tx K mg) : Okk P w K mg base 7 "subtracted" ["ground", "one", "other"] (sp_subtracted K) := by
  obtain ⟨fd_minus, F_minus, b_minus, g_minus, k_minus⟩ := ok_minus (P := P) (w := w) (base := base) T
  obtain ⟨fd_check_two, F_check_two, b_check_two, g_check_two, k_check_two⟩ := ok_check_two (P := P) (w := w) (base := base) T
  obtain ⟨fd, F⟩ := T.f_subtracted
  refine ⟨fd, F.ok sc_subtracted (fun vs H Q E h => len_subtracted h) (fun cdv A outer s H vs Q E hr h => ⟨t_subtracted K, PSs.nox ?_, pure_subtracted K vs H Q E h⟩), F.bindsN (fun _ _ _ _ _ _ us hl => match us, hl with | [_, _, _], _ => rfl), T.g_subtracted, F.kp⟩
  exact (pss_cons (ps_expr (pe_call F_check_two (hr.mono (by decide)) rfl g_check_two k_check_two b_check_two .nil pass0 (pa_cons (pv 0) (pa_cons (pv 1) (pa_cons (pv 2) pa_nil)))))
      (pss_one (ps_ret (pe_call F_minus (hr.mono (by decide)) rfl g_minus k_minus b_minus .nil pass0 (pa_cons (pv 0) (pa_cons (pv 1) (pa_cons (pv 2) pa_nil)))))))
/-! ### multiplied -/
theorem sc_multiplied : FnScope ["ground", "one", "other"] ["ground", "one", "other"] (defScope s_multiplied) := ⟨rfl, rfl, rfl, by decide +kernel, rfl, by decide +kernel, by decide +kernel⟩
def sp_multiplied (K : PySem.W.Frag) : Sp := fun vs H Q _ => ∃ (g : Int) (v w : V) (a b c d : Int), vs = [.int g, v, w] ∧ GroundV (.int g) ∧ NumR H g v a b ∧ NumR H g w c d ∧ S60 a ∧ S60 b ∧ S60 c ∧ S60 d ∧
  ∀ z x y H', Same H H' → NumR H' g z x y → (g = 0 → x * (b * d) = (a * c) * y ∧ x.natAbs ≤ (a * c).natAbs ∧ y.natAbs ≤ (b * d).natAbs) → (g ≠ 0 → x = (a * c) % g) → Q z H'
theorem len_multiplied {K : PySem.W.Frag} {vs : List V} {H : Hp} {Q : VK} {E : XK} (h : sp_multiplied K vs H Q E) : vs.length = ["ground", "one", "other"].length := by
  obtain ⟨_, _, _, _, _, _, _, rfl, _⟩ := h
  rfl
def t_multiplied (K : PySem.W.Frag) : TS := (tSeq (tDrop (tCall (sp_check_two K) [] E0 (tCons (tVar 0) (tCons (tVar 1) (tCons (tVar 2) tNil)))))
  (tRet (tCall (sp_times K) [] E0 (tCons (tVar 0) (tCons (tVar 1) (tCons (tVar 2) tNil))))))
theorem pure_multiplied (K : PySem.W.Frag) (vs : List V) (H : Hp) (Q : VK) (E : XK) (h : sp_multiplied K vs H Q E) : t_multiplied K { nx := fun _ H' => Q .non H', rt := Q } (start ["ground", "one", "other"] vs) H := by
  obtain ⟨g, v, w, a, b, c, d, rfl, hg, n1, n2, sa, sb, sc, sd, hq⟩ := h
  unfold t_multiplied
  walk_at "z"
  refine ⟨g, v, w, rfl, hg, n1.kn2, n1.numV sa sb, n2.kn2, n2.numV sc sd, ?_⟩
  walk_at "z"
  exact ⟨g, v, w, a, b, c, d, rfl, (ground_le hg).1, n1, n2, sa.sz, sb.sz, sc.sz, sd.sz, hq⟩
theorem ok_multiplied {P : Program} {w : World} {K : PySem.W.Frag} {mg : Str → Option Value} {base : Heap} (T : Tx K mg) : Okk P w K mg base 7 "multiplied" ["ground", "one", "other"] (sp_multiplied K) := by
  obtain ⟨fd_times, F_times, b_times, g_times, k_times⟩ := ok_times (P := P) (w := w) (base := base) T
  obtain ⟨fd_check_two, F_check_two, b_check_two, g_check_two, k_check_two⟩ := ok_check_two (P := P) (w := w) (base := base) T
  obtain ⟨fd, F⟩ := T.f_multiplied
  refine ⟨fd, F.ok sc_multiplied (fun vs H Q E h => len_multiplied h) (fun cdv A outer s H vs Q E hr h => ⟨t_multiplied K, PSs.nox ?_, pure_multiplied K vs H Q E h⟩), F.bindsN (fun _ _ _ _ _ _ us hl => match us, hl with | [_, _, _], _ => rfl), T.g_multiplied, F.kp⟩
  exact (pss_cons (ps_expr (pe_call F_check_two (hr.mono (by decide)) rfl g_check_two k_check_two b_check_two .nil pass0 (pa_cons (pv 0) (pa_cons (pv 1) (pa_cons (pv 2) pa_nil)))))
      (pss_one (ps_ret (pe_call F_times (hr.mono (by decide)) rfl g_times k_times b_times .nil pass0 (pa_cons (pv 0) (pa_cons (pv 1) (pa_cons (pv 2) pa_nil)))))))
/-! ### divided -/
theorem sc_divided : FnScope ["ground", "one", "other"] ["ground", "one", "other"] (defScope s_divided) := ⟨rfl, rfl, rfl, by decide +kernel, rfl, by decide +kernel, by decide +kernel⟩
def sp_divided (K : PySem.W.Frag) : Sp := fun vs H Q _ => ∃ (g : Int) (v w : V) (a b c d : Int), vs = [.int g, v, w] ∧ GroundV (.int g) ∧ NumR H g v a b ∧ NumR H g w c d ∧ S60 a ∧ S60 b ∧ S60 c ∧ S60 d ∧ c ≠ 0 ∧
  ∀ z x y H', Same H H' → NumR H' g z x y → (g = 0 → x * (b * c) = (a * d) * y ∧ x.natAbs ≤ (a * d).natAbs ∧ y.natAbs ≤ (b * c).natAbs) → (g ≠ 0 → (x * c) % g = a) → Q z H'
theorem len_divided {K : PySem.W.Frag} {vs : List V} {H : Hp} {Q : VK} {E : XK} (h : sp_divided K vs H Q E) : vs.length = ["ground", "one", "other"].length := by
  obtain ⟨_, _, _, _, _, _, _, rfl, _⟩ := h
  rfl
def t_divided (K : PySem.W.Frag) : TS := (tSeq (tDrop (tCall (sp_check_two K) [] E0 (tCons (tVar 0) (tCons (tVar 1) (tCons (tVar 2) tNil)))))
  (tSeq (tIfS (tB (tCall (sp_is_zero K) [] E0 (tCons (tVar 0) (tCons (tVar 2) tNil)))) tNever tNext)
  (tRet (tCall (sp_over K) [] E0 (tCons (tVar 0) (tCons (tVar 1) (tCons (tVar 2) tNil)))))))
theorem pure_divided (K : PySem.W.Frag) (vs : List V) (H : Hp) (Q : VK) (E : XK) (h : sp_divided K vs H Q E) : t_divided K { nx := fun _ H' => Q .non H', rt := Q } (start ["ground", "one", "other"] vs) H := by
  obtain ⟨g, v, w, a, b, c, d, rfl, hg, n1, n2, sa, sb, sc, sd, hc, hq⟩ := h
  unfold t_divided
  walk_at "z"
  refine ⟨g, v, w, rfl, hg, n1.kn2, n1.numV sa sb, n2.kn2, n2.numV sc sd, ?_⟩
  walk_at "z"
  refine ⟨g, w, c, d, rfl, n2, ?_⟩
  rw [decide_eq_false hc]
  walk_at "z"
  exact ⟨g, v, w, a, b, c, d, rfl, (ground_le hg).1, n1, n2, hc, ground_sz hg, sa.sz, sb.sz, sc.sz, sd.sz, ground_cop hg n2 hc, hq⟩
theorem ok_divided {P : Program} {w : World} {K : PySem.W.Frag} {mg : Str → Option Value} {base : Heap} (T : Tx K mg) : Okk P w K mg base 7 "divided" ["ground", "one", "other"] (sp_divided K) := by
  obtain ⟨fd_is_zero, F_is_zero, b_is_zero, g_is_zero, k_is_zero⟩ := ok_is_zero (P := P) (w := w) (base := base) T
  obtain ⟨fd_over, F_over, b_over, g_over, k_over⟩ := ok_over (P := P) (w := w) (base := base) T
  obtain ⟨fd_check_two, F_check_two, b_check_two, g_check_two, k_check_two⟩ := ok_check_two (P := P) (w := w) (base := base) T
  obtain ⟨fd, F⟩ := T.f_divided
  refine ⟨fd, F.ok sc_divided (fun vs H Q E h => len_divided h) (fun cdv A outer s H vs Q E hr h => ⟨t_divided K, PSs.nox ?_, pure_divided K vs H Q E h⟩), F.bindsN (fun _ _ _ _ _ _ us hl => match us, hl with | [_, _, _], _ => rfl), T.g_divided, F.kp⟩
  exact (pss_cons (ps_expr (pe_call F_check_two (hr.mono (by decide)) rfl g_check_two k_check_two b_check_two .nil pass0 (pa_cons (pv 0) (pa_cons (pv 1) (pa_cons (pv 2) pa_nil)))))
      (pss_cons (ps_if (pt_val (pe_call F_is_zero (hr.mono (by decide)) rfl g_is_zero k_is_zero b_is_zero .nil pass0 (pa_cons (pv 0) (pa_cons (pv 2) pa_nil)))) pss_never pss_nil)
      (pss_one (ps_ret (pe_call F_over (hr.mono (by decide)) rfl g_over k_over b_over .nil pass0 (pa_cons (pv 0) (pa_cons (pv 1) (pa_cons (pv 2) pa_nil))))))))
/-! dice -/
def Dice (H : Hp) (d : Addr) : Prop := ∃ a b c : Int, H d = some (.lst [.int a, .int b, .int c])
theorem Keep.refl (d : Addr) (H : Hp) : Keep d H H := fun _ _ _ h => h
theorem Keep.trans {d : Addr} {H H1 H2 : Hp} (a : Keep d H H1) (b : Keep d H1 H2) : Keep d H H2 := fun c o n h => b c o n (a c o n h)
theorem Keep.put {d : Addr} {H H1 : Hp} {o : HO} (a : Keep d H H1) : Keep d H (L2.upd H1 d o) := fun b u n h => by rw [upd_ne n]; exact a b u n h
theorem Keep.same {d : Addr} {H H1 H2 : Hp} (a : Keep d H H1) (b : Same H1 H2) : Keep d H H2 := fun c o n h => b c o (a c o n h)
theorem Dice.same {d : Addr} {H H1 : Hp} (a : Dice H d) (b : Same H H1) : Dice H1 d := by
  obtain ⟨x, y, z, h⟩ := a
  exact ⟨x, y, z, b _ _ h⟩
theorem Keep.new {d p : Addr} {H H1 : Hp} {o : HO} (a : Keep d H H1) (hp : H1 p = none) : Keep d H (L2.upd H1 p o) := a.same (same_upd hp)
/-- a list of dice made on the way is nothing of the old heap -/
theorem Keep.out {d : Addr} {H0 H H1 : Hp} (s : Same H0 H) (n : H0 d = none) (a : Keep d H H1) : Same H0 H1 := fun b o h => a b o (ne_of_none h n) (s b o h)
theorem cpow {i j : Int} (h : 0 ≤ j ∧ j ≤ 1000000 ∧ i.natAbs < 2 ^ 64) : CPow i j := h
theorem divM {i m : Int} (h : 0 < m) (h2 : m < 2 ^ 250) : CDivW i m := wide_div (b := 250) h (by omega) (by decide) (by decide)
theorem atI_nat {α : Type} {xs : List α} {i : Nat} {x : α} (h : xs[i]? = some x) : atI xs (i : Int) = some x := by
  have hl := (List.getElem?_eq_some_iff.mp h).1
  unfold atI ixN
  rw [if_pos (by omega), if_pos (by omega)]
  exact h
/-! ### _law_dice -/
theorem sc__law_dice : FnScope ["script", "spot", "cell", "left"] ["script", "spot"] (defScope s__law_dice) := ⟨rfl, rfl, rfl, by decide +kernel, rfl, by decide +kernel, by decide +kernel⟩
def sp__law_dice (K : PySem.W.Frag) : Sp := fun vs H Q _ => ∃ (a : Addr) (ns : List Int) (spot : Nat), vs = [.ref a, .int (spot : Int)] ∧ SqL K H a (ns.map V.int) ∧
  ∀ D H', H D = none → Same H H' → Dice H' D → Q (.ref D) H'
theorem len__law_dice {K : PySem.W.Frag} {vs : List V} {H : Hp} {Q : VK} {E : XK} (h : sp__law_dice K vs H Q E) : vs.length = ["script", "spot"].length := by
  obtain ⟨_, _, _, rfl, _⟩ := h
  rfl
def t__law_dice (K : PySem.W.Frag) : TS := (tSeq (tAsg (tIf (tTest (tOp rLtI (tVar 1) (tCB (rLenU K) (tCons (tVar 0) tNil)))) (tCB (rInt1) (tCons (tOp (rIxA K) (tVar 0) (tVar 1)) tNil)) (tOp rAdd (tOp rMulU (tC (.int 97)) (tVar 1)) (tC (.int 59)))) (gName 2))
  (tSeq (tAsg (tOp rModU (tCB (rMax2) (tCons (tC (.int 0)) (tCons (tOp rSub (tCB (rAbs) (tCons (tVar 2) tNil)) (tOp rPowU (tC (.int 10)) (tC (.int 16)))) tNil))) (tOp rMulU (tOp rPowU (tC (.int 10)) (tC (.int 58))) (tOp rPowU (tC (.int 10)) (tC (.int 60))))) (gName 3))
  (tRet (tLst (tCons (tVar 3) (tCons (tOp rAdd (tOp rAdd (tOp rAdd (tOp rMulU (tOp rModU (tCB (rAbs) (tCons (tVar 2) tNil)) (tC (.int 1152921504606846733))) (tC (.int 83))) (tOp rMulU (tC (.int 1033)) (tVar 1))) (tOp rMulU (tC (.int 61)) (tCB (rInt1) (tCons (tOp rLtI (tVar 2) (tC (.int 0))) tNil)))) (tC (.int 29))) (tCons (tC (.int 0)) tNil)))))))
theorem big_mul : CMul (10 ^ (58 : Int).toNat) (10 ^ (60 : Int).toNat) ∨ CMulW (10 ^ (58 : Int).toNat) (10 ^ (60 : Int).toNat) :=
  .inr (wide_mul (a := 200) (b := 210) (by decide) (by decide) (by decide) (by decide) (by decide))
theorem pure__law_dice (K : PySem.W.Frag) (vs : List V) (H : Hp) (Q : VK) (E : XK) (h : sp__law_dice K vs H Q E) : t__law_dice K { nx := fun _ H' => Q .non H', rt := Q } (start ["script", "spot", "cell", "left"] vs) H := by
  obtain ⟨a, ns, spot, rfl, hS, hq⟩ := h
  unfold t__law_dice
  walk_at "z"
  refine lenL hS ?_
  walk_at "z"
  by_cases hs : (spot : Int) < ((ns.map V.int).length : Int)
  · rw [if_pos hs]
    have hs2 : spot < ns.length := by simpa using hs
    refine ixL hS (v := .int ns[spot]) (atI_nat (by simp [hs2])) ?_
    walk_at "z"
    refine ⟨cpow (by decide), cpow (by decide), cpow (by decide), big_mul, by decide, by decide, mulR (by decide), mulS (by decide), mulS (by decide), by decide, fun p hp => ?_⟩
    exact hq p _ hp (same_upd hp) ⟨_, _, _, upd_same⟩
  · rw [if_neg hs]
    refine ⟨mulS (by decide), cpow (by decide), cpow (by decide), cpow (by decide), big_mul, by decide, by decide, mulR (by decide), mulS (by decide), mulS (by decide), by decide, fun p hp => ?_⟩
    exact hq p _ hp (same_upd hp) ⟨_, _, _, upd_same⟩
theorem ok__law_dice {P : Program} {w : World} {K : PySem.W.Frag} {mg : Str → Option Value} {base : Heap} (T : Tx K mg) : Okk P w K mg base 1 "_law_dice" ["script", "spot"] (sp__law_dice K) := by
  have hf_abs := T.n_abs
  have hf_int := T.n_int
  have hf_len := T.n_len
  have hf_max := T.n_max
  obtain ⟨fd, F⟩ := T.f__law_dice
  refine ⟨fd, F.ok sc__law_dice (fun vs H Q E h => len__law_dice h) (fun cdv A outer s H vs Q E hr h => ⟨t__law_dice K, PSs.nox ?_, pure__law_dice K vs H Q E h⟩), F.bindsN (fun _ _ _ _ _ _ us hl => match us, hl with | [_, _], _ => rfl), T.g__law_dice, F.kp⟩
  exact (pss_cons (ps_set (i := 2) sc__law_dice.nd rfl (by first | exact Or.inl rfl | exact Or.inr rfl) (pe_ifExp (pt_cmpR op_lt (pv 1) (pe_callB call_len_seq (by rfl) hf_len (by decide +kernel) (pa_cons (pv 0) pa_nil)) (nomark _)) (pe_callTy call_int1 (by rfl) hf_int (by decide +kernel) (pa_cons (pe_ix ix_lt (pv 0) (pv 1) (fun _ _ => rfl)) pa_nil)) (pe_op op_add (pe_op op_mulU pe_int (pv 1)) pe_int)))
      (pss_cons (ps_set (i := 3) sc__law_dice.nd rfl (by first | exact Or.inl rfl | exact Or.inr rfl) (pe_op op_mod (pe_callB (call_max2 rfl) (by rfl) hf_max (by decide +kernel) (pa_cons pe_int (pa_cons (pe_op op_sub (pe_callB call_abs (by rfl) hf_abs (by decide +kernel) (pa_cons (pv 2) pa_nil)) (pe_op op_pow pe_int pe_int)) pa_nil))) (pe_op op_mulU (pe_op op_pow pe_int pe_int) (pe_op op_pow pe_int pe_int))))
      (pss_one (ps_ret (pe_lst (pa_cons (pv 3) (pa_cons (pe_op op_add (pe_op op_add (pe_op op_add (pe_op op_mulU (pe_op op_mod (pe_callB call_abs (by rfl) hf_abs (by decide +kernel) (pa_cons (pv 2) pa_nil)) pe_int) pe_int) (pe_op op_mulU pe_int (pv 1))) (pe_op op_mulU pe_int (pe_callTy call_int1 (by rfl) hf_int (by decide +kernel) (pa_cons (pe_cmpR op_lt (pv 2) pe_int (nomark _)) pa_nil)))) pe_int) (pa_cons pe_int pa_nil))))))))
/-! ### _law_roll -/
theorem sc__law_roll : FnScope ["dice", "most", "found", "one", "two"] ["dice", "most"] (defScope s__law_roll) := ⟨rfl, rfl, rfl, by decide +kernel, rfl, by decide +kernel, by decide +kernel⟩
def sp__law_roll (K : PySem.W.Frag) : Sp := fun vs H Q _ => ∃ (d : Addr) (most : Int), vs = [.ref d, .int most] ∧ Dice H d ∧ 0 < most ∧ most < 2 ^ 250 ∧ ∀ r H', 0 ≤ r → r < most → Keep d H H' → Dice H' d → Q (.int r) H'
theorem len__law_roll {K : PySem.W.Frag} {vs : List V} {H : Hp} {Q : VK} {E : XK} (h : sp__law_roll K vs H Q E) : vs.length = ["dice", "most"].length := by
  obtain ⟨_, _, rfl, _⟩ := h
  rfl
def t__law_roll (K : PySem.W.Frag) : TS := (tSeq (tIfS (tTest (tOp rGtI (tOp (rIxA K) (tVar 0) (tC (.int 0))) (tC (.int 0)))) (tSeq (tAsg (tOp rModU (tCB (rInt1) (tCons (tOp (rIxA K) (tVar 0) (tC (.int 0))) tNil)) (tVar 1)) (gName 2))
  (tSeq (tAsg (tOp rDivU (tOp (rIxA K) (tVar 0) (tC (.int 0))) (tVar 1)) (gSub (tVar 0) (tC (.int 0)) rSetL))
  (tRet (tVar 2)))) tNext)
  (tSeq (tAsg (tOp rAdd (tOp (rIxA K) (tVar 0) (tC (.int 2))) (tC (.int 1))) (gSub (tVar 0) (tC (.int 2)) rSetL))
  (tSeq (tAsg (tOp rModU (tCB (rInt1) (tCons (tOp rAdd (tOp (rIxA K) (tVar 0) (tC (.int 1))) (tOp rMulU (tC (.int 86028121)) (tOp (rIxA K) (tVar 0) (tC (.int 2))))) tNil)) (tC (.int 2305843009213693561))) (gName 3))
  (tSeq (tAsg (tOp rModU (tCB (rInt1) (tCons (tOp rAdd (tOp rMulU (tVar 3) (tVar 3)) (tOp rMulU (tC (.int 103)) (tOp (rIxA K) (tVar 0) (tC (.int 2))))) tNil)) (tC (.int 2305843009213693669))) (gName 4))
  (tRet (tOp rModU (tCB (rInt1) (tCons (tOp rDivU (tOp rAdd (tOp rMulU (tVar 4) (tC (.int 7654321))) (tVar 3)) (tC (.int 65557))) tNil)) (tVar 1)))))))
theorem pure__law_roll (K : PySem.W.Frag) (vs : List V) (H : Hp) (Q : VK) (E : XK) (h : sp__law_roll K vs H Q E) : t__law_roll K { nx := fun _ H' => Q .non H', rt := Q } (start ["dice", "most", "found", "one", "two"] vs) H := by
  obtain ⟨d, most, rfl, ⟨a, b, c, hD⟩, h0, h1, hq⟩ := h
  unfold t__law_roll
  walk_at "z"
  refine ixL (sqL_of hD) rfl ?_
  walk_at "z"
  by_cases ha : 0 < a
  · rw [if_pos ha]
    refine ixL (sqL_of hD) rfl ?_
    walk_at "z"
    refine ⟨h0, ixL (sqL_of hD) rfl ?_⟩
    walk_at "z"
    refine ⟨divM h0 h1, setL hD rfl ?_⟩
    walk_at "z"
    exact hq _ _ (Int.emod_nonneg _ (by omega)) (Int.emod_lt_of_pos _ h0) (Keep.refl d H).put ⟨_, _, _, upd_same⟩
  · rw [if_neg ha]
    refine ixL (sqL_of hD) rfl ?_
    walk_at "z"
    refine setL hD rfl ?_
    walk_at "z"
    refine ixL (sqL_of upd_same) rfl ?_
    walk_at "z"
    refine ixL (sqL_of upd_same) rfl ?_
    walk_at "z"
    have e := Int.emod_nonneg (b + 86028121 * (c + 1)) (show (2305843009213693561 : Int) ≠ 0 by decide)
    have e2 := Int.emod_lt_of_pos (b + 86028121 * (c + 1)) (show (0 : Int) < 2305843009213693561 by decide)
    refine ⟨mulS (by decide), by decide, mulS (by omega), ixL (sqL_of upd_same) rfl ?_⟩
    walk_at "z"
    refine ⟨mulS (by decide), by decide, mulR (by decide), divS (by decide) (by decide), h0, ?_⟩
    exact hq _ _ (Int.emod_nonneg _ (by omega)) (Int.emod_lt_of_pos _ h0) (Keep.refl d H).put ⟨_, _, _, upd_same⟩
theorem ok__law_roll {P : Program} {w : World} {K : PySem.W.Frag} {mg : Str → Option Value} {base : Heap} (T : Tx K mg) : Okk P w K mg base 1 "_law_roll" ["dice", "most"] (sp__law_roll K) := by
  have hf_int := T.n_int
  obtain ⟨fd, F⟩ := T.f__law_roll
  refine ⟨fd, F.ok sc__law_roll (fun vs H Q E h => len__law_roll h) (fun cdv A outer s H vs Q E hr h => ⟨t__law_roll K, PSs.nox ?_, pure__law_roll K vs H Q E h⟩), F.bindsN (fun _ _ _ _ _ _ us hl => match us, hl with | [_, _], _ => rfl), T.g__law_roll, F.kp⟩
  exact (pss_cons (ps_if (pt_cmpR op_gt (pe_ix ix_lt (pv 0) pe_int (fun _ _ => rfl)) pe_int (nomark _)) (pss_cons (ps_set (i := 2) sc__law_roll.nd rfl (by first | exact Or.inl rfl | exact Or.inr rfl) (pe_op op_mod (pe_callTy call_int1 (by rfl) hf_int (by decide +kernel) (pa_cons (pe_ix ix_lt (pv 0) pe_int (fun _ _ => rfl)) pa_nil)) (pv 1)))
      (pss_cons (ps_asg (pe_op op_fdivW (pe_ix ix_lt (pv 0) pe_int (fun _ _ => rfl)) (pv 1)) (pg_sub (pv 0) pe_int set_list))
      (pss_one (ps_ret (pv 2))))) pss_nil)
      (pss_cons (ps_asg (pe_op op_add (pe_ix ix_lt (pv 0) pe_int (fun _ _ => rfl)) pe_int) (pg_sub (pv 0) pe_int set_list))
      (pss_cons (ps_set (i := 3) sc__law_roll.nd rfl (by first | exact Or.inl rfl | exact Or.inr rfl) (pe_op op_mod (pe_callTy call_int1 (by rfl) hf_int (by decide +kernel) (pa_cons (pe_op op_add (pe_ix ix_lt (pv 0) pe_int (fun _ _ => rfl)) (pe_op op_mulU pe_int (pe_ix ix_lt (pv 0) pe_int (fun _ _ => rfl)))) pa_nil)) pe_int))
      (pss_cons (ps_set (i := 4) sc__law_roll.nd rfl (by first | exact Or.inl rfl | exact Or.inr rfl) (pe_op op_mod (pe_callTy call_int1 (by rfl) hf_int (by decide +kernel) (pa_cons (pe_op op_add (pe_op op_mulU (pv 3) (pv 3)) (pe_op op_mulU pe_int (pe_ix ix_lt (pv 0) pe_int (fun _ _ => rfl)))) pa_nil)) pe_int))
      (pss_one (ps_ret (pe_op op_mod (pe_callTy call_int1 (by rfl) hf_int (by decide +kernel) (pa_cons (pe_op op_fdivW (pe_op op_add (pe_op op_mulU (pv 4) pe_int) (pv 3)) pe_int) pa_nil)) (pv 1))))))))
/-! ### _law_gcd -/
theorem sc__law_gcd : FnScope ["one", "other"] ["one", "other"] (defScope s__law_gcd) := ⟨rfl, rfl, rfl, by decide +kernel, rfl, by decide +kernel, by decide +kernel⟩
def sp__law_gcd (K : PySem.W.Frag) : Sp := fun vs H Q _ => ∃ a b : Int, vs = [.int a, .int b] ∧ Q (.int ((Nat.gcd a.natAbs b.natAbs : Nat) : Int)) H
theorem len__law_gcd {K : PySem.W.Frag} {vs : List V} {H : Hp} {Q : VK} {E : XK} (h : sp__law_gcd K vs H Q E) : vs.length = ["one", "other"].length := by
  obtain ⟨_, _, rfl, _⟩ := h
  rfl
def t__law_gcd_w1_c (K : PySem.W.Frag) : TT := (tTest (tOp rGtI (tVar 1) (tC (.int 0))))
def t__law_gcd_w1_b (K : PySem.W.Frag) : TS := (tPar 0 1 (tCons (tVar 1) (tCons (tOp rModU (tCB (rInt1) (tCons (tVar 0) tNil)) (tVar 1)) tNil)))
def t__law_gcd (K : PySem.W.Frag) : TS := (tSeq (tPar 0 1 (tCons (tCB (rAbs) (tCons (tVar 0) tNil)) (tCons (tCB (rAbs) (tCons (tVar 1) tNil)) tNil)))
  (tSeq (tWhile (t__law_gcd_w1_c K) (t__law_gcd_w1_b K))
  (tRet (tVar 0))))
theorem abs_nat (a : Int) : (if a < 0 then -a else a) = ((a.natAbs : Nat) : Int) := by split <;> omega
theorem pure__law_gcd (K : PySem.W.Frag) (vs : List V) (H : Hp) (Q : VK) (E : XK) (h : sp__law_gcd K vs H Q E) : t__law_gcd K { nx := fun _ H' => Q .non H', rt := Q } (start ["one", "other"] vs) H := by
  obtain ⟨a, b, rfl, hq⟩ := h
  unfold t__law_gcd
  walk_at "z"
  rw [abs_nat, abs_nat]
  refine while_of (fun μ σ H' => ∃ x y : Nat, σ = [some (.int (x : Int)), some (.int (y : Int))] ∧ H' = H ∧ Nat.gcd x y = Nat.gcd a.natAbs b.natAbs ∧ μ = y) b.natAbs ⟨_, _, rfl, rfl, rfl, rfl⟩ ?_
  rintro μ σ H' ⟨x, y, rfl, rfl, hg, rfl⟩ N hN hN2
  unfold t__law_gcd_w1_c t__law_gcd_w1_b
  walk_at "z"
  by_cases h0 : 0 < μ
  · rw [if_pos (by omega)]
    refine ⟨N, hN2, ?_⟩
    walk_at "z"
    refine ⟨by omega, hN (x % μ) _ _ (Nat.mod_lt _ h0) ⟨μ, x % μ, by rw [Int.natCast_emod], rfl, ?_, rfl⟩⟩
    rw [← hg, Nat.gcd_comm μ (x % μ), ← Nat.gcd_rec μ x, Nat.gcd_comm]
  · rw [if_neg (by omega)]
    obtain rfl : μ = 0 := by omega
    rw [Nat.gcd_zero_right] at hg
    subst hg
    exact hq
theorem ok__law_gcd {P : Program} {w : World} {K : PySem.W.Frag} {mg : Str → Option Value} {base : Heap} (T : Tx K mg) : Okk P w K mg base 1 "_law_gcd" ["one", "other"] (sp__law_gcd K) := by
  have hf_abs := T.n_abs
  have hf_int := T.n_int
  obtain ⟨fd, F⟩ := T.f__law_gcd
  refine ⟨fd, F.ok sc__law_gcd (fun vs H Q E h => len__law_gcd h) (fun cdv A outer s H vs Q E hr h => ⟨t__law_gcd K, PSs.nox ?_, pure__law_gcd K vs H Q E h⟩), F.bindsN (fun _ _ _ _ _ _ us hl => match us, hl with | [_, _], _ => rfl), T.g__law_gcd, F.kp⟩
  exact (pss_cons (ps_par (i := 0) (j := 1) rfl sc__law_gcd.nd rfl rfl (by decide) rfl rfl (pa_cons (pe_callB call_abs (by rfl) hf_abs (by decide +kernel) (pa_cons (pv 0) pa_nil)) (pa_cons (pe_callB call_abs (by rfl) hf_abs (by decide +kernel) (pa_cons (pv 1) pa_nil)) pa_nil)) (by rfl))
      (pss_cons (ps_while PassesOwn.never (pt_cmpR op_gt (pv 1) pe_int (nomark _)) (pss_one (ps_par (i := 0) (j := 1) rfl sc__law_gcd.nd rfl rfl (by decide) rfl rfl (pa_cons (pv 1) (pa_cons (pe_op op_mod (pe_callTy call_int1 (by rfl) hf_int (by decide +kernel) (pa_cons (pv 0) pa_nil)) (pv 1)) pa_nil)) (by rfl))))
      (pss_one (ps_ret (pv 0)))))
/-! ### _law_back -/
theorem sc__law_back : FnScope ["prime", "number", "one", "other", "low", "high", "part"] ["prime", "number"] (defScope s__law_back) := ⟨rfl, rfl, rfl, by decide +kernel, rfl, by decide +kernel, by decide +kernel⟩
def sp__law_back (K : PySem.W.Frag) : Sp := fun vs H Q _ => ∃ p n : Int, vs = [.int p, .int n] ∧ 0 < n ∧ n < p ∧ p ≤ 9999 ∧ Nat.gcd n.natAbs p.natAbs = 1 ∧ ∀ w H', Same H H' → 0 ≤ w → w < p → (w * n) % p = 1 % p → Q (.int w) H'
theorem len__law_back {K : PySem.W.Frag} {vs : List V} {H : Hp} {Q : VK} {E : XK} (h : sp__law_back K vs H Q E) : vs.length = ["prime", "number"].length := by
  obtain ⟨_, _, rfl, _⟩ := h
  rfl
def t__law_back_w1_c (K : PySem.W.Frag) : TT := (tTest (tOp rGtI (tVar 3) (tC (.int 1))))
def t__law_back_w1_b (K : PySem.W.Frag) : TS := (tSeq (tAsg (tOp rDivU (tVar 2) (tVar 3)) (gName 6))
  (tSeq (tPar 2 3 (tCons (tVar 3) (tCons (tOp rSub (tVar 2) (tOp rMulU (tVar 6) (tVar 3))) tNil)))
  (tPar 4 5 (tCons (tVar 5) (tCons (tOp rSub (tVar 4) (tOp rMulU (tVar 6) (tVar 5))) tNil)))))
def t__law_back (K : PySem.W.Frag) : TS := (tSeq (tAsg (tTup (tCons (tVar 0) (tCons (tVar 1) (tCons (tC (.int 0)) (tCons (tC (.int 1)) tNil))))) (gTup K 4 (gCons (gName 2) (gCons (gName 3) (gCons (gName 4) (gCons (gName 5) gNil))))))
  (tSeq (tWhile (t__law_back_w1_c K) (t__law_back_w1_b K))
  (tRet (tOp rModU (tCB (rInt1) (tCons (tVar 5) tNil)) (tVar 0)))))
theorem pure__law_back (K : PySem.W.Frag) (vs : List V) (H : Hp) (Q : VK) (E : XK) (h : sp__law_back K vs H Q E) : t__law_back K { nx := fun _ H' => Q .non H', rt := Q } (start ["prime", "number", "one", "other", "low", "high", "part"] vs) H := by
  obtain ⟨p, n, rfl, n0, np, p9, hg, hq⟩ := h
  unfold t__law_back
  walk_at "z"
  refine ⟨by decide, fun q hq0 => ⟨_, sqT_of upd_same, rfl, ?_⟩⟩
  walk_at "z"
  have sH := same_upd (o := .tup [V.int p, V.int n, V.int 0, V.int 1]) hq0
  revert sH
  generalize upd H q (.tup [V.int p, V.int n, V.int 0, V.int 1]) = H0
  intro sH
  refine while_of (fun μ σ H' => ∃ (r t lo hi : Int) (o : Option V), σ = [some (.int p), some (.int n), some (.int r), some (.int t), some (.int lo), some (.int hi), o] ∧ H' = H0 ∧ 0 ≤ t ∧ t < r ∧ 2 ≤ r ∧ r ≤ 9999 ∧ Nat.gcd r.natAbs t.natAbs = 1 ∧ p ∣ n * lo - r ∧ p ∣ n * hi - t ∧ μ = t.toNat) n.toNat ⟨p, n, 0, 1, _, rfl, rfl, by omega, np, by omega, p9, by rw [Nat.gcd_comm]; exact hg, ⟨-1, by rw [Int.mul_zero, Int.mul_neg, Int.mul_one]; omega⟩, ⟨0, by rw [Int.mul_one, Int.mul_zero]; omega⟩, rfl⟩ ?_
  rintro μ σ H' ⟨r, t, lo, hi, o, rfl, rfl, t0, tr, r2, r9, hgc, d1, d2, rfl⟩ N hN hN2
  unfold t__law_back_w1_c t__law_back_w1_b
  walk_at "z"
  by_cases h1 : t > 1
  · rw [if_pos h1]
    have q0 : 0 ≤ r / t := Int.ediv_nonneg (by omega) t0
    have qr : r / t ≤ r := Int.ediv_le_self _ (by omega)
    have er : r - r / t * t = r % t := by
      have := Int.emod_def r t
      rw [this, Int.mul_comm]
    have et : r % t < t := Int.emod_lt_of_pos _ (by omega)
    have et0 : 0 ≤ r % t := Int.emod_nonneg _ (by omega)
    refine ⟨N, hN2, ?_⟩
    walk_at "z"
    refine ⟨divS (by omega) (by omega), mulS (by omega), mulS (by omega), hN (r % t).toNat _ _ (by omega) ⟨t, r - r / t * t, hi, lo - r / t * hi, _, rfl, rfl, by omega, by omega, by omega, by omega, ?_, d2, ?_, by rw [er]⟩⟩
    · rw [er]
      obtain ⟨R, rfl⟩ : ∃ R : Nat, r = R := ⟨r.toNat, by omega⟩
      obtain ⟨T, rfl⟩ : ∃ T : Nat, t = T := ⟨t.toNat, by omega⟩
      rw [← Int.natCast_emod, Int.natAbs_natCast, Int.natAbs_natCast, Nat.gcd_comm T (R % T), ← Nat.gcd_rec, Nat.gcd_comm]
      simpa using hgc
    · obtain ⟨x, hx⟩ := d1
      obtain ⟨y, hy⟩ := d2
      refine ⟨x - r / t * y, ?_⟩
      generalize r / t = q at *
      have e : n * (lo - q * hi) - (r - q * t) = (n * lo - r) - q * (n * hi - t) := by
        rw [Int.mul_sub, Int.mul_sub, Int.mul_left_comm n q hi]
        omega
      rw [e, hx, hy, Int.mul_sub, Int.mul_left_comm q p y]
  · rw [if_neg h1]
    have ht1 : t = 1 := by
      refine Classical.byContradiction fun c => ?_
      have : t = 0 := by omega
      subst this
      rw [Int.natAbs_zero, Nat.gcd_zero_right] at hgc
      omega
    subst ht1
    walk_at "z"
    refine ⟨by omega, hq _ _ sH (Int.emod_nonneg _ (by omega)) (Int.emod_lt_of_pos _ (by omega)) ?_⟩
    rw [Int.mul_emod, emod_emod', ← Int.mul_emod, Int.mul_comm]
    obtain ⟨y, hy⟩ := d2
    rw [show n * hi = 1 + p * y by omega, Int.add_mul_emod_self_left]
theorem ok__law_back {P : Program} {w : World} {K : PySem.W.Frag} {mg : Str → Option Value} {base : Heap} (T : Tx K mg) : Okk P w K mg base 1 "_law_back" ["prime", "number"] (sp__law_back K) := by
  have hf_int := T.n_int
  obtain ⟨fd, F⟩ := T.f__law_back
  refine ⟨fd, F.ok sc__law_back (fun vs H Q E h => len__law_back h) (fun cdv A outer s H vs Q E hr h => ⟨t__law_back K, PSs.nox ?_, pure__law_back K vs H Q E h⟩), F.bindsN (fun _ _ _ _ _ _ us hl => match us, hl with | [_, _], _ => rfl), T.g__law_back, F.kp⟩
  exact (pss_cons (ps_asg (pe_tup (pa_cons (pv 0) (pa_cons (pv 1) (pa_cons pe_int (pa_cons pe_int pa_nil))))) (pg_tup rfl (pgs_cons (pg_name (i := 2) sc__law_back.nd rfl (by first | exact Or.inl rfl | exact Or.inr rfl)) (pgs_cons (pg_name (i := 3) sc__law_back.nd rfl (by first | exact Or.inl rfl | exact Or.inr rfl)) (pgs_cons (pg_name (i := 4) sc__law_back.nd rfl (by first | exact Or.inl rfl | exact Or.inr rfl)) (pgs_cons (pg_name (i := 5) sc__law_back.nd rfl (by first | exact Or.inl rfl | exact Or.inr rfl)) pgs_nil))))))
      (pss_cons (ps_while PassesOwn.never (pt_cmpR op_gt (pv 3) pe_int (nomark _)) (pss_cons (ps_set (i := 6) sc__law_back.nd rfl (by first | exact Or.inl rfl | exact Or.inr rfl) (pe_op op_fdivW (pv 2) (pv 3)))
      (pss_cons (ps_par (i := 2) (j := 3) rfl sc__law_back.nd rfl rfl (by decide) rfl rfl (pa_cons (pv 3) (pa_cons (pe_op op_sub (pv 2) (pe_op op_mulU (pv 6) (pv 3))) pa_nil)) (by rfl))
      (pss_one (ps_par (i := 4) (j := 5) rfl sc__law_back.nd rfl rfl (by decide) rfl rfl (pa_cons (pv 5) (pa_cons (pe_op op_sub (pv 4) (pe_op op_mulU (pv 6) (pv 5))) pa_nil)) (by rfl))))))
      (pss_one (ps_ret (pe_op op_mod (pe_callTy call_int1 (by rfl) hf_int (by decide +kernel) (pa_cons (pv 5) pa_nil)) (pv 0))))))
/-! ### _law_zero -/
theorem sc__law_zero : FnScope ["ground"] ["ground"] (defScope s__law_zero) := ⟨rfl, rfl, rfl, by decide +kernel, rfl, by decide +kernel, by decide +kernel⟩
def sp__law_zero (K : PySem.W.Frag) : Sp := fun vs H Q _ => ∃ g : Int, vs = [.int g] ∧ 0 ≤ g ∧ ∀ z H', Same H H' → (g = 1 ∨ NumR H' g z 0 1) → Q z H'
theorem len__law_zero {K : PySem.W.Frag} {vs : List V} {H : Hp} {Q : VK} {E : XK} (h : sp__law_zero K vs H Q E) : vs.length = ["ground"].length := by
  obtain ⟨_, rfl, _⟩ := h
  rfl
def t__law_zero (K : PySem.W.Frag) : TS := (tRet (tIf (tTest (tOp rEq (tVar 0) (tC (.int 0)))) (tTup (tCons (tC (.int 0)) (tCons (tC (.int 1)) tNil))) (tC (.int 0))))
theorem pure__law_zero (K : PySem.W.Frag) (vs : List V) (H : Hp) (Q : VK) (E : XK) (h : sp__law_zero K vs H Q E) : t__law_zero K { nx := fun _ H' => Q .non H', rt := Q } (start ["ground"] vs) H := by
  obtain ⟨g, rfl, hg, hq⟩ := h
  unfold t__law_zero
  walk_at "z"
  by_cases h : g = 0
  · rw [if_pos h]
    exact ⟨by decide, fun p hp => hq _ _ (same_upd hp) (.inr (.inl ⟨h, ⟨p, rfl, upd_same⟩, by decide, by decide⟩))⟩
  · rw [if_neg h]
    exact hq _ _ (Same.refl H) (.inr (.inr ⟨h, rfl, rfl, by decide, by omega⟩))
theorem ok__law_zero {P : Program} {w : World} {K : PySem.W.Frag} {mg : Str → Option Value} {base : Heap} (T : Tx K mg) : Okk P w K mg base 1 "_law_zero" ["ground"] (sp__law_zero K) := by
  obtain ⟨fd, F⟩ := T.f__law_zero
  refine ⟨fd, F.ok sc__law_zero (fun vs H Q E h => len__law_zero h) (fun cdv A outer s H vs Q E hr h => ⟨t__law_zero K, PSs.nox ?_, pure__law_zero K vs H Q E h⟩), F.bindsN (fun _ _ _ _ _ _ us hl => match us, hl with | [_], _ => rfl), T.g__law_zero, F.kp⟩
  exact (pss_one (ps_ret (pe_ifExp (pt_cmpR op_eq (pv 0) pe_int (nomark _)) (pe_tup (pa_cons pe_int (pa_cons pe_int pa_nil))) pe_int)))
/-! ### _law_unit -/
theorem sc__law_unit : FnScope ["ground"] ["ground"] (defScope s__law_unit) := ⟨rfl, rfl, rfl, by decide +kernel, rfl, by decide +kernel, by decide +kernel⟩
def sp__law_unit (K : PySem.W.Frag) : Sp := fun vs H Q _ => ∃ g : Int, vs = [.int g] ∧ 0 ≤ g ∧ g ≠ 1 ∧ ∀ z H', Same H H' → NumR H' g z 1 1 → Q z H'
theorem len__law_unit {K : PySem.W.Frag} {vs : List V} {H : Hp} {Q : VK} {E : XK} (h : sp__law_unit K vs H Q E) : vs.length = ["ground"].length := by
  obtain ⟨_, rfl, _⟩ := h
  rfl
def t__law_unit (K : PySem.W.Frag) : TS := (tRet (tIf (tTest (tOp rEq (tVar 0) (tC (.int 0)))) (tTup (tCons (tC (.int 1)) (tCons (tC (.int 1)) tNil))) (tC (.int 1))))
theorem pure__law_unit (K : PySem.W.Frag) (vs : List V) (H : Hp) (Q : VK) (E : XK) (h : sp__law_unit K vs H Q E) : t__law_unit K { nx := fun _ H' => Q .non H', rt := Q } (start ["ground"] vs) H := by
  obtain ⟨g, rfl, hg, hg1, hq⟩ := h
  unfold t__law_unit
  walk_at "z"
  by_cases h : g = 0
  · rw [if_pos h]
    exact ⟨by decide, fun p hp => hq _ _ (same_upd hp) (.inl ⟨h, ⟨p, rfl, upd_same⟩, by decide, by decide⟩)⟩
  · rw [if_neg h]
    exact hq _ _ (Same.refl H) (.inr ⟨h, rfl, rfl, by decide, by omega⟩)
theorem ok__law_unit {P : Program} {w : World} {K : PySem.W.Frag} {mg : Str → Option Value} {base : Heap} (T : Tx K mg) : Okk P w K mg base 1 "_law_unit" ["ground"] (sp__law_unit K) := by
  obtain ⟨fd, F⟩ := T.f__law_unit
  refine ⟨fd, F.ok sc__law_unit (fun vs H Q E h => len__law_unit h) (fun cdv A outer s H vs Q E hr h => ⟨t__law_unit K, PSs.nox ?_, pure__law_unit K vs H Q E h⟩), F.bindsN (fun _ _ _ _ _ _ us hl => match us, hl with | [_], _ => rfl), T.g__law_unit, F.kp⟩
  exact (pss_one (ps_ret (pe_ifExp (pt_cmpR op_eq (pv 0) pe_int (nomark _)) (pe_tup (pa_cons pe_int (pa_cons pe_int pa_nil))) pe_int)))
/-! ### _law_minus -/
theorem sc__law_minus : FnScope ["ground", "one"] ["ground", "one"] (defScope s__law_minus) := ⟨rfl, rfl, rfl, by decide +kernel, rfl, by decide +kernel, by decide +kernel⟩
def sp__law_minus (K : PySem.W.Frag) : Sp := fun vs H Q _ => ∃ (g : Int) (v : V) (a b : Int), vs = [.int g, v] ∧ 0 ≤ g ∧ NumR H g v a b ∧ ∀ z x H', Same H H' → NumR H' g z x b → (g = 0 → x = -a) → (g ≠ 0 → x = -a % g) → Q z H'
theorem len__law_minus {K : PySem.W.Frag} {vs : List V} {H : Hp} {Q : VK} {E : XK} (h : sp__law_minus K vs H Q E) : vs.length = ["ground", "one"].length := by
  obtain ⟨_, _, _, _, rfl, _⟩ := h
  rfl
def t__law_minus (K : PySem.W.Frag) : TS := (tRet (tIf (tTest (tOp rEq (tVar 0) (tC (.int 0)))) (tTup (tCons (tUn rNeg (tOp (rIxA K) (tVar 1) (tC (.int 0)))) (tCons (tOp (rIxA K) (tVar 1) (tC (.int 1))) tNil))) (tOp rModU (tCB (rInt1) (tCons (tUn rNeg (tVar 1)) tNil)) (tVar 0))))
theorem pure__law_minus (K : PySem.W.Frag) (vs : List V) (H : Hp) (Q : VK) (E : XK) (h : sp__law_minus K vs H Q E) : t__law_minus K { nx := fun _ H' => Q .non H', rt := Q } (start ["ground", "one"] vs) H := by
  obtain ⟨g, v, a, b, rfl, hg, hn, hq⟩ := h
  unfold t__law_minus
  walk_at "z"
  rcases hn with ⟨rfl, ⟨p, rfl, hp⟩, b1, hc⟩ | ⟨hg0, rfl, rfl, a0, a1⟩
  · walk_at "z"
    refine ixT (sqT_of hp) (v := .int a) rfl ?_
    walk_at "z"
    refine ixT (sqT_of hp) (v := .int b) rfl ?_
    walk_at "z"
    refine ⟨by decide, fun r hr => ?_⟩
    exact hq _ (-a) _ (same_upd hr) (.inl ⟨rfl, ⟨r, rfl, upd_same⟩, b1, by rw [Int.natAbs_neg]; exact hc⟩) (fun _ => rfl) (fun h => absurd rfl h)
  · rw [if_neg hg0]
    walk_at "z"
    exact ⟨by omega, hq _ _ H (Same.refl H) (.inr ⟨hg0, rfl, rfl, Int.emod_nonneg _ hg0, Int.emod_lt_of_pos _ (by omega)⟩) (fun h => absurd h hg0) (fun _ => rfl)⟩
theorem ok__law_minus {P : Program} {w : World} {K : PySem.W.Frag} {mg : Str → Option Value} {base : Heap} (T : Tx K mg) : Okk P w K mg base 1 "_law_minus" ["ground", "one"] (sp__law_minus K) := by
  have hf_int := T.n_int
  obtain ⟨fd, F⟩ := T.f__law_minus
  refine ⟨fd, F.ok sc__law_minus (fun vs H Q E h => len__law_minus h) (fun cdv A outer s H vs Q E hr h => ⟨t__law_minus K, PSs.nox ?_, pure__law_minus K vs H Q E h⟩), F.bindsN (fun _ _ _ _ _ _ us hl => match us, hl with | [_, _], _ => rfl), T.g__law_minus, F.kp⟩
  exact (pss_one (ps_ret (pe_ifExp (pt_cmpR op_eq (pv 0) pe_int (nomark _)) (pe_tup (pa_cons (pe_un un_neg (pe_ix ix_lt (pv 1) pe_int (fun _ _ => rfl))) (pa_cons (pe_ix ix_lt (pv 1) pe_int (fun _ _ => rfl)) pa_nil))) (pe_op op_mod (pe_callTy call_int1 (by rfl) hf_int (by decide +kernel) (pa_cons (pe_un un_neg (pv 1)) pa_nil)) (pv 0)))))
/-! ### _law_pick -/
theorem sc__law_pick : FnScope ["dice", "items"] ["dice", "items"] (defScope s__law_pick) := ⟨rfl, rfl, rfl, by decide +kernel, rfl, by decide +kernel, by decide +kernel⟩
def sp__law_pick (K : PySem.W.Frag) : Sp := fun vs H Q _ => ∃ (d L : Addr) (xs : List V), vs = [.ref d, .ref L] ∧ Dice H d ∧ d ≠ L ∧ H L = some (.lst xs) ∧ xs ≠ [] ∧ xs.length < 2 ^ 40 ∧ ∀ v H', v ∈ xs → Keep d H H' → Dice H' d → Q v H'
theorem len__law_pick {K : PySem.W.Frag} {vs : List V} {H : Hp} {Q : VK} {E : XK} (h : sp__law_pick K vs H Q E) : vs.length = ["dice", "items"].length := by
  obtain ⟨_, _, _, rfl, _⟩ := h
  rfl
def t__law_pick (K : PySem.W.Frag) : TS := (tRet (tOp (rIxA K) (tVar 1) (tCall (sp__law_roll K) [] E0 (tCons (tVar 0) (tCons (tCB (rLenU K) (tCons (tVar 1) tNil)) tNil)))))
theorem pure__law_pick (K : PySem.W.Frag) (vs : List V) (H : Hp) (Q : VK) (E : XK) (h : sp__law_pick K vs H Q E) : t__law_pick K { nx := fun _ H' => Q .non H', rt := Q } (start ["dice", "items"] vs) H := by
  obtain ⟨d, L, xs, rfl, hD, hne, hL, hx, hl, hq⟩ := h
  unfold t__law_pick
  walk_at "z"
  refine lenL (sqL_of hL) ?_
  walk_at "z"
  have hp : 0 < xs.length := List.length_pos_iff.mpr hx
  refine ⟨d, _, rfl, hD, by omega, by omega, fun r H' r0 r1 k1 d1 => ?_⟩
  walk_at "z"
  have hr : r.toNat < xs.length := by omega
  have e : r = ((r.toNat : Nat) : Int) := by omega
  refine ixL (sqL_of (k1 _ _ (Ne.symm hne) hL)) (v := xs[r.toNat]) ?_ (hq _ _ (List.getElem_mem hr) k1 d1)
  have h9 := atI_nat (List.getElem?_eq_getElem hr)
  rw [← e] at h9
  exact h9
theorem ok__law_pick {P : Program} {w : World} {K : PySem.W.Frag} {mg : Str → Option Value} {base : Heap} (T : Tx K mg) : Okk P w K mg base 2 "_law_pick" ["dice", "items"] (sp__law_pick K) := by
  obtain ⟨fd__law_roll, F__law_roll, b__law_roll, g__law_roll, k__law_roll⟩ := ok__law_roll (P := P) (w := w) (base := base) T
  have hf_len := T.n_len
  obtain ⟨fd, F⟩ := T.f__law_pick
  refine ⟨fd, F.ok sc__law_pick (fun vs H Q E h => len__law_pick h) (fun cdv A outer s H vs Q E hr h => ⟨t__law_pick K, PSs.nox ?_, pure__law_pick K vs H Q E h⟩), F.bindsN (fun _ _ _ _ _ _ us hl => match us, hl with | [_, _], _ => rfl), T.g__law_pick, F.kp⟩
  exact (pss_one (ps_ret (pe_ix ix_lt (pv 1) (pe_call F__law_roll (hr.mono (by decide)) rfl g__law_roll k__law_roll b__law_roll .nil pass0 (pa_cons (pv 0) (pa_cons (pe_callB call_len_seq (by rfl) hf_len (by decide +kernel) (pa_cons (pv 1) pa_nil)) pa_nil))) (fun _ _ => rfl))))
/-! ### _law_fraction -/
theorem sc__law_fraction : FnScope ["top", "bottom", "shared"] ["top", "bottom"] (defScope s__law_fraction) := ⟨rfl, rfl, rfl, by decide +kernel, rfl, by decide +kernel, by decide +kernel⟩
def sp__law_fraction (K : PySem.W.Frag) : Sp := fun vs H Q _ => ∃ t b : Int, vs = [.int t, .int b] ∧ b ≠ 0 ∧ Sz 8000 b ∧ ∀ p x y H', Same H H' → Frac t b x y → x.natAbs ≤ t.natAbs → y.natAbs ≤ b.natAbs → H' p = some (.tup [.int x, .int y]) → Q (.ref p) H'
theorem len__law_fraction {K : PySem.W.Frag} {vs : List V} {H : Hp} {Q : VK} {E : XK} (h : sp__law_fraction K vs H Q E) : vs.length = ["top", "bottom"].length := by
  obtain ⟨_, _, rfl, _⟩ := h
  rfl
def t__law_fraction (K : PySem.W.Frag) : TS := (tSeq (tAsg (tCall (sp__law_gcd K) [] E0 (tCons (tVar 0) (tCons (tVar 1) tNil))) (gName 2))
  (tSeq (tIfS (tTest (tOp rLtI (tVar 1) (tC (.int 0)))) (tAsg (tUn rNeg (tVar 2)) (gName 2)) tNext)
  (tRet (tTup (tCons (tOp rDivZ (tVar 0) (tVar 2)) (tCons (tOp rDivZ (tVar 1) (tVar 2)) tNil))))))
theorem pure__law_fraction (K : PySem.W.Frag) (vs : List V) (H : Hp) (Q : VK) (E : XK) (h : sp__law_fraction K vs H Q E) : t__law_fraction K { nx := fun _ H' => Q .non H', rt := Q } (start ["top", "bottom", "shared"] vs) H := by
  obtain ⟨t, b, rfl, hb, sb, hq⟩ := h
  unfold t__law_fraction
  walk_at "z"
  refine ⟨t, b, rfl, ?_⟩
  walk_at "z"
  have key : ∀ c : Int, (c = ((Nat.gcd t.natAbs b.natAbs : Nat) : Int) ∧ 0 < b ∨ c = -((Nat.gcd t.natAbs b.natAbs : Nat) : Int) ∧ b < 0) →
      CDivZ t c ∧ CDivZ b c ∧ 2 ≤ sizeLine ∧ ∀ p, H p = none → Q (.ref p) (upd H p (.tup [.int (t.fdiv c), .int (b.fdiv c)])) := fun c hc => by
    obtain ⟨f, e1, e2, e3, e4⟩ := frac_of hc
    have lc : c.natAbs.log2 < 9000 := Nat.lt_of_lt_of_le (PySem.Flt.log2_lt_of (k := 8000) (by decide) (sz_le sb e4)) (by decide)
    exact ⟨⟨e3, lc⟩, ⟨e3, lc⟩, by decide, fun p hp => hq p _ _ _ (same_upd hp) f e1 e2 upd_same⟩
  by_cases h0 : b < 0
  · rw [if_pos h0]
    exact key _ (.inr ⟨rfl, h0⟩)
  · rw [if_neg h0]
    exact key _ (.inl ⟨rfl, by omega⟩)
theorem ok__law_fraction {P : Program} {w : World} {K : PySem.W.Frag} {mg : Str → Option Value} {base : Heap} (T : Tx K mg) : Okk P w K mg base 2 "_law_fraction" ["top", "bottom"] (sp__law_fraction K) := by
  obtain ⟨fd__law_gcd, F__law_gcd, b__law_gcd, g__law_gcd, k__law_gcd⟩ := ok__law_gcd (P := P) (w := w) (base := base) T
  obtain ⟨fd, F⟩ := T.f__law_fraction
  refine ⟨fd, F.ok sc__law_fraction (fun vs H Q E h => len__law_fraction h) (fun cdv A outer s H vs Q E hr h => ⟨t__law_fraction K, PSs.nox ?_, pure__law_fraction K vs H Q E h⟩), F.bindsN (fun _ _ _ _ _ _ us hl => match us, hl with | [_, _], _ => rfl), T.g__law_fraction, F.kp⟩
  exact (pss_cons (ps_set (i := 2) sc__law_fraction.nd rfl (by first | exact Or.inl rfl | exact Or.inr rfl) (pe_call F__law_gcd (hr.mono (by decide)) rfl g__law_gcd k__law_gcd b__law_gcd .nil pass0 (pa_cons (pv 0) (pa_cons (pv 1) pa_nil))))
      (pss_cons (ps_if (pt_cmpR op_lt (pv 1) pe_int (nomark _)) (pss_one (ps_set (i := 2) sc__law_fraction.nd rfl (by first | exact Or.inl rfl | exact Or.inr rfl) (pe_un un_neg (pv 2)))) pss_nil)
      (pss_one (ps_ret (pe_tup (pa_cons (pe_op op_fdivZ (pv 0) (pv 2)) (pa_cons (pe_op op_fdivZ (pv 1) (pv 2)) pa_nil)))))))
/-! ### _law_plus -/
theorem sc__law_plus : FnScope ["ground", "one", "other"] ["ground", "one", "other"] (defScope s__law_plus) := ⟨rfl, rfl, rfl, by decide +kernel, rfl, by decide +kernel, by decide +kernel⟩
def sp__law_plus (K : PySem.W.Frag) : Sp := fun vs H Q _ => ∃ (g : Int) (v w : V) (a b c d : Int), vs = [.int g, v, w] ∧ 0 ≤ g ∧ NumR H g v a b ∧ NumR H g w c d ∧ Sz 3000 a ∧ Sz 3000 b ∧ Sz 3000 c ∧ Sz 3000 d ∧
  ∀ z x y H', Same H H' → NumR H' g z x y → (g = 0 → x * (b * d) = (a * d + c * b) * y) → (g ≠ 0 → x = (a + c) % g) → Q z H'
theorem len__law_plus {K : PySem.W.Frag} {vs : List V} {H : Hp} {Q : VK} {E : XK} (h : sp__law_plus K vs H Q E) : vs.length = ["ground", "one", "other"].length := by
  obtain ⟨_, _, _, _, _, _, _, rfl, _⟩ := h
  rfl
def t__law_plus (K : PySem.W.Frag) : TS := (tSeq (tIfS (tTest (tOp rNe (tVar 0) (tC (.int 0)))) (tRet (tOp rModU (tCB (rInt1) (tCons (tOp rAdd (tVar 1) (tVar 2)) tNil)) (tVar 0))) tNext)
  (tRet (tCall (sp__law_fraction K) [] E0 (tCons (tOp rAdd (tOp rMulU (tOp (rIxA K) (tVar 1) (tC (.int 0))) (tOp (rIxA K) (tVar 2) (tC (.int 1)))) (tOp rMulU (tOp (rIxA K) (tVar 2) (tC (.int 0))) (tOp (rIxA K) (tVar 1) (tC (.int 1))))) (tCons (tOp rMulU (tOp (rIxA K) (tVar 1) (tC (.int 1))) (tOp (rIxA K) (tVar 2) (tC (.int 1)))) tNil)))))
theorem pure__law_plus (K : PySem.W.Frag) (vs : List V) (H : Hp) (Q : VK) (E : XK) (h : sp__law_plus K vs H Q E) : t__law_plus K { nx := fun _ H' => Q .non H', rt := Q } (start ["ground", "one", "other"] vs) H := by
  obtain ⟨g, v, w, a, b, c, d, rfl, hg, n1, n2, sa, sb, sc, sd, hq⟩ := h
  unfold t__law_plus
  walk_at "z"
  rcases n1 with ⟨rfl, ⟨p, rfl, hp⟩, b1, _⟩ | ⟨hg0, rfl, rfl, a0, a1⟩
  · rcases n2 with ⟨_, ⟨q, rfl, hp2⟩, d1, _⟩ | ⟨h, _⟩
    · walk_at "z"
      refine ixT (sqT_of hp) (v := .int a) rfl ?_
      refine ixT (sqT_of hp2) (v := .int d) rfl ?_
      walk_at "z"
      refine ⟨szm sa sd, ixT (sqT_of hp2) (v := .int c) rfl ?_⟩
      refine ixT (sqT_of hp) (v := .int b) rfl ?_
      walk_at "z"
      refine ⟨szm sc sb, ixT (sqT_of hp) (v := .int b) rfl ?_⟩
      refine ixT (sqT_of hp2) (v := .int d) rfl ?_
      walk_at "z"
      have hbd : 1 ≤ b * d := Int.mul_pos (by omega) (by omega)
      refine ⟨szm sb sd, _, _, rfl, by omega, sz_mono (sz_mul sb sd) (by decide), fun p x y H' s f f1 f2 hp => ?_⟩
      exact hq _ x y H' s (.inl ⟨rfl, ⟨p, rfl, hp⟩, f.1, f.2.1⟩) (fun _ => f.2.2) (fun h => absurd rfl h)
    · exact absurd rfl h
  · rcases n2 with ⟨h, _⟩ | ⟨_, rfl, rfl, c0, c1⟩
    · exact absurd h hg0
    · rw [if_pos hg0]
      walk_at "z"
      refine ⟨by omega, hq _ _ 1 H (Same.refl H) (.inr ⟨hg0, rfl, rfl, Int.emod_nonneg _ hg0, Int.emod_lt_of_pos _ (by omega)⟩) (fun h => absurd h hg0) (fun _ => rfl)⟩
theorem ok__law_plus {P : Program} {w : World} {K : PySem.W.Frag} {mg : Str → Option Value} {base : Heap} (T : Tx K mg) : Okk P w K mg base 3 "_law_plus" ["ground", "one", "other"] (sp__law_plus K) := by
  obtain ⟨fd__law_fraction, F__law_fraction, b__law_fraction, g__law_fraction, k__law_fraction⟩ := ok__law_fraction (P := P) (w := w) (base := base) T
  have hf_int := T.n_int
  obtain ⟨fd, F⟩ := T.f__law_plus
  refine ⟨fd, F.ok sc__law_plus (fun vs H Q E h => len__law_plus h) (fun cdv A outer s H vs Q E hr h => ⟨t__law_plus K, PSs.nox ?_, pure__law_plus K vs H Q E h⟩), F.bindsN (fun _ _ _ _ _ _ us hl => match us, hl with | [_, _, _], _ => rfl), T.g__law_plus, F.kp⟩
  exact (pss_cons (ps_if (pt_cmpR op_ne (pv 0) pe_int (nomark _)) (pss_one (ps_ret (pe_op op_mod (pe_callTy call_int1 (by rfl) hf_int (by decide +kernel) (pa_cons (pe_op op_add (pv 1) (pv 2)) pa_nil)) (pv 0)))) pss_nil)
      (pss_one (ps_ret (pe_call F__law_fraction (hr.mono (by decide)) rfl g__law_fraction k__law_fraction b__law_fraction .nil pass0 (pa_cons (pe_op op_add (pe_op op_mulU (pe_ix ix_lt (pv 1) pe_int (fun _ _ => rfl)) (pe_ix ix_lt (pv 2) pe_int (fun _ _ => rfl))) (pe_op op_mulU (pe_ix ix_lt (pv 2) pe_int (fun _ _ => rfl)) (pe_ix ix_lt (pv 1) pe_int (fun _ _ => rfl)))) (pa_cons (pe_op op_mulU (pe_ix ix_lt (pv 1) pe_int (fun _ _ => rfl)) (pe_ix ix_lt (pv 2) pe_int (fun _ _ => rfl))) pa_nil))))))
/-! ### _law_times -/
theorem sc__law_times : FnScope ["ground", "one", "other"] ["ground", "one", "other"] (defScope s__law_times) := ⟨rfl, rfl, rfl, by decide +kernel, rfl, by decide +kernel, by decide +kernel⟩
def sp__law_times (K : PySem.W.Frag) : Sp := fun vs H Q _ => ∃ (g : Int) (v w : V) (a b c d : Int), vs = [.int g, v, w] ∧ 0 ≤ g ∧ NumR H g v a b ∧ NumR H g w c d ∧ Sz 4000 a ∧ Sz 4000 b ∧ Sz 4000 c ∧ Sz 4000 d ∧
  ∀ z x y H', Same H H' → NumR H' g z x y → (g = 0 → x * (b * d) = (a * c) * y ∧ x.natAbs ≤ (a * c).natAbs ∧ y.natAbs ≤ (b * d).natAbs) → (g ≠ 0 → x = (a * c) % g) → Q z H'
theorem len__law_times {K : PySem.W.Frag} {vs : List V} {H : Hp} {Q : VK} {E : XK} (h : sp__law_times K vs H Q E) : vs.length = ["ground", "one", "other"].length := by
  obtain ⟨_, _, _, _, _, _, _, rfl, _⟩ := h
  rfl
def t__law_times (K : PySem.W.Frag) : TS := (tSeq (tIfS (tTest (tOp rNe (tVar 0) (tC (.int 0)))) (tRet (tOp rModU (tCB (rInt1) (tCons (tOp rMulU (tVar 1) (tVar 2)) tNil)) (tVar 0))) tNext)
  (tRet (tCall (sp__law_fraction K) [] E0 (tCons (tOp rMulU (tOp (rIxA K) (tVar 1) (tC (.int 0))) (tOp (rIxA K) (tVar 2) (tC (.int 0)))) (tCons (tOp rMulU (tOp (rIxA K) (tVar 1) (tC (.int 1))) (tOp (rIxA K) (tVar 2) (tC (.int 1)))) tNil)))))
theorem szm4 {x y : Int} (h : Sz 4000 x) (h2 : Sz 4000 y) : CMul x y ∨ CMulW x y := mulW h h2 (by decide) (by decide) (by decide)
theorem pure__law_times (K : PySem.W.Frag) (vs : List V) (H : Hp) (Q : VK) (E : XK) (h : sp__law_times K vs H Q E) : t__law_times K { nx := fun _ H' => Q .non H', rt := Q } (start ["ground", "one", "other"] vs) H := by
  obtain ⟨g, v, w, a, b, c, d, rfl, hg, n1, n2, sa, sb, sc, sd, hq⟩ := h
  unfold t__law_times
  walk_at "z"
  rcases n1 with ⟨rfl, ⟨p, rfl, hp⟩, b1, _⟩ | ⟨hg0, rfl, rfl, a0, a1⟩
  · rcases n2 with ⟨_, ⟨q, rfl, hp2⟩, d1, _⟩ | ⟨h, _⟩
    · walk_at "z"
      refine ixT (sqT_of hp) (v := .int a) rfl ?_
      refine ixT (sqT_of hp2) (v := .int c) rfl ?_
      walk_at "z"
      refine ⟨szm4 sa sc, ixT (sqT_of hp) (v := .int b) rfl ?_⟩
      refine ixT (sqT_of hp2) (v := .int d) rfl ?_
      walk_at "z"
      have hbd : 1 ≤ b * d := Int.mul_pos (by omega) (by omega)
      refine ⟨szm4 sb sd, _, _, rfl, by omega, sz_mul (a := 4000) (b := 4000) sb sd, fun p x y H' s f f1 f2 hp => ?_⟩
      exact hq _ x y H' s (.inl ⟨rfl, ⟨p, rfl, hp⟩, f.1, f.2.1⟩) (fun _ => ⟨f.2.2, f1, f2⟩) (fun h => absurd rfl h)
    · exact absurd rfl h
  · rcases n2 with ⟨h, _⟩ | ⟨_, rfl, rfl, c0, c1⟩
    · exact absurd h hg0
    · rw [if_pos hg0]
      walk_at "z"
      refine ⟨szm4 sa sc, by omega, hq _ _ 1 H (Same.refl H) (.inr ⟨hg0, rfl, rfl, Int.emod_nonneg _ hg0, Int.emod_lt_of_pos _ (by omega)⟩) (fun h => absurd h hg0) (fun _ => rfl)⟩
theorem ok__law_times {P : Program} {w : World} {K : PySem.W.Frag} {mg : Str → Option Value} {base : Heap} (T : Tx K mg) : Okk P w K mg base 3 "_law_times" ["ground", "one", "other"] (sp__law_times K) := by
  obtain ⟨fd__law_fraction, F__law_fraction, b__law_fraction, g__law_fraction, k__law_fraction⟩ := ok__law_fraction (P := P) (w := w) (base := base) T
  have hf_int := T.n_int
  obtain ⟨fd, F⟩ := T.f__law_times
  refine ⟨fd, F.ok sc__law_times (fun vs H Q E h => len__law_times h) (fun cdv A outer s H vs Q E hr h => ⟨t__law_times K, PSs.nox ?_, pure__law_times K vs H Q E h⟩), F.bindsN (fun _ _ _ _ _ _ us hl => match us, hl with | [_, _, _], _ => rfl), T.g__law_times, F.kp⟩
  exact (pss_cons (ps_if (pt_cmpR op_ne (pv 0) pe_int (nomark _)) (pss_one (ps_ret (pe_op op_mod (pe_callTy call_int1 (by rfl) hf_int (by decide +kernel) (pa_cons (pe_op op_mulU (pv 1) (pv 2)) pa_nil)) (pv 0)))) pss_nil)
      (pss_one (ps_ret (pe_call F__law_fraction (hr.mono (by decide)) rfl g__law_fraction k__law_fraction b__law_fraction .nil pass0 (pa_cons (pe_op op_mulU (pe_ix ix_lt (pv 1) pe_int (fun _ _ => rfl)) (pe_ix ix_lt (pv 2) pe_int (fun _ _ => rfl))) (pa_cons (pe_op op_mulU (pe_ix ix_lt (pv 1) pe_int (fun _ _ => rfl)) (pe_ix ix_lt (pv 2) pe_int (fun _ _ => rfl))) pa_nil))))))
/-! ### _law_undone -/
theorem sc__law_undone : FnScope ["ground", "one"] ["ground", "one"] (defScope s__law_undone) := ⟨rfl, rfl, rfl, by decide +kernel, rfl, by decide +kernel, by decide +kernel⟩
def sp__law_undone (K : PySem.W.Frag) : Sp := fun vs H Q _ => ∃ (g : Int) (v : V) (a b : Int), vs = [.int g, v] ∧ GroundV (.int g) ∧ NumR H g v a b ∧ a ≠ 0 ∧ Sz 3000 a ∧
  ∀ z x y H', Same H H' → NumR H' g z x y → (g = 0 → x * a = b * y ∧ x.natAbs ≤ b.natAbs ∧ y.natAbs ≤ a.natAbs) → (g ≠ 0 → (x * a) % g = 1 % g) → Q z H'
theorem len__law_undone {K : PySem.W.Frag} {vs : List V} {H : Hp} {Q : VK} {E : XK} (h : sp__law_undone K vs H Q E) : vs.length = ["ground", "one"].length := by
  obtain ⟨_, _, _, _, rfl, _⟩ := h
  rfl
def t__law_undone (K : PySem.W.Frag) : TS := (tRet (tIf (tTest (tOp rEq (tVar 0) (tC (.int 0)))) (tCall (sp__law_fraction K) [] E0 (tCons (tOp (rIxA K) (tVar 1) (tC (.int 1))) (tCons (tOp (rIxA K) (tVar 1) (tC (.int 0))) tNil))) (tCall (sp__law_back K) [] E0 (tCons (tVar 0) (tCons (tVar 1) tNil)))))
theorem pure__law_undone (K : PySem.W.Frag) (vs : List V) (H : Hp) (Q : VK) (E : XK) (h : sp__law_undone K vs H Q E) : t__law_undone K { nx := fun _ H' => Q .non H', rt := Q } (start ["ground", "one"] vs) H := by
  obtain ⟨g, v, a, b, rfl, hg, hn, ha, sa, hq⟩ := h
  have gl := ground_le hg
  unfold t__law_undone
  walk_at "z"
  have hn0 := hn
  rcases hn with ⟨rfl, ⟨p, rfl, hp⟩, b1, hc⟩ | ⟨hg0, rfl, rfl, a0, a1⟩
  · walk_at "z"
    refine ixT (sqT_of hp) (v := .int b) rfl ?_
    refine ixT (sqT_of hp) (v := .int a) rfl ?_
    refine ⟨b, a, rfl, ha, sz_mono sa (by decide), fun q x y H' s f f1 f2 hq2 => ?_⟩
    exact hq _ x y H' s (.inl ⟨rfl, ⟨q, rfl, hq2⟩, f.1, f.2.1⟩) (fun _ => ⟨f.2.2, f1, f2⟩) (fun h => absurd rfl h)
  · rw [if_neg hg0]
    refine ⟨g, a, rfl, by omega, a1, gl.2, ground_cop hg hn0 ha hg0, fun w H' s w0 w1 e => ?_⟩
    exact hq _ w 1 H' s (.inr ⟨hg0, rfl, rfl, w0, w1⟩) (fun h => absurd h hg0) (fun _ => e)
theorem ok__law_undone {P : Program} {w : World} {K : PySem.W.Frag} {mg : Str → Option Value} {base : Heap} (T : Tx K mg) : Okk P w K mg base 3 "_law_undone" ["ground", "one"] (sp__law_undone K) := by
  obtain ⟨fd__law_fraction, F__law_fraction, b__law_fraction, g__law_fraction, k__law_fraction⟩ := ok__law_fraction (P := P) (w := w) (base := base) T
  obtain ⟨fd__law_back, F__law_back, b__law_back, g__law_back, k__law_back⟩ := ok__law_back (P := P) (w := w) (base := base) T
  obtain ⟨fd, F⟩ := T.f__law_undone
  refine ⟨fd, F.ok sc__law_undone (fun vs H Q E h => len__law_undone h) (fun cdv A outer s H vs Q E hr h => ⟨t__law_undone K, PSs.nox ?_, pure__law_undone K vs H Q E h⟩), F.bindsN (fun _ _ _ _ _ _ us hl => match us, hl with | [_, _], _ => rfl), T.g__law_undone, F.kp⟩
  exact (pss_one (ps_ret (pe_ifExp (pt_cmpR op_eq (pv 0) pe_int (nomark _)) (pe_call F__law_fraction (hr.mono (by decide)) rfl g__law_fraction k__law_fraction b__law_fraction .nil pass0 (pa_cons (pe_ix ix_lt (pv 1) pe_int (fun _ _ => rfl)) (pa_cons (pe_ix ix_lt (pv 1) pe_int (fun _ _ => rfl)) pa_nil))) (pe_call F__law_back (hr.mono (by decide)) rfl g__law_back k__law_back b__law_back .nil pass0 (pa_cons (pv 0) (pa_cons (pv 1) pa_nil))))))
/-! ### _law_nu_ground -/
theorem sc__law_nu_ground : FnScope ["dice"] ["dice"] (defScope s__law_nu_ground) := ⟨rfl, rfl, rfl, by decide +kernel, rfl, by decide +kernel, by decide +kernel⟩
def sp__law_nu_ground (K : PySem.W.Frag) : Sp := fun vs H Q _ => ∃ d : Addr, vs = [.ref d] ∧ Dice H d ∧ ∀ (g : Int) H', GroundV (.int g) → Keep d H H' → Dice H' d → Q (.int g) H'
theorem len__law_nu_ground {K : PySem.W.Frag} {vs : List V} {H : Hp} {Q : VK} {E : XK} (h : sp__law_nu_ground K vs H Q E) : vs.length = ["dice"].length := by
  obtain ⟨_, rfl, _⟩ := h
  rfl
def t__law_nu_ground (K : PySem.W.Frag) : TS := (tRet (tCall (sp__law_pick K) [] E0 (tCons (tVar 0) (tCons (tLst (tCons (tC (.int 0)) (tCons (tC (.int 0)) (tCons (tC (.int 0)) (tCons (tC (.int 2)) (tCons (tC (.int 3)) (tCons (tC (.int 5)) (tCons (tC (.int 7)) (tCons (tC (.int 11)) (tCons (tC (.int 13)) (tCons (tC (.int 97)) (tCons (tC (.int 101)) (tCons (tC (.int 997)) (tCons (tC (.int 9973)) tNil)))))))))))))) tNil))))
/-- whether n is 0 or a prime, by the divisors below 100 -/
def trial (n : Int) (i : Nat) : Option V := if 2 + (i : Int) < n ∧ n % (2 + (i : Int)) = 0 then some (.int (2 + (i : Int))) else none
theorem trial_nil {n : Int} (h0 : 0 ≤ n) (h1 : n < 10000) (h2 : n ≠ 1) : (outL (trial n) 98).length = 0 ↔ (n = 0 ∨ PrimeI n) := by
  have e : (outL (trial n) 98).length = 0 ↔ ∀ i : Nat, i < 98 → ¬ (2 + (i : Int) < n ∧ n % (2 + (i : Int)) = 0) := by
    unfold outL
    rw [List.length_eq_zero_iff, List.filterMap_eq_nil_iff]
    constructor
    · intro h i hi c
      have := h i (List.mem_range.mpr hi)
      rw [trial, if_pos c] at this
      cases this
    · intro h i hi
      rw [trial, if_neg (h i (List.mem_range.mp hi))]
  rw [e]
  constructor
  · intro h
    by_cases hn : n = 0
    · exact .inl hn
    · refine .inr ⟨by omega, fun k k1 k2 kd => ?_⟩
      by_cases c : k < 100
      · refine h (k - 2).toNat (by omega) ?_
        rw [show (2 : Int) + ((k - 2).toNat : Int) = k by omega]
        exact ⟨k2, Int.emod_eq_zero_of_dvd kd⟩
      · obtain ⟨q, rfl⟩ := kd
        have q1 : 2 ≤ q := by
          by_cases q0 : q ≤ 0
          · have := Int.mul_le_mul_of_nonneg_left q0 (show 0 ≤ k by omega)
            omega
          · by_cases q1 : q = 1
            · subst q1; omega
            · omega
        have q2 : q < 100 := by
          refine Classical.byContradiction fun c2 => ?_
          have := Int.mul_le_mul (show (100 : Int) ≤ k by omega) (show (100 : Int) ≤ q by omega) (by omega) (by omega)
          omega
        have q3 := Int.mul_le_mul (show (2 : Int) ≤ k by omega) (Int.le_refl q) (by omega) (by omega)
        refine h (q - 2).toNat (by omega) ?_
        rw [show (2 : Int) + ((q - 2).toNat : Int) = q by omega]
        exact ⟨by omega, Int.emod_eq_zero_of_dvd (Int.dvd_mul_left k q)⟩
  · rintro (h | h) i hi ⟨c1, c2⟩
    · omega
    · exact h.2 (2 + (i : Int)) (by omega) c1 (Int.dvd_of_emod_eq_zero c2)
theorem grd {n : Int} (h : n = 0 ∨ n = 2 ∨ n = 3 ∨ n = 5 ∨ n = 7 ∨ n = 11 ∨ n = 13 ∨ n = 97 ∨ n = 101 ∨ n = 997 ∨ n = 9973) : GroundV (.int n) := by
  have f : ∀ n : Int, 0 ≤ n → n < 9999 → n ≠ 1 → (outL (trial n) 98).length = 0 → GroundV (.int n) := fun n a b c d => ⟨n, rfl, a, by omega, (trial_nil a (by omega) c).mp d⟩
  rcases h with rfl | rfl | rfl | rfl | rfl | rfl | rfl | rfl | rfl | rfl | rfl <;> exact f _ (by decide) (by decide) (by decide) (by decide +kernel)
theorem pure__law_nu_ground (K : PySem.W.Frag) (vs : List V) (H : Hp) (Q : VK) (E : XK) (h : sp__law_nu_ground K vs H Q E) : t__law_nu_ground K { nx := fun _ H' => Q .non H', rt := Q } (start ["dice"] vs) H := by
  obtain ⟨d, rfl, hD, hq⟩ := h
  unfold t__law_nu_ground
  walk_at "z"
  refine ⟨by decide, fun M hM => ?_⟩
  have dM : d ≠ M := by
    obtain ⟨_, _, _, h⟩ := hD
    exact ne_of_none h hM
  refine ⟨d, M, _, rfl, hD.same (same_upd hM), dM, upd_same, by simp, by simp, fun v H2 hv k2 d2 => ?_⟩
  have hk : ∃ g : Int, v = .int g ∧ GroundV (.int g) := by
    simp only [List.mem_cons, List.not_mem_nil, or_false] at hv
    rcases hv with rfl | rfl | rfl | rfl | rfl | rfl | rfl | rfl | rfl | rfl | rfl | rfl | rfl <;> exact ⟨_, rfl, grd (by simp)⟩
  obtain ⟨g, rfl, hg⟩ := hk
  exact hq g H2 hg (((Keep.refl d H).new hM).trans k2) d2
theorem ok__law_nu_ground {P : Program} {w : World} {K : PySem.W.Frag} {mg : Str → Option Value} {base : Heap} (T : Tx K mg) : Okk P w K mg base 3 "_law_nu_ground" ["dice"] (sp__law_nu_ground K) := by
  obtain ⟨fd__law_pick, F__law_pick, b__law_pick, g__law_pick, k__law_pick⟩ := ok__law_pick (P := P) (w := w) (base := base) T
  obtain ⟨fd, F⟩ := T.f__law_nu_ground
  refine ⟨fd, F.ok sc__law_nu_ground (fun vs H Q E h => len__law_nu_ground h) (fun cdv A outer s H vs Q E hr h => ⟨t__law_nu_ground K, PSs.nox ?_, pure__law_nu_ground K vs H Q E h⟩), F.bindsN (fun _ _ _ _ _ _ us hl => match us, hl with | [_], _ => rfl), T.g__law_nu_ground, F.kp⟩
  exact (pss_one (ps_ret (pe_call F__law_pick (hr.mono (by decide)) rfl g__law_pick k__law_pick b__law_pick .nil pass0 (pa_cons (pv 0) (pa_cons (pe_lst (pa_cons pe_int (pa_cons pe_int (pa_cons pe_int (pa_cons pe_int (pa_cons pe_int (pa_cons pe_int (pa_cons pe_int (pa_cons pe_int (pa_cons pe_int (pa_cons pe_int (pa_cons pe_int (pa_cons pe_int (pa_cons pe_int pa_nil)))))))))))))) pa_nil)))))
/-! ### _law_nu_drawn -/
theorem sc__law_nu_drawn : FnScope ["dice", "ground", "most"] ["dice", "ground"] (defScope s__law_nu_drawn) := ⟨rfl, rfl, rfl, by decide +kernel, rfl, by decide +kernel, by decide +kernel⟩
def sp__law_nu_drawn (K : PySem.W.Frag) : Sp := fun vs H Q _ => ∃ (d : Addr) (g : Int), vs = [.ref d, .int g] ∧ Dice H d ∧ GroundV (.int g) ∧ ∀ z a b H', Keep d H H' → Dice H' d → NumR H' g z a b → S60 a → S60 b → Q z H'
theorem len__law_nu_drawn {K : PySem.W.Frag} {vs : List V} {H : Hp} {Q : VK} {E : XK} (h : sp__law_nu_drawn K vs H Q E) : vs.length = ["dice", "ground"].length := by
  obtain ⟨_, _, rfl, _⟩ := h
  rfl
def t__law_nu_drawn (K : PySem.W.Frag) : TS := (tSeq (tIfS (tTest (tOp rGtI (tVar 1) (tC (.int 0)))) (tRet (tCall (sp__law_roll K) [] E0 (tCons (tVar 0) (tCons (tVar 1) tNil)))) tNext)
  (tSeq (tAsg (tCall (sp__law_pick K) [] E0 (tCons (tVar 0) (tCons (tLst (tCons (tC (.int 3)) (tCons (tC (.int 10)) (tCons (tC (.int 10)) (tCons (tC (.int 1000)) (tCons (tOp rPowU (tC (.int 10)) (tC (.int 20))) (tCons (tOp rSub (tOp rPowU (tC (.int 10)) (tC (.int 60))) (tC (.int 1))) tNil))))))) tNil))) (gName 2))
  (tRet (tCall (sp__law_fraction K) [] E0 (tCons (tOp rSub (tCall (sp__law_roll K) [] E0 (tCons (tVar 0) (tCons (tOp rAdd (tOp rMulU (tC (.int 2)) (tVar 2)) (tC (.int 1))) tNil))) (tVar 2)) (tCons (tOp rAdd (tC (.int 1)) (tCall (sp__law_roll K) [] E0 (tCons (tVar 0) (tCons (tVar 2) tNil)))) tNil))))))
theorem pure__law_nu_drawn (K : PySem.W.Frag) (vs : List V) (H : Hp) (Q : VK) (E : XK) (h : sp__law_nu_drawn K vs H Q E) : t__law_nu_drawn K { nx := fun _ H' => Q .non H', rt := Q } (start ["dice", "ground", "most"] vs) H := by
  obtain ⟨d, g, rfl, hD, hg, hq⟩ := h
  have gl := ground_le hg
  unfold t__law_nu_drawn
  walk_at "z"
  by_cases hg0 : g > 0
  · rw [if_pos hg0]
    refine ⟨d, g, rfl, hD, hg0, by omega, fun r H1 r0 r1 k1 d1 => ?_⟩
    exact hq _ r 1 H1 k1 d1 (.inr ⟨by omega, rfl, rfl, r0, r1⟩) ⟨by omega, by omega⟩ ⟨by decide, by decide⟩
  · rw [if_neg hg0]
    obtain rfl : g = 0 := by omega
    walk_at "z"
    refine ⟨cpow (by decide), cpow (by decide), by decide, fun M hM => ?_⟩
    have dM : d ≠ M := by
      obtain ⟨_, _, _, h⟩ := hD
      exact ne_of_none h hM
    refine ⟨d, M, _, rfl, hD.same (same_upd hM), dM, upd_same, by simp, by simp, fun v H2 hv k2 d2 => ?_⟩
    have hk : ∃ m : Int, v = .int m ∧ 3 ≤ m ∧ m < 10 ^ 60 := by
      have e1 : (10 : Int) ^ (60 : Int).toNat = 10 ^ 60 := rfl
      have e2 : (10 : Int) ^ (20 : Int).toNat = 10 ^ 20 := rfl
      rw [e1, e2] at hv
      simp only [List.mem_cons, List.not_mem_nil, or_false] at hv
      rcases hv with rfl | rfl | rfl | rfl | rfl | rfl <;> exact ⟨_, rfl, by omega, by omega⟩
    obtain ⟨m, rfl, m3, m60⟩ := hk
    walk_at "z"
    refine ⟨mulS (by decide), d, _, rfl, d2, by omega, by omega, fun r1 H3 a1 b1 k3 d3 => ?_⟩
    walk_at "z"
    refine ⟨d, m, rfl, d3, by omega, by omega, fun r2 H4 a2 b2 k4 d4 => ?_⟩
    walk_at "z"
    have sb : Sz 250 (1 + r2) := show (1 + r2).natAbs < 2 ^ 250 by omega
    refine ⟨_, _, rfl, by omega, sz_mono sb (by decide), fun q x y H5 s5 f f1 f2 hq2 => ?_⟩
    refine hq _ x y H5 (((((Keep.refl d H).new hM).trans k2).trans k3).trans k4 |>.same s5) (d4.same s5) (.inl ⟨rfl, ⟨q, rfl, hq2⟩, f.1, f.2.1⟩) ⟨by omega, by omega⟩ ⟨by omega, by omega⟩
theorem ok__law_nu_drawn {P : Program} {w : World} {K : PySem.W.Frag} {mg : Str → Option Value} {base : Heap} (T : Tx K mg) : Okk P w K mg base 3 "_law_nu_drawn" ["dice", "ground"] (sp__law_nu_drawn K) := by
  obtain ⟨fd__law_roll, F__law_roll, b__law_roll, g__law_roll, k__law_roll⟩ := ok__law_roll (P := P) (w := w) (base := base) T
  obtain ⟨fd__law_pick, F__law_pick, b__law_pick, g__law_pick, k__law_pick⟩ := ok__law_pick (P := P) (w := w) (base := base) T
  obtain ⟨fd__law_fraction, F__law_fraction, b__law_fraction, g__law_fraction, k__law_fraction⟩ := ok__law_fraction (P := P) (w := w) (base := base) T
  obtain ⟨fd, F⟩ := T.f__law_nu_drawn
  refine ⟨fd, F.ok sc__law_nu_drawn (fun vs H Q E h => len__law_nu_drawn h) (fun cdv A outer s H vs Q E hr h => ⟨t__law_nu_drawn K, PSs.nox ?_, pure__law_nu_drawn K vs H Q E h⟩), F.bindsN (fun _ _ _ _ _ _ us hl => match us, hl with | [_, _], _ => rfl), T.g__law_nu_drawn, F.kp⟩
  exact (pss_cons (ps_if (pt_cmpR op_gt (pv 1) pe_int (nomark _)) (pss_one (ps_ret (pe_call F__law_roll (hr.mono (by decide)) rfl g__law_roll k__law_roll b__law_roll .nil pass0 (pa_cons (pv 0) (pa_cons (pv 1) pa_nil))))) pss_nil)
      (pss_cons (ps_set (i := 2) sc__law_nu_drawn.nd rfl (by first | exact Or.inl rfl | exact Or.inr rfl) (pe_call F__law_pick (hr.mono (by decide)) rfl g__law_pick k__law_pick b__law_pick .nil pass0 (pa_cons (pv 0) (pa_cons (pe_lst (pa_cons pe_int (pa_cons pe_int (pa_cons pe_int (pa_cons pe_int (pa_cons (pe_op op_pow pe_int pe_int) (pa_cons (pe_op op_sub (pe_op op_pow pe_int pe_int) pe_int) pa_nil))))))) pa_nil))))
      (pss_one (ps_ret (pe_call F__law_fraction (hr.mono (by decide)) rfl g__law_fraction k__law_fraction b__law_fraction .nil pass0 (pa_cons (pe_op op_sub (pe_call F__law_roll (hr.mono (by decide)) rfl g__law_roll k__law_roll b__law_roll .nil pass0 (pa_cons (pv 0) (pa_cons (pe_op op_add (pe_op op_mulU pe_int (pv 2)) pe_int) pa_nil))) (pv 2)) (pa_cons (pe_op op_add pe_int (pe_call F__law_roll (hr.mono (by decide)) rfl g__law_roll k__law_roll b__law_roll .nil pass0 (pa_cons (pv 0) (pa_cons (pv 2) pa_nil)))) pa_nil)))))))
/-! ### _law_nu_power -/
theorem sc__law_nu_power : FnScope ["ground", "one", "exponent", "here", "found", "turn"] ["ground", "one", "exponent"] (defScope s__law_nu_power) := ⟨rfl, rfl, rfl, by decide +kernel, rfl, by decide +kernel, by decide +kernel⟩
def sp__law_nu_power (K : PySem.W.Frag) : Sp := fun vs H Q _ => ∃ (g : Int) (v : V) (a b e : Int), vs = [.int g, v, .int e] ∧ GroundV (.int g) ∧ NumR H g v a b ∧ S60 a ∧ S60 b ∧ e.natAbs ≤ 1000 ∧ (g = 0 → e.natAbs ≤ 20) ∧ (e < 0 → a ≠ 0) ∧
  ∀ z x y ha hb H', Same H H' → NumR H' g z x y → (0 ≤ e → ha = a ∧ hb = b) → (e < 0 → (g = 0 → Frac b a ha hb) ∧ (g ≠ 0 → (ha * a) % g = 1 % g)) → (g = 0 → x = ha ^ e.natAbs ∧ y = hb ^ e.natAbs) → (g ≠ 0 → x = ha ^ e.natAbs % g) → Q z H'
theorem len__law_nu_power {K : PySem.W.Frag} {vs : List V} {H : Hp} {Q : VK} {E : XK} (h : sp__law_nu_power K vs H Q E) : vs.length = ["ground", "one", "exponent"].length := by
  obtain ⟨_, _, _, _, _, rfl, _⟩ := h
  rfl
def t__law_nu_power_f1_b (K : PySem.W.Frag) : TS := (tAsg (tCall (sp__law_times K) [] E0 (tCons (tVar 0) (tCons (tVar 4) (tCons (tVar 3) tNil)))) (gName 4))
def t__law_nu_power (K : PySem.W.Frag) : TS := (tSeq (tPar 3 4 (tCons (tVar 1) (tCons (tCall (sp__law_unit K) [] E0 (tCons (tVar 0) tNil)) tNil)))
  (tSeq (tIfS (tTest (tOp rLtI (tVar 2) (tC (.int 0)))) (tAsg (tCall (sp__law_undone K) [] E0 (tCons (tVar 0) (tCons (tVar 1) tNil))) (gName 3)) tNext)
  (tSeq (tFor (iRng1 (tCons (tCB (rAbs) (tCons (tVar 2) tNil)) tNil)) (gName 5) (t__law_nu_power_f1_b K))
  (tRet (tVar 4)))))
theorem low_unique {x y N D : Int} (hy : 1 ≤ y) (hg : Nat.gcd x.natAbs y.natAbs = 1) (hD : 1 ≤ D) (hg2 : Nat.gcd N.natAbs D.natAbs = 1) (e : x * D = N * y) : x = N ∧ y = D := by
  have e2 : x.natAbs * D.natAbs = N.natAbs * y.natAbs := by rw [← Int.natAbs_mul, ← Int.natAbs_mul, e]
  have d1 : y.natAbs ∣ D.natAbs := Nat.Coprime.dvd_of_dvd_mul_left (show Nat.Coprime y.natAbs x.natAbs by rw [Nat.coprime_iff_gcd_eq_one, Nat.gcd_comm]; exact hg) ⟨N.natAbs, by rw [e2, Nat.mul_comm]⟩
  have d2 : D.natAbs ∣ y.natAbs := Nat.Coprime.dvd_of_dvd_mul_left (show Nat.Coprime D.natAbs N.natAbs by rw [Nat.coprime_iff_gcd_eq_one, Nat.gcd_comm]; exact hg2) ⟨x.natAbs, by rw [← e2, Nat.mul_comm]⟩
  have h := Nat.dvd_antisymm d1 d2
  have hyD : y = D := by omega
  subst hyD
  exact ⟨Int.eq_of_mul_eq_mul_right (by omega) e, rfl⟩
theorem sz_pow {k : Nat} {x : Int} (h : Sz k x) : ∀ i, Sz (k * i + 1) (x ^ i)
  | 0 => by
    rw [Int.pow_zero]
    exact Nat.lt_of_lt_of_le (show (1 : Int).natAbs < 2 ^ 1 by decide) (Nat.pow_le_pow_right (by decide) (by omega))
  | i + 1 => by
    have := sz_mul (sz_pow h i) h
    rw [Int.pow_succ]
    exact sz_mono this (by rw [Nat.mul_succ]; omega)
theorem S60.sz200 {x : Int} (h : S60 x) : Sz 200 x := show x.natAbs < 2 ^ 200 by have := h.1; have := h.2; omega
theorem pow_pos1 {b : Int} (h : 1 ≤ b) (k : Nat) : 1 ≤ b ^ k := by
  induction k with
  | zero => rw [Int.pow_zero]; decide
  | succ k ih => rw [Int.pow_succ]; exact Int.mul_pos (by omega) (by omega)
theorem cop_pow {a b : Int} (h : Nat.gcd a.natAbs b.natAbs = 1) (i : Nat) : Nat.gcd (a ^ i).natAbs (b ^ i).natAbs = 1 := by
  rw [Int.natAbs_pow, Int.natAbs_pow]
  exact Nat.Coprime.pow i i h
theorem NumR.lt {H : Hp} {g : Int} {v : V} {a b : Int} (h : NumR H g v a b) (hg : g ≠ 0) : 0 ≤ a ∧ a < g ∧ b = 1 := by
  rcases h with ⟨e, _⟩ | ⟨_, _, e, a0, a1⟩
  · exact absurd e hg
  · exact ⟨a0, a1, e⟩
theorem NumR.low {H : Hp} {g : Int} {v : V} {a b : Int} (h : NumR H g v a b) : 1 ≤ b ∧ (g = 0 → Nat.gcd a.natAbs b.natAbs = 1) := by
  rcases h with ⟨_, _, b1, hc⟩ | ⟨h, _, e, _⟩
  · exact ⟨b1, fun _ => hc⟩
  · exact ⟨by omega, fun c => absurd c h⟩
theorem pure__law_nu_power (K : PySem.W.Frag) (vs : List V) (H : Hp) (Q : VK) (E : XK) (h : sp__law_nu_power K vs H Q E) : t__law_nu_power K { nx := fun _ H' => Q .non H', rt := Q } (start ["ground", "one", "exponent", "here", "found", "turn"] vs) H := by
  obtain ⟨g, v, a, b, e, rfl, hg, hn, sa, sb, he, he2, ha0, hq⟩ := h
  have gl := ground_le hg
  have g1 : g ≠ 1 := fun c => by
    obtain ⟨m, e, _, _, h | h⟩ := hg
    · cases e; omega
    · cases e; have := h.1; omega
  unfold t__law_nu_power
  walk_at "z"
  refine ⟨g, rfl, gl.1, g1, fun u H1 s1 nu => ?_⟩
  walk_at "z"
  have go : ∀ (h : V) (ha hb : Int) H2, Same H1 H2 → NumR H2 g h ha hb → S60 ha → S60 hb → (0 ≤ e → ha = a ∧ hb = b) → (e < 0 → (g = 0 → Frac b a ha hb) ∧ (g ≠ 0 → (ha * a) % g = 1 % g)) →
      ForW (Itr 0 (if e < 0 then -e else e).toNat) H2 (gName 5) (t__law_nu_power_f1_b K) { nx := fun σ H => tVar 4 σ H Q, rt := Q } [some (.int g), some v, some (.int e), some h, some u, none] := by
    intro h ha hb H2 s2 nh sha shb c1 c2
    have en : (if e < 0 then -e else e).toNat = e.natAbs := by split <;> omega
    rw [en]
    refine for_R (fun i σ H' => ∃ f X Y o, σ = [some (.int g), some v, some (.int e), some h, some f, o] ∧ Same H2 H' ∧ NumR H' g f X Y ∧ (g = 0 → X = ha ^ i ∧ Y = hb ^ i) ∧ (g ≠ 0 → X = ha ^ i % g)) ⟨u, 1, 1, _, rfl, Same.refl _, nu.same s2, fun _ => ⟨by rw [Int.pow_zero], by rw [Int.pow_zero]⟩, fun hg0 => by rw [Int.pow_zero, Int.emod_eq_of_lt (by decide) (by omega)]⟩ (fun i σ H' hi hh N hN => ?_) (fun σ H' hh => ?_)
    · obtain ⟨f, X, Y, o, rfl, s3, nf, f0, f1⟩ := hh
      unfold t__law_nu_power_f1_b
      walk_at "z"
      have szX : Sz 4000 X ∧ Sz 4000 Y := by
        by_cases c : g = 0
        · obtain ⟨x1, y1⟩ := f0 c
          have := he2 c
          rw [x1, y1]
          exact ⟨sz_mono (sz_pow sha.sz200 i) (by omega), sz_mono (sz_pow shb.sz200 i) (by omega)⟩
        · obtain ⟨x0, x1, y1⟩ := nf.lt c
          have gs := sz_mono (ground_sz hg) (show 1000 ≤ 4000 by decide)
          rw [y1]
          exact ⟨sz_le gs (by omega), sz_le gs (by omega)⟩
      refine ⟨g, f, h, X, Y, ha, hb, rfl, gl.1, nf, nh.same s3, szX.1, szX.2, sz_mono sha.sz (by decide), sz_mono shb.sz (by decide), fun z x y H3 s4 nz z0 z1 => ?_⟩
      walk_at "z"
      refine hN _ _ ⟨z, x, y, _, rfl, s3.trans s4, nz, fun c => ?_, fun c => ?_⟩
      · obtain ⟨x1, y1⟩ := f0 c
        have k := (z0 c).1
        rw [x1, y1, ← Int.pow_succ, ← Int.pow_succ] at k
        exact low_unique nz.low.1 (nz.low.2 c) (pow_pos1 nh.low.1 _) (cop_pow (nh.low.2 c) _) k
      · rw [z1 c, f1 c, Int.mul_emod, emod_emod', ← Int.mul_emod, ← Int.pow_succ]
    · obtain ⟨f, X, Y, o, rfl, s3, nf, f0, f1⟩ := hh
      walk_at "z"
      exact hq f X Y ha hb H' ((s1.trans s2).trans s3) nf c1 c2 f0 f1
  have sp : ∀ {x y : Int}, x.natAbs ≤ y.natAbs → S60 y → S60 x := fun h hy => ⟨by have := hy.1; have := hy.2; omega, by have := hy.1; have := hy.2; omega⟩
  by_cases h : e < 0
  · rw [if_pos h]
    refine ⟨g, v, a, b, rfl, hg, hn.same s1, ha0 h, sa.sz, fun x hx hy H2 s2 nx r0 r1 => ?_⟩
    have sxy : S60 hx ∧ S60 hy := by
      by_cases c : g = 0
      · exact ⟨sp (r0 c).2.1 sb, sp (r0 c).2.2 sa⟩
      · obtain ⟨x0, x1, y1⟩ := nx.lt c
        rw [y1]
        exact ⟨⟨by omega, by omega⟩, ⟨by decide, by decide⟩⟩
    refine ⟨_, rfl, by split <;> omega, by split <;> omega, ?_⟩
    exact go x hx hy H2 s2 nx sxy.1 sxy.2 (fun c => by omega) (fun _ => ⟨fun c => ⟨nx.low.1, nx.low.2 c, (r0 c).1⟩, r1⟩)
  · rw [if_neg h]
    refine ⟨_, rfl, by split <;> omega, by split <;> omega, ?_⟩
    exact go v a b H1 (Same.refl _) (hn.same s1) sa sb (fun _ => ⟨rfl, rfl⟩) (fun c => absurd c h)
theorem ok__law_nu_power {P : Program} {w : World} {K : PySem.W.Frag} {mg : Str → Option Value} {base : Heap} (T : Tx K mg) : Okk P w K mg base 4 "_law_nu_power" ["ground", "one", "exponent"] (sp__law_nu_power K) := by
  obtain ⟨fd__law_unit, F__law_unit, b__law_unit, g__law_unit, k__law_unit⟩ := ok__law_unit (P := P) (w := w) (base := base) T
  obtain ⟨fd__law_times, F__law_times, b__law_times, g__law_times, k__law_times⟩ := ok__law_times (P := P) (w := w) (base := base) T
  obtain ⟨fd__law_undone, F__law_undone, b__law_undone, g__law_undone, k__law_undone⟩ := ok__law_undone (P := P) (w := w) (base := base) T
  have hf_abs := T.n_abs
  have hf_range := T.n_range
  obtain ⟨fd, F⟩ := T.f__law_nu_power
  refine ⟨fd, F.ok sc__law_nu_power (fun vs H Q E h => len__law_nu_power h) (fun cdv A outer s H vs Q E hr h => ⟨t__law_nu_power K, PSs.nox ?_, pure__law_nu_power K vs H Q E h⟩), F.bindsN (fun _ _ _ _ _ _ us hl => match us, hl with | [_, _, _], _ => rfl), T.g__law_nu_power, F.kp⟩
  exact (pss_cons (ps_par (i := 3) (j := 4) rfl sc__law_nu_power.nd rfl rfl (by decide) rfl rfl (pa_cons (pv 1) (pa_cons (pe_call F__law_unit (hr.mono (by decide)) rfl g__law_unit k__law_unit b__law_unit .nil pass0 (pa_cons (pv 0) pa_nil)) pa_nil)) (by rfl))
      (pss_cons (ps_if (pt_cmpR op_lt (pv 2) pe_int (nomark _)) (pss_one (ps_set (i := 3) sc__law_nu_power.nd rfl (by first | exact Or.inl rfl | exact Or.inr rfl) (pe_call F__law_undone (hr.mono (by decide)) rfl g__law_undone k__law_undone b__law_undone .nil pass0 (pa_cons (pv 0) (pa_cons (pv 1) pa_nil))))) pss_nil)
      (pss_cons (ps_for PassesOwn.never rfl (pi_range1 rfl hf_range (pa_cons (pe_callB call_abs (by rfl) hf_abs (by decide +kernel) (pa_cons (pv 2) pa_nil)) pa_nil)) (pg_name (i := 5) sc__law_nu_power.nd rfl (by first | exact Or.inl rfl | exact Or.inr rfl)) (pss_one (ps_set (i := 4) sc__law_nu_power.nd rfl (by first | exact Or.inl rfl | exact Or.inr rfl) (pe_call F__law_times (hr.mono (by decide)) rfl g__law_times k__law_times b__law_times .nil pass0 (pa_cons (pv 0) (pa_cons (pv 4) (pa_cons (pv 3) pa_nil)))))))
      (pss_one (ps_ret (pv 4))))))
/-! ### _law_field_right -/
theorem sc__law_field_right : FnScope ["dice", "ground", "one", "other", "far", "few", "number"] ["dice"] (defScope s__law_field_right) := ⟨rfl, rfl, rfl, by decide +kernel, rfl, by decide +kernel, by decide +kernel⟩
def sp__law_field_right (K : PySem.W.Frag) : Sp := fun vs H Q _ => ∃ d : Addr, vs = [.ref d] ∧ Dice H d ∧ ∀ H', Keep d H H' → Dice H' d → Q (.bl true) H'
theorem len__law_field_right {K : PySem.W.Frag} {vs : List V} {H : Hp} {Q : VK} {E : XK} (h : sp__law_field_right K vs H Q E) : vs.length = ["dice"].length := by
  obtain ⟨_, rfl, _⟩ := h
  rfl
def t__law_field_right_k1_b (K : PySem.W.Frag) : TS := (tSeq (tAsg (tOp rAdd (tOp rSub (tCall (sp__law_roll K) [] E0 (tCons (tVar 0) (tCons (tOp rSub (tOp rMulU (tC (.int 2)) (tOp rPowU (tC (.int 10)) (tC (.int 60)))) (tC (.int 1))) tNil))) (tOp rPowU (tC (.int 10)) (tC (.int 60)))) (tC (.int 1))) (gName 6))
  (tRet (tOp (rEqD K) (tCall (sp_whole K) [] E0 (tCons (tVar 1) (tCons (tVar 6) tNil))) (tIf (tTest (tOp rGtI (tVar 1) (tC (.int 0)))) (tOp rModU (tCB (rInt1) (tCons (tVar 6) tNil)) (tVar 1)) (tTup (tCons (tVar 6) (tCons (tC (.int 1)) tNil)))))))
def t__law_field_right_k2_b (K : PySem.W.Frag) : TS := (tSeq (tIfS (tTest (tOp (rNeD K) (tCall (sp_raised K) [] E0 (tCons (tVar 1) (tCons (tVar 2) (tCons (tVar 5) tNil)))) (tCall (sp__law_nu_power K) [] E0 (tCons (tVar 1) (tCons (tVar 2) (tCons (tVar 5) tNil)))))) (tRet (tC (.bl false))) tNext)
  (t__law_field_right_k1_b K))
def t__law_field_right_k3_b (K : PySem.W.Frag) : TS := (tSeq (tIfS (tTest (tOp (rEqD K) (tVar 2) (tCall (sp__law_zero K) [] E0 (tCons (tVar 1) tNil)))) (tAsg (tCB (rAbs) (tCons (tVar 5) tNil)) (gName 5)) tNext)
  (t__law_field_right_k2_b K))
def t__law_field_right_k4_b (K : PySem.W.Frag) : TS := (tSeq (tAsg (tCall (sp__law_pick K) [] E0 (tCons (tVar 0) (tCons (tLst (tCons (tC (.int 0)) (tCons (tC (.int 1)) (tCons (tUn rNeg (tC (.int 1))) (tCons (tC (.int 2)) (tCons (tUn rNeg (tC (.int 2))) (tCons (tC (.int 3)) (tCons (tVar 4) tNil)))))))) tNil))) (gName 5))
  (t__law_field_right_k3_b K))
def t__law_field_right_k5_b (K : PySem.W.Frag) : TS := (tSeq (tAsg (tIf (tTest (tOp rEq (tVar 1) (tC (.int 0)))) (tOp rSub (tCall (sp__law_roll K) [] E0 (tCons (tVar 0) (tCons (tC (.int 41)) tNil))) (tC (.int 20))) (tCall (sp__law_pick K) [] E0 (tCons (tVar 0) (tCons (tLst (tCons (tC (.int 1000)) (tCons (tUn rNeg (tC (.int 1000))) (tCons (tOp rSub (tCall (sp__law_roll K) [] E0 (tCons (tVar 0) (tCons (tC (.int 401)) tNil))) (tC (.int 200))) tNil)))) tNil)))) (gName 4))
  (t__law_field_right_k4_b K))
def t__law_field_right_k6_b (K : PySem.W.Frag) : TS := (tSeq (tIfS (tAnd (tTest (tOp (rNeD K) (tVar 3) (tCall (sp__law_zero K) [] E0 (tCons (tVar 1) tNil)))) (tTest (tOp (rNeD K) (tCall (sp_divided K) [] E0 (tCons (tVar 1) (tCons (tVar 2) (tCons (tVar 3) tNil)))) (tCall (sp__law_times K) [] E0 (tCons (tVar 1) (tCons (tVar 2) (tCons (tCall (sp__law_undone K) [] E0 (tCons (tVar 1) (tCons (tVar 3) tNil))) tNil))))))) (tRet (tC (.bl false))) tNext)
  (t__law_field_right_k5_b K))
def t__law_field_right_k7_b (K : PySem.W.Frag) : TS := (tSeq (tIfS (tTest (tOp (rNeD K) (tCall (sp_multiplied K) [] E0 (tCons (tVar 1) (tCons (tVar 2) (tCons (tVar 3) tNil)))) (tCall (sp__law_times K) [] E0 (tCons (tVar 1) (tCons (tVar 2) (tCons (tVar 3) tNil)))))) (tRet (tC (.bl false))) tNext)
  (t__law_field_right_k6_b K))
def t__law_field_right_k8_b (K : PySem.W.Frag) : TS := (tSeq (tIfS (tTest (tOp (rNeD K) (tCall (sp_subtracted K) [] E0 (tCons (tVar 1) (tCons (tVar 2) (tCons (tVar 3) tNil)))) (tCall (sp__law_plus K) [] E0 (tCons (tVar 1) (tCons (tVar 2) (tCons (tCall (sp__law_minus K) [] E0 (tCons (tVar 1) (tCons (tVar 3) tNil))) tNil)))))) (tRet (tC (.bl false))) tNext)
  (t__law_field_right_k7_b K))
def t__law_field_right_k9_b (K : PySem.W.Frag) : TS := (tSeq (tIfS (tTest (tOp (rNeD K) (tCall (sp_added K) [] E0 (tCons (tVar 1) (tCons (tVar 2) (tCons (tVar 3) tNil)))) (tCall (sp__law_plus K) [] E0 (tCons (tVar 1) (tCons (tVar 2) (tCons (tVar 3) tNil)))))) (tRet (tC (.bl false))) tNext)
  (t__law_field_right_k8_b K))
def t__law_field_right (K : PySem.W.Frag) : TS := (tSeq (tAsg (tCall (sp__law_nu_ground K) [] E0 (tCons (tVar 0) tNil)) (gName 1))
  (tSeq (tPar 2 3 (tCons (tCall (sp__law_nu_drawn K) [] E0 (tCons (tVar 0) (tCons (tVar 1) tNil))) (tCons (tCall (sp__law_nu_drawn K) [] E0 (tCons (tVar 0) (tCons (tVar 1) tNil))) tNil)))
  (t__law_field_right_k9_b K)))
def numD (g x y : Int) : PyData := if g = 0 then .tuple [.int x, .int y] else .int x
theorem num_dp {K : PySem.W.Frag} {H : Hp} {g : Int} {z : V} {x y : Int} (n : NumR H g z x y) : Dp K H z (numD g x y) := by
  rcases n with ⟨e, ⟨p, rfl, hp⟩, _⟩ | ⟨e, rfl, _⟩
  · unfold numD
    rw [if_pos e]
    exact .tup (sqT_of hp) (.cons (.int _) (.cons (.int _) .nil))
  · unfold numD
    rw [if_neg e]
    exact .int _
theorem numD_ok (g x y : Int) : SeqAt.shaped (numD g x y) = true := by
  unfold numD
  split <;> simp [SeqAt.shaped, PyData.canLay0, PyData.canLayAll0, PyData.depth, PyData.depthAll]
theorem numD_eqv (g x y x' y' : Int) : PyData.eqv (numD g x y) (numD g x' y') = if g = 0 then decide (x = x' ∧ y = y') else decide (x = x') := by
  unfold numD
  split
  · rw [Bool.eq_iff_iff, decide_eq_true_eq]
    simp [PyData.eqv, PyData.eqvAll]
  · rw [Bool.eq_iff_iff, decide_eq_true_eq]
    simp [PyData.eqv]
theorem num_ne {K : PySem.W.Frag} {H : Hp} {g : Int} {z z' : V} {x y x' y' : Int} {Q : VK} (n : NumR H g z x y) (n' : NumR H g z' x' y') (e : x = x' ∧ y = y') (q : Q (.bl false) H) : rNeD K z z' H Q := by
  obtain ⟨rfl, rfl⟩ := e
  refine ⟨_, _, num_dp n, num_dp n', numD_ok _ _ _, numD_ok _ _ _, ?_⟩
  have : PyData.eqv (numD g x y) (numD g x y) = true := by
    rw [numD_eqv]; split <;> simp
  rw [this]
  exact q
theorem num_eq {K : PySem.W.Frag} {H : Hp} {g : Int} {z z' : V} {x y x' y' : Int} {Q : VK} (n : NumR H g z x y) (n' : NumR H g z' x' y') (e : x = x' ∧ y = y') (q : Q (.bl true) H) : rEqD K z z' H Q := by
  obtain ⟨rfl, rfl⟩ := e
  refine ⟨_, _, num_dp n, num_dp n', numD_ok _ _ _, numD_ok _ _ _, ?_⟩
  have : PyData.eqv (numD g x y) (numD g x y) = true := by
    rw [numD_eqv]; split <;> simp
  rw [this]
  exact q
theorem num_zero {H : Hp} {g : Int} {z z' : V} {x y : Int} (n : NumR H g z x y) (n' : NumR H g z' 0 1) : PyData.eqv (numD g x y) (numD g 0 1) = decide (x = 0) := by
  rw [numD_eqv]
  split
  · rw [Bool.eq_iff_iff, decide_eq_true_eq, decide_eq_true_eq]
    constructor
    · exact fun h => h.1
    · intro h
      refine ⟨h, ?_⟩
      have := n.low.2 (by assumption)
      rw [h] at this
      have y1 := n.low.1
      simp at this
      omega
  · rfl
theorem same_num {H H' : Hp} {g : Int} {z z' : V} {x y x' y' N D : Int} (n : NumR H g z x y) (n' : NumR H' g z' x' y') (hD : g = 0 → D ≠ 0) (e : g = 0 → x * D = N * y) (e' : g = 0 → x' * D = N * y') (e2 : g ≠ 0 → x = x') : x = x' ∧ y = y' := by
  by_cases c : g = 0
  · refine low_unique n.low.1 (n.low.2 c) n'.low.1 (n'.low.2 c) ?_
    have h1 := e c
    have h2 := e' c
    refine Int.eq_of_mul_eq_mul_right (hD c) ?_
    rw [Int.mul_right_comm, h1, Int.mul_right_comm x', h2, Int.mul_right_comm]
  · exact ⟨e2 c, by rw [(n.lt c).2.2, (n'.lt c).2.2]⟩
theorem pure__law_field_right (K : PySem.W.Frag) (vs : List V) (H : Hp) (Q : VK) (E : XK) (h : sp__law_field_right K vs H Q E) : t__law_field_right K { nx := fun _ H' => Q .non H', rt := Q } (start ["dice", "ground", "one", "other", "far", "few", "number"] vs) H := by
  obtain ⟨D, rfl, hD, hq⟩ := h
  unfold t__law_field_right
  walk_at "z"
  refine ⟨D, rfl, hD, fun g H1 hg k1 d1 => ?_⟩
  have gl := ground_le hg
  have g1 : g ≠ 1 := fun c => by
    obtain ⟨m, e, _, _, h | h⟩ := hg
    · cases e; omega
    · cases e; have := h.1; omega
  refine ⟨D, g, rfl, d1, hg, fun v a b H2 k2 d2 n1 sa sb => ?_⟩
  refine ⟨D, g, rfl, d2, hg, fun w c d H3 k3 d3 n2 sc sd => ?_⟩
  have n1 : NumR H3 g v a b := by
    rcases n1 with ⟨e, ⟨p, e2, hp⟩, r⟩ | h
    · refine .inl ⟨e, ⟨p, e2, k3 _ _ (fun c => ?_) hp⟩, r⟩
      obtain ⟨_, _, _, h⟩ := d2
      rw [c, h] at hp
      cases hp
    · exact .inr h
  have K3 : Keep D H H3 := (k1.trans k2).trans k3
  have key1 : ∀ H' o4 o5, Keep D H H' → Dice H' D → t__law_field_right_k1_b K { nx := fun _ H' => Q V.non H', rt := Q } [some (.ref D), some (.int g), some v, some w, o4, o5, none] H' := by
    intro H' o4 o5 kk dd
    unfold t__law_field_right_k1_b
    walk_at "z"
    have e60 : (10 : Int) ^ (60 : Int).toNat = 10 ^ 60 := rfl
    refine ⟨cpow (by decide), mulS (by decide), D, _, rfl, dd, by rw [e60]; omega, by rw [e60]; omega, fun r H4 r0 r1 k d => ⟨cpow (by decide), ?_⟩⟩
    walk_at "z"
    rw [e60] at r1
    obtain ⟨m, em, m0, m1⟩ : ∃ m : Int, r - (10 : Int) ^ (60 : Int).toNat + 1 = m ∧ -(10 ^ 60) < m ∧ m < 10 ^ 60 := ⟨_, rfl, by rw [e60]; omega, by rw [e60]; omega⟩
    rw [em]
    refine ⟨g, m, rfl, hg, m0, m1, fun c p hp => ?_, fun c => ?_⟩
    · walk_at "z"
      rw [if_neg (by omega)]
      refine ⟨by decide, fun p2 hp2 => ?_⟩
      have sp := same_upd (o := .tup [V.int m, V.int 1]) hp2
      have nn : ∀ {Hx : Hp} {q : Addr}, Hx q = some (.tup [V.int m, V.int 1]) → NumR Hx g (.ref q) m 1 := fun h => .inl ⟨c, ⟨_, rfl, h⟩, by decide, by simp⟩
      refine num_eq (nn (sp _ _ upd_same)) (nn upd_same) ⟨rfl, rfl⟩ ?_
      exact hq _ ((kk.trans k).same ((same_upd hp).trans sp)) (d.same ((same_upd hp).trans sp))
    · walk_at "z"
      rw [if_pos (by omega)]
      have nn : NumR H4 g (.int (m % g)) (m % g) 1 := .inr ⟨c, rfl, rfl, Int.emod_nonneg _ c, Int.emod_lt_of_pos _ (by omega)⟩
      exact ⟨by omega, num_eq nn nn ⟨rfl, rfl⟩ (hq _ (kk.trans k) d)⟩
  have key2 : ∀ H' o4 (e : Int), Keep D H H' → Dice H' D → NumR H' g v a b → e.natAbs ≤ 1000 → (g = 0 → e.natAbs ≤ 20) → (e < 0 → a ≠ 0) → t__law_field_right_k2_b K { nx := fun _ H' => Q V.non H', rt := Q } [some (.ref D), some (.int g), some v, some w, o4, some (.int e), none] H' := by
    intro H' o4 e kk dd n1 he he2 hea
    unfold t__law_field_right_k2_b
    walk_at "z"
    refine ⟨g, v, a, b, e, rfl, hg, n1, sa, sb, by omega, by omega, hea, fun c p x y H4 s4 r1 r2 hp => ?_, fun c z H4 s4 r1 r2 => ?_⟩
    · refine ⟨g, v, a, b, e, rfl, hg, n1.same s4, sa, sb, he, he2, hea, fun z' X Y ha hb H5 s5 nz' c1 c2 p0 p1 => ?_⟩
      have hxy : (x = ha ∧ y = hb) ∧ 1 ≤ y ∧ Nat.gcd x.natAbs y.natAbs = 1 := by
        by_cases h : 0 ≤ e
        · have h1 := r1 h
          have h2 := c1 h
          refine ⟨⟨by rw [h1.1, h2.1], by rw [h1.2, h2.2]⟩, by rw [h1.2]; exact n1.low.1, by rw [h1.1, h1.2]; exact n1.low.2 c⟩
        · have f1 := r2 (by omega)
          have f2 := (c2 (by omega)).1 c
          refine ⟨low_unique f1.1 f1.2.1 f2.1 f2.2.1 ?_, f1.1, f1.2.1⟩
          refine Int.eq_of_mul_eq_mul_right (hea (by omega)) ?_
          have q1 := f1.2.2
          have q2 := f2.2.2
          calc x * hb * a = (x * a) * hb := by ac_rfl
            _ = (b * y) * hb := by rw [q1]
            _ = (b * hb) * y := by ac_rfl
            _ = (ha * a) * y := by rw [q2]
            _ = ha * y * a := by ac_rfl
      have np : NumR H5 g (.ref p) (x ^ e.natAbs) (y ^ e.natAbs) := .inl ⟨c, ⟨p, rfl, s5 _ _ hp⟩, pow_pos1 hxy.2.1 _, cop_pow hxy.2.2 _⟩
      refine num_ne np nz' ⟨by rw [(p0 c).1, hxy.1.1], by rw [(p0 c).2, hxy.1.2]⟩ ?_
      walk_at "z"
      exact key1 H5 _ _ (kk.same (s4.trans s5)) (dd.same (s4.trans s5))
    · refine ⟨g, v, a, b, e, rfl, hg, n1.same s4, sa, sb, he, he2, hea, fun z' X Y ha hb H5 s5 nz' c1 c2 p0 p1 => ?_⟩
      have hz : z ^ e.natAbs % g = ha ^ e.natAbs % g := by
        by_cases h : 0 ≤ e
        · rw [r1 h, (c1 h).1]
        · have f1 := r2 (by omega)
          have f2 := (c2 (by omega)).2 c
          have hz : z % g = ha % g := by
            calc z % g = (z * 1) % g := by rw [Int.mul_one]
              _ = (z * (ha * a)) % g := by rw [Int.mul_emod, ← f2, ← Int.mul_emod]
              _ = ((z * a) * ha) % g := by congr 1; ac_rfl
              _ = (1 * ha) % g := by rw [Int.mul_emod, f1, ← Int.mul_emod]
              _ = ha % g := by rw [Int.one_mul]
          rw [← pow_emod, hz, pow_emod]
      have np : NumR H5 g (.int (z ^ e.natAbs % g)) (z ^ e.natAbs % g) 1 := .inr ⟨c, rfl, rfl, Int.emod_nonneg _ c, Int.emod_lt_of_pos _ (by omega)⟩
      refine num_ne np nz' ⟨by rw [p1 c, hz], (nz'.lt c).2.2.symm⟩ ?_
      walk_at "z"
      exact key1 H5 _ _ (kk.same (s4.trans s5)) (dd.same (s4.trans s5))
  have key4 : ∀ H' (f : Int), Keep D H H' → Dice H' D → NumR H' g v a b → f.natAbs ≤ 1000 → (g = 0 → f.natAbs ≤ 20) → t__law_field_right_k4_b K { nx := fun _ H' => Q V.non H', rt := Q } [some (.ref D), some (.int g), some v, some w, some (.int f), none, none] H' := by
    intro H' f kk dd n1 hf hf2
    unfold t__law_field_right_k4_b
    walk_at "z"
    refine ⟨by decide, fun M hM => ?_⟩
    have dM : D ≠ M := by
      obtain ⟨_, _, _, h⟩ := dd
      exact ne_of_none h hM
    refine ⟨D, M, _, rfl, dd.same (same_upd hM), dM, upd_same, by simp, by simp, fun u H4 hu k4 d4 => ?_⟩
    have hk : ∃ e : Int, u = .int e ∧ e.natAbs ≤ 1000 ∧ (g = 0 → e.natAbs ≤ 20) := by
      simp only [List.mem_cons, List.not_mem_nil, or_false] at hu
      rcases hu with rfl | rfl | rfl | rfl | rfl | rfl | rfl
      · exact ⟨_, rfl, by decide, fun _ => by decide⟩
      · exact ⟨_, rfl, by decide, fun _ => by decide⟩
      · exact ⟨_, rfl, by decide, fun _ => by decide⟩
      · exact ⟨_, rfl, by decide, fun _ => by decide⟩
      · exact ⟨_, rfl, by decide, fun _ => by decide⟩
      · exact ⟨_, rfl, by decide, fun _ => by decide⟩
      · exact ⟨_, rfl, hf, hf2⟩
    obtain ⟨e, rfl, he, he2⟩ := hk
    have n4 : NumR H4 g v a b := by
      rcases n1 with ⟨e, ⟨p, e2, hp⟩, r⟩ | h
      · refine .inl ⟨e, ⟨p, e2, k4 _ _ (fun c => ?_) (same_upd hM _ _ hp)⟩, r⟩
        obtain ⟨_, _, _, h⟩ := dd
        rw [c, h] at hp
        cases hp
      · exact .inr h
    have K4 := (kk.new hM).trans k4
    unfold t__law_field_right_k3_b
    walk_at "z"
    refine ⟨g, rfl, gl.1, fun z0 H5 s5 hz => ?_⟩
    have nz := hz.resolve_left g1
    refine ⟨_, _, num_dp (n4.same s5), num_dp nz, numD_ok _ _ _, numD_ok _ _ _, ?_⟩
    rw [num_zero (n4.same s5) nz]
    walk_at "z"
    by_cases ha : a = 0
    · rw [if_pos ha]
      walk_at "z"
      exact key2 H5 _ _ (K4.same s5) (d4.same s5) (n4.same s5) (by split <;> omega) (fun c => by have := he2 c; split <;> omega) (fun c => by split at c <;> omega)
    · rw [if_neg ha]
      exact key2 H5 _ _ (K4.same s5) (d4.same s5) (n4.same s5) he he2 (fun _ => ha)
  have key5 : ∀ H', Keep D H H' → Dice H' D → NumR H' g v a b → t__law_field_right_k5_b K { nx := fun _ H' => Q V.non H', rt := Q } [some (.ref D), some (.int g), some v, some w, none, none, none] H' := by
    intro H' kk dd n1
    unfold t__law_field_right_k5_b
    walk_at "z"
    have keepN : ∀ {H4 : Hp}, Keep D H' H4 → NumR H4 g v a b := fun k4 => by
      rcases n1 with ⟨e, ⟨p, e2, hp⟩, r⟩ | h
      · refine .inl ⟨e, ⟨p, e2, k4 _ _ (fun c => ?_) hp⟩, r⟩
        obtain ⟨_, _, _, h⟩ := dd
        rw [c, h] at hp
        cases hp
      · exact .inr h
    by_cases c : g = 0
    · rw [if_pos c]
      refine ⟨D, _, rfl, dd, by decide, by decide, fun r H4 r0 r1 k4 d4 => ?_⟩
      walk_at "z"
      exact key4 H4 _ (kk.trans k4) d4 (keepN k4) (by omega) (fun _ => by omega)
    · rw [if_neg c]
      refine ⟨D, _, rfl, dd, by decide, by decide, fun r H4 r0 r1 k4 d4 => ?_⟩
      walk_at "z"
      refine ⟨by decide, fun M hM => ?_⟩
      have dM : D ≠ M := by
        obtain ⟨_, _, _, h⟩ := d4
        exact ne_of_none h hM
      refine ⟨D, M, _, rfl, d4.same (same_upd hM), dM, upd_same, by simp, by simp, fun u H5 hu k5 d5 => ?_⟩
      have hk : ∃ e : Int, u = .int e ∧ e.natAbs ≤ 1000 := by
        simp only [List.mem_cons, List.not_mem_nil, or_false] at hu
        rcases hu with rfl | rfl | rfl
        · exact ⟨_, rfl, by decide⟩
        · exact ⟨_, rfl, by decide⟩
        · exact ⟨_, rfl, by omega⟩
      obtain ⟨e, rfl, he⟩ := hk
      have k6 := (k4.new hM).trans k5
      exact key4 H5 e (kk.trans k6) d5 (keepN k6) he (fun h => absurd h c)
  have key6 : ∀ H', Keep D H H' → Dice H' D → NumR H' g v a b → NumR H' g w c d → t__law_field_right_k6_b K { nx := fun _ H' => Q V.non H', rt := Q } [some (.ref D), some (.int g), some v, some w, none, none, none] H' := by
    intro H' kk dd n1 n2
    unfold t__law_field_right_k6_b
    walk_at "z"
    refine ⟨g, rfl, gl.1, fun z0 H4 s4 hz => ?_⟩
    have nz0 := hz.resolve_left g1
    refine ⟨_, _, num_dp (n2.same s4), num_dp nz0, numD_ok _ _ _, numD_ok _ _ _, ?_⟩
    rw [num_zero (n2.same s4) nz0]
    walk_at "z"
    by_cases hc : c = 0
    · rw [if_neg (fun h => h hc)]
      exact key5 H4 (kk.same s4) (dd.same s4) (n1.same s4)
    · rw [if_pos hc]
      refine ⟨g, v, w, a, b, c, d, rfl, hg, n1.same s4, n2.same s4, sa, sb, sc, sd, hc, fun z x y H5 s5 nz e0 e1 => ?_⟩
      walk_at "z"
      refine ⟨g, w, c, d, rfl, hg, (n2.same s4).same s5, hc, sc.sz, fun u ux uy H6 s6 nu u0 u1 => ?_⟩
      have su : Sz 4000 ux ∧ Sz 4000 uy := by
        by_cases h : g = 0
        · exact ⟨sz_mono (sz_le sd.sz (u0 h).2.1) (by decide), sz_mono (sz_le sc.sz (u0 h).2.2) (by decide)⟩
        · obtain ⟨x0, x1, y1⟩ := nu.lt h
          have gs := sz_mono (ground_sz hg) (show 1000 ≤ 4000 by decide)
          rw [y1]
          exact ⟨sz_le gs (by omega), sz_le gs (by omega)⟩
      refine ⟨g, v, u, a, b, ux, uy, rfl, gl.1, ((n1.same s4).same s5).same s6, nu, sz_mono sa.sz (by decide), sz_mono sb.sz (by decide), su.1, su.2, fun z' x' y' H7 s7 nz' t0 t1 => ?_⟩
      have b1 := n1.low.1
      refine num_ne ((nz.same s6).same s7) nz' (same_num nz nz' (fun _ => Int.mul_ne_zero (by omega) hc) (fun h => (e0 h).1) (fun h => ?_) (fun h => ?_)) ?_
      · have q1 := (t0 h).1
        have q2 := (u0 h).1
        refine Int.eq_of_mul_eq_mul_right (show uy ≠ 0 by have := nu.low.1; omega) ?_
        calc x' * (b * c) * uy = (x' * (b * uy)) * c := by ac_rfl
          _ = (a * ux * y') * c := by rw [q1]
          _ = a * (ux * c) * y' := by ac_rfl
          _ = a * (d * uy) * y' := by rw [q2]
          _ = a * d * y' * uy := by ac_rfl
      · obtain ⟨x0, x1, _⟩ := nz.lt h
        rw [t1 h]
        calc x = x % g := (Int.emod_eq_of_lt x0 x1).symm
          _ = (x * 1) % g := by rw [Int.mul_one]
          _ = (x * (ux * c)) % g := by rw [Int.mul_emod, ← u1 h, ← Int.mul_emod]
          _ = ((x * c) * ux) % g := by congr 1; ac_rfl
          _ = (a * (ux % g)) % g := by rw [Int.mul_emod, e1 h]
          _ = (a * ux) % g := by rw [Int.mul_emod a (ux % g), emod_emod', ← Int.mul_emod]
      · walk_at "z"
        have s := ((s4.trans s5).trans s6).trans s7
        exact key5 H7 (kk.same s) (dd.same s) (n1.same s)
  have key7 : ∀ H', Keep D H H' → Dice H' D → NumR H' g v a b → NumR H' g w c d → t__law_field_right_k7_b K { nx := fun _ H' => Q V.non H', rt := Q } [some (.ref D), some (.int g), some v, some w, none, none, none] H' := by
    intro H' kk dd n1 n2
    unfold t__law_field_right_k7_b
    walk_at "z"
    refine ⟨g, v, w, a, b, c, d, rfl, hg, n1, n2, sa, sb, sc, sd, fun z x y H4 s4 nz e0 e1 => ?_⟩
    refine ⟨g, v, w, a, b, c, d, rfl, gl.1, n1.same s4, n2.same s4, sz_mono sa.sz (by decide), sz_mono sb.sz (by decide), sz_mono sc.sz (by decide), sz_mono sd.sz (by decide), fun z' x' y' H5 s5 nz' e0' e1' => ?_⟩
    refine num_ne (nz.same s5) nz' (same_num nz nz' (fun _ => Int.mul_ne_zero (by have := n1.low.1; omega) (by have := n2.low.1; omega)) (fun h => (e0 h).1) (fun h => (e0' h).1) (fun h => by rw [e1 h, e1' h])) ?_
    walk_at "z"
    have s := s4.trans s5
    exact key6 H5 (kk.same s) (dd.same s) (n1.same s) (n2.same s)
  have key8 : ∀ H', Keep D H H' → Dice H' D → NumR H' g v a b → NumR H' g w c d → t__law_field_right_k8_b K { nx := fun _ H' => Q V.non H', rt := Q } [some (.ref D), some (.int g), some v, some w, none, none, none] H' := by
    intro H' kk dd n1 n2
    unfold t__law_field_right_k8_b
    walk_at "z"
    refine ⟨g, v, w, a, b, c, d, rfl, hg, n1, n2, sa, sb, sc, sd, fun z x y H4 s4 nz e0 e1 => ?_⟩
    walk_at "z"
    refine ⟨g, w, c, d, rfl, gl.1, n2.same s4, fun w2 c2 H5 s5 nw f0 f1 => ?_⟩
    have sc2 : Sz 3000 c2 := by
      by_cases h : g = 0
      · rw [f0 h]; exact sz_le sc.sz (by omega)
      · have := nw.lt h
        exact sz_le (sz_mono (ground_sz hg) (show 1000 ≤ 3000 by decide)) (by omega)
    refine ⟨g, v, w2, a, b, c2, d, rfl, gl.1, (n1.same s4).same s5, nw, sa.sz, sb.sz, sc2, sd.sz, fun z' x' y' H6 s6 nz' e0' e1' => ?_⟩
    refine num_ne ((nz.same s5).same s6) nz' (same_num nz nz' (fun _ => Int.mul_ne_zero (by have := n1.low.1; omega) (by have := n2.low.1; omega)) (fun h => (e0 h).1) (fun h => ?_) (fun h => ?_)) ?_
    · have := e0' h
      rw [f0 h, Int.neg_mul] at this
      rw [this]
      congr 1
    · rw [e1 h, e1' h, f1 h, Int.add_emod a, emod_emod', ← Int.add_emod]
      rfl
    · walk_at "z"
      have s := (s4.trans s5).trans s6
      exact key7 H6 (kk.same s) (dd.same s) (n1.same s) (n2.same s)
  unfold t__law_field_right_k9_b
  walk_at "z"
  refine ⟨g, v, w, a, b, c, d, rfl, hg, n1, n2, sa, sb, sc, sd, fun z x y H4 s4 nz e0 e1 => ?_⟩
  refine ⟨g, v, w, a, b, c, d, rfl, gl.1, n1.same s4, n2.same s4, sa.sz, sb.sz, sc.sz, sd.sz, fun z' x' y' H5 s5 nz' e0' e1' => ?_⟩
  refine num_ne (nz.same s5) nz' (same_num nz nz' (fun _ => Int.mul_ne_zero (by have := n1.low.1; omega) (by have := n2.low.1; omega)) (fun h => (e0 h).1) e0' (fun h => by rw [e1 h, e1' h])) ?_
  walk_at "z"
  have s := s4.trans s5
  exact key8 H5 (K3.same s) (d3.same s) (n1.same s) (n2.same s)

theorem ok__law_field_right {P : Program} {w : World} {K : PySem.W.Frag} {mg : Str → Option Value} {base : Heap} (T : Tx K mg) : Okk P w K mg base 8 "_law_field_right" ["dice"] (sp__law_field_right K) := by
  obtain ⟨fd_whole, F_whole, b_whole, g_whole, k_whole⟩ := ok_whole (P := P) (w := w) (base := base) T
  obtain ⟨fd_added, F_added, b_added, g_added, k_added⟩ := ok_added (P := P) (w := w) (base := base) T
  obtain ⟨fd_subtracted, F_subtracted, b_subtracted, g_subtracted, k_subtracted⟩ := ok_subtracted (P := P) (w := w) (base := base) T
  obtain ⟨fd_multiplied, F_multiplied, b_multiplied, g_multiplied, k_multiplied⟩ := ok_multiplied (P := P) (w := w) (base := base) T
  obtain ⟨fd_divided, F_divided, b_divided, g_divided, k_divided⟩ := ok_divided (P := P) (w := w) (base := base) T
  obtain ⟨fd_raised, F_raised, b_raised, g_raised, k_raised⟩ := ok_raised (P := P) (w := w) (base := base) T
  obtain ⟨fd__law_roll, F__law_roll, b__law_roll, g__law_roll, k__law_roll⟩ := ok__law_roll (P := P) (w := w) (base := base) T
  obtain ⟨fd__law_pick, F__law_pick, b__law_pick, g__law_pick, k__law_pick⟩ := ok__law_pick (P := P) (w := w) (base := base) T
  obtain ⟨fd__law_zero, F__law_zero, b__law_zero, g__law_zero, k__law_zero⟩ := ok__law_zero (P := P) (w := w) (base := base) T
  obtain ⟨fd__law_plus, F__law_plus, b__law_plus, g__law_plus, k__law_plus⟩ := ok__law_plus (P := P) (w := w) (base := base) T
  obtain ⟨fd__law_minus, F__law_minus, b__law_minus, g__law_minus, k__law_minus⟩ := ok__law_minus (P := P) (w := w) (base := base) T
  obtain ⟨fd__law_times, F__law_times, b__law_times, g__law_times, k__law_times⟩ := ok__law_times (P := P) (w := w) (base := base) T
  obtain ⟨fd__law_undone, F__law_undone, b__law_undone, g__law_undone, k__law_undone⟩ := ok__law_undone (P := P) (w := w) (base := base) T
  obtain ⟨fd__law_nu_ground, F__law_nu_ground, b__law_nu_ground, g__law_nu_ground, k__law_nu_ground⟩ := ok__law_nu_ground (P := P) (w := w) (base := base) T
  obtain ⟨fd__law_nu_drawn, F__law_nu_drawn, b__law_nu_drawn, g__law_nu_drawn, k__law_nu_drawn⟩ := ok__law_nu_drawn (P := P) (w := w) (base := base) T
  obtain ⟨fd__law_nu_power, F__law_nu_power, b__law_nu_power, g__law_nu_power, k__law_nu_power⟩ := ok__law_nu_power (P := P) (w := w) (base := base) T
  have hf_abs := T.n_abs
  have hf_int := T.n_int
  obtain ⟨fd, F⟩ := T.f__law_field_right
  refine ⟨fd, F.ok sc__law_field_right (fun vs H Q E h => len__law_field_right h) (fun cdv A outer s H vs Q E hr h => ⟨t__law_field_right K, PSs.nox ?_, pure__law_field_right K vs H Q E h⟩), F.bindsN (fun _ _ _ _ _ _ us hl => match us, hl with | [_], _ => rfl), T.g__law_field_right, F.kp⟩
  have hu64 := hu64_of hr
  exact (pss_cons (ps_set (i := 1) sc__law_field_right.nd rfl (by first | exact Or.inl rfl | exact Or.inr rfl) (pe_call F__law_nu_ground (hr.mono (by decide)) rfl g__law_nu_ground k__law_nu_ground b__law_nu_ground .nil pass0 (pa_cons (pv 0) pa_nil)))
      (pss_cons (ps_par (i := 2) (j := 3) rfl sc__law_field_right.nd rfl rfl (by decide) rfl rfl (pa_cons (pe_call F__law_nu_drawn (hr.mono (by decide)) rfl g__law_nu_drawn k__law_nu_drawn b__law_nu_drawn .nil pass0 (pa_cons (pv 0) (pa_cons (pv 1) pa_nil))) (pa_cons (pe_call F__law_nu_drawn (hr.mono (by decide)) rfl g__law_nu_drawn k__law_nu_drawn b__law_nu_drawn .nil pass0 (pa_cons (pv 0) (pa_cons (pv 1) pa_nil))) pa_nil)) (by rfl))
      (pss_cons (ps_if (pt_cmpR (op_neD hu64) (pe_call F_added (hr.mono (by decide)) rfl g_added k_added b_added .nil pass0 (pa_cons (pv 1) (pa_cons (pv 2) (pa_cons (pv 3) pa_nil)))) (pe_call F__law_plus (hr.mono (by decide)) rfl g__law_plus k__law_plus b__law_plus .nil pass0 (pa_cons (pv 1) (pa_cons (pv 2) (pa_cons (pv 3) pa_nil)))) (nomark _)) (pss_one (ps_ret pe_bl)) pss_nil)
      (pss_cons (ps_if (pt_cmpR (op_neD hu64) (pe_call F_subtracted (hr.mono (by decide)) rfl g_subtracted k_subtracted b_subtracted .nil pass0 (pa_cons (pv 1) (pa_cons (pv 2) (pa_cons (pv 3) pa_nil)))) (pe_call F__law_plus (hr.mono (by decide)) rfl g__law_plus k__law_plus b__law_plus .nil pass0 (pa_cons (pv 1) (pa_cons (pv 2) (pa_cons (pe_call F__law_minus (hr.mono (by decide)) rfl g__law_minus k__law_minus b__law_minus .nil pass0 (pa_cons (pv 1) (pa_cons (pv 3) pa_nil))) pa_nil)))) (nomark _)) (pss_one (ps_ret pe_bl)) pss_nil)
      (pss_cons (ps_if (pt_cmpR (op_neD hu64) (pe_call F_multiplied (hr.mono (by decide)) rfl g_multiplied k_multiplied b_multiplied .nil pass0 (pa_cons (pv 1) (pa_cons (pv 2) (pa_cons (pv 3) pa_nil)))) (pe_call F__law_times (hr.mono (by decide)) rfl g__law_times k__law_times b__law_times .nil pass0 (pa_cons (pv 1) (pa_cons (pv 2) (pa_cons (pv 3) pa_nil)))) (nomark _)) (pss_one (ps_ret pe_bl)) pss_nil)
      (pss_cons (ps_if (PW.pt (pw_and (pt_cmpR (op_neD hu64) (pv 3) (pe_call F__law_zero (hr.mono (by decide)) rfl g__law_zero k__law_zero b__law_zero .nil pass0 (pa_cons (pv 1) pa_nil)) (nomark _)) (pw_and1 (pt_cmpR (op_neD hu64) (pe_call F_divided (hr.mono (by decide)) rfl g_divided k_divided b_divided .nil pass0 (pa_cons (pv 1) (pa_cons (pv 2) (pa_cons (pv 3) pa_nil)))) (pe_call F__law_times (hr.mono (by decide)) rfl g__law_times k__law_times b__law_times .nil pass0 (pa_cons (pv 1) (pa_cons (pv 2) (pa_cons (pe_call F__law_undone (hr.mono (by decide)) rfl g__law_undone k__law_undone b__law_undone .nil pass0 (pa_cons (pv 1) (pa_cons (pv 3) pa_nil))) pa_nil)))) (nomark _))))) (pss_one (ps_ret pe_bl)) pss_nil)
      (pss_cons (ps_set (i := 4) sc__law_field_right.nd rfl (by first | exact Or.inl rfl | exact Or.inr rfl) (pe_ifExp (pt_cmpR op_eq (pv 1) pe_int (nomark _)) (pe_op op_sub (pe_call F__law_roll (hr.mono (by decide)) rfl g__law_roll k__law_roll b__law_roll .nil pass0 (pa_cons (pv 0) (pa_cons pe_int pa_nil))) pe_int) (pe_call F__law_pick (hr.mono (by decide)) rfl g__law_pick k__law_pick b__law_pick .nil pass0 (pa_cons (pv 0) (pa_cons (pe_lst (pa_cons pe_int (pa_cons (pe_un un_neg pe_int) (pa_cons (pe_op op_sub (pe_call F__law_roll (hr.mono (by decide)) rfl g__law_roll k__law_roll b__law_roll .nil pass0 (pa_cons (pv 0) (pa_cons pe_int pa_nil))) pe_int) pa_nil)))) pa_nil)))))
      (pss_cons (ps_set (i := 5) sc__law_field_right.nd rfl (by first | exact Or.inl rfl | exact Or.inr rfl) (pe_call F__law_pick (hr.mono (by decide)) rfl g__law_pick k__law_pick b__law_pick .nil pass0 (pa_cons (pv 0) (pa_cons (pe_lst (pa_cons pe_int (pa_cons pe_int (pa_cons (pe_un un_neg pe_int) (pa_cons pe_int (pa_cons (pe_un un_neg pe_int) (pa_cons pe_int (pa_cons (pv 4) pa_nil)))))))) pa_nil))))
      (pss_cons (ps_if (pt_cmpR (op_eqD hu64) (pv 2) (pe_call F__law_zero (hr.mono (by decide)) rfl g__law_zero k__law_zero b__law_zero .nil pass0 (pa_cons (pv 1) pa_nil)) (nomark _)) (pss_one (ps_set (i := 5) sc__law_field_right.nd rfl (by first | exact Or.inl rfl | exact Or.inr rfl) (pe_callB call_abs (by rfl) hf_abs (by decide +kernel) (pa_cons (pv 5) pa_nil)))) pss_nil)
      (pss_cons (ps_if (pt_cmpR (op_neD hu64) (pe_call F_raised (hr.mono (by decide)) rfl g_raised k_raised b_raised .nil pass0 (pa_cons (pv 1) (pa_cons (pv 2) (pa_cons (pv 5) pa_nil)))) (pe_call F__law_nu_power (hr.mono (by decide)) rfl g__law_nu_power k__law_nu_power b__law_nu_power .nil pass0 (pa_cons (pv 1) (pa_cons (pv 2) (pa_cons (pv 5) pa_nil)))) (nomark _)) (pss_one (ps_ret pe_bl)) pss_nil)
      (pss_cons (ps_set (i := 6) sc__law_field_right.nd rfl (by first | exact Or.inl rfl | exact Or.inr rfl) (pe_op op_add (pe_op op_sub (pe_call F__law_roll (hr.mono (by decide)) rfl g__law_roll k__law_roll b__law_roll .nil pass0 (pa_cons (pv 0) (pa_cons (pe_op op_sub (pe_op op_mulU pe_int (pe_op op_pow pe_int pe_int)) pe_int) pa_nil))) (pe_op op_pow pe_int pe_int)) pe_int))
      (pss_one (ps_ret (pe_cmpR (op_eqD hu64) (pe_call F_whole (hr.mono (by decide)) rfl g_whole k_whole b_whole .nil pass0 (pa_cons (pv 1) (pa_cons (pv 6) pa_nil))) (pe_ifExp (pt_cmpR op_gt (pv 1) pe_int (nomark _)) (pe_op op_mod (pe_callTy call_int1 (by rfl) hf_int (by decide +kernel) (pa_cons (pv 6) pa_nil)) (pv 1)) (pe_tup (pa_cons (pv 6) (pa_cons pe_int pa_nil)))) (nomark _)))))))))))))))
/-! ### _law_fractions_right -/
theorem sc__law_fractions_right : FnScope ["dice", "one", "other", "many", "sign", "top", "bottom", "near", "less", "found", "prime", "some", "turn", "part", "told", "first", "last"] ["dice"] (defScope s__law_fractions_right) := ⟨rfl, rfl, rfl, by decide +kernel, rfl, by decide +kernel, by decide +kernel⟩
def sp__law_fractions_right (K : PySem.W.Frag) : Sp := fun vs H Q _ => ∃ d : Addr, vs = [.ref d] ∧ Dice H d ∧ ∀ H', Keep d H H' → Dice H' d → Q (.bl true) H'
theorem len__law_fractions_right {K : PySem.W.Frag} {vs : List V} {H : Hp} {Q : VK} {E : XK} (h : sp__law_fractions_right K vs H Q E) : vs.length = ["dice"].length := by
  obtain ⟨_, rfl, _⟩ := h
  rfl
def t__law_fractions_right_f1_b (K : PySem.W.Frag) : TS := (tIfS (tTest (tOp rNe (tOp rModU (tCB (rInt1) (tCons (tOp (rIxA K) (tVar 13) (tC (.int 1))) tNil)) (tVar 10)) (tC (.int 0)))) (tSeq (tAsg (tCall (sp_read_at K) [] E0 (tCons (tVar 10) (tCons (tVar 13) tNil))) (gName 14))
  (tIfS (tOr (tNot (tTest (tChain rLeI rLtI (tC (.int 0)) (tVar 14) (tVar 10)))) (tTest (tOp rNe (tOp rModU (tCB (rInt1) (tCons (tOp rSub (tOp rMulU (tVar 14) (tOp (rIxA K) (tVar 13) (tC (.int 1)))) (tOp (rIxA K) (tVar 13) (tC (.int 0)))) tNil)) (tVar 10)) (tC (.int 0))))) (tRet (tC (.bl false))) tNext)) tNext)
def t__law_fractions_right_k2_b (K : PySem.W.Frag) : TS := (tSeq (tIfS (tTest (tOp rEq (tOp rModU (tCB (rInt1) (tCons (tOp rMulU (tOp (rIxA K) (tVar 15) (tC (.int 1))) (tOp (rIxA K) (tVar 16) (tC (.int 1)))) tNil)) (tVar 10)) (tC (.int 0)))) (tRet (tC (.bl true))) tNext)
  (tSeq (tIfS (tTest (tOp rNe (tCall (sp_read_at K) [] E0 (tCons (tVar 10) (tCons (tCall (sp_added K) [] E0 (tCons (tC (.int 0)) (tCons (tVar 15) (tCons (tVar 16) tNil)))) tNil))) (tOp rModU (tCB (rInt1) (tCons (tOp rAdd (tCall (sp_read_at K) [] E0 (tCons (tVar 10) (tCons (tVar 15) tNil))) (tCall (sp_read_at K) [] E0 (tCons (tVar 10) (tCons (tVar 16) tNil)))) tNil)) (tVar 10)))) (tRet (tC (.bl false))) tNext)
  (tRet (tOp rEq (tCall (sp_read_at K) [] E0 (tCons (tVar 10) (tCons (tCall (sp_multiplied K) [] E0 (tCons (tC (.int 0)) (tCons (tVar 15) (tCons (tVar 16) tNil)))) tNil))) (tOp rModU (tCB (rInt1) (tCons (tOp rMulU (tCall (sp_read_at K) [] E0 (tCons (tVar 10) (tCons (tVar 15) tNil))) (tCall (sp_read_at K) [] E0 (tCons (tVar 10) (tCons (tVar 16) tNil)))) tNil)) (tVar 10))))))
def t__law_fractions_right_k3_b (K : PySem.W.Frag) : TS := (tSeq (tAsg (tOp rCat (tLc (iRng1 (tCons (tC (.int 2)) tNil)) (gName 12) tYes (tCall (sp__law_fraction K) [] E0 (tCons (tOp rSub (tCall (sp__law_roll K) [] E0 (tCons (tVar 0) (tCons (tC (.int 199)) tNil))) (tC (.int 99))) (tCons (tOp rAdd (tC (.int 1)) (tCall (sp__law_roll K) [] E0 (tCons (tVar 0) (tCons (tC (.int 60)) tNil)))) tNil))) [12]) (tLst (tCons (tVar 1) tNil))) (gName 11))
  (tSeq (tFor (iList K (tVar 11)) (gName 13) (t__law_fractions_right_f1_b K))
  (tSeq (tPar 15 16 (tCons (tOp (rIxA K) (tVar 11) (tC (.int 0))) (tCons (tOp (rIxA K) (tVar 11) (tC (.int 1))) tNil)))
  (t__law_fractions_right_k2_b K))))
def t__law_fractions_right_k4_b (K : PySem.W.Frag) : TS := (tSeq (tIfS (tOr (tB (tCB (rIsi K) (tCons (tVar 9) (tCons (tC (.ty "bool")) tNil)))) (tNot (tTest (tChain rLeI rLtI (tOp rMulU (tVar 9) (tOp (rIxA K) (tVar 1) (tC (.int 1)))) (tOp (rIxA K) (tVar 1) (tC (.int 0))) (tOp rMulU (tOp rAdd (tVar 9) (tC (.int 1))) (tOp (rIxA K) (tVar 1) (tC (.int 1)))))))) (tRet (tC (.bl false))) tNext)
  (tSeq (tAsg (tCall (sp__law_pick K) [] E0 (tCons (tVar 0) (tCons (tLst (tCons (tC (.int 2)) (tCons (tC (.int 3)) (tCons (tC (.int 5)) (tCons (tC (.int 7)) (tCons (tC (.int 97)) (tCons (tC (.int 997)) (tCons (tC (.int 9973)) tNil)))))))) tNil))) (gName 10))
  (t__law_fractions_right_k3_b K)))
def t__law_fractions_right_k5_b (K : PySem.W.Frag) : TS := (tSeq (tAsg (tCall (sp__law_pick K) [] E0 (tCons (tVar 0) (tCons (tLst (tCons (tVar 1) (tCons (tVar 2) (tCons (tCall (sp__law_fraction K) [] E0 (tCons (tOp (rIxA K) (tVar 7) (tC (.int 0))) (tCons (tOp (rIxA K) (tVar 7) (tC (.int 1))) tNil))) tNil)))) tNil))) (gName 7))
  (tSeq (tAsg (tOp rSub (tOp rMulU (tOp (rIxA K) (tVar 1) (tC (.int 0))) (tOp (rIxA K) (tVar 7) (tC (.int 1)))) (tOp rMulU (tOp (rIxA K) (tVar 7) (tC (.int 0))) (tOp (rIxA K) (tVar 1) (tC (.int 1))))) (gName 8))
  (tSeq (tIfS (tTest (tOp rNe (tCall (sp_compared K) [] E0 (tCons (tVar 1) (tCons (tVar 7) tNil))) (tOp rSub (tCB (rInt1) (tCons (tOp rGtI (tVar 8) (tC (.int 0))) tNil)) (tCB (rInt1) (tCons (tOp rLtI (tVar 8) (tC (.int 0))) tNil))))) (tRet (tC (.bl false))) tNext)
  (tSeq (tAsg (tCall (sp_rounded K) [] E0 (tCons (tVar 1) tNil)) (gName 9))
  (t__law_fractions_right_k4_b K)))))
def t__law_fractions_right_k6_b (K : PySem.W.Frag) : TS := (tSeq (tAsg (tTup (tCons (tOp rAdd (tOp rDivU (tOp (rIxA K) (tVar 1) (tC (.int 0))) (tC (.int 10))) (tC (.int 1))) (tCons (tOp (rIxA K) (tVar 1) (tC (.int 1))) tNil))) (gName 7))
  (t__law_fractions_right_k5_b K))
def t__law_fractions_right (K : PySem.W.Frag) : TS := (tSeq (tPar 1 2 (tCons (tCall (sp__law_nu_drawn K) [] E0 (tCons (tVar 0) (tCons (tC (.int 0)) tNil))) (tCons (tCall (sp__law_nu_drawn K) [] E0 (tCons (tVar 0) (tCons (tC (.int 0)) tNil))) tNil)))
  (tSeq (tPar 3 4 (tCons (tOp rAdd (tC (.int 1)) (tCall (sp__law_roll K) [] E0 (tCons (tVar 0) (tCons (tC (.int 9)) tNil)))) (tCons (tCall (sp__law_pick K) [] E0 (tCons (tVar 0) (tCons (tLst (tCons (tC (.int 1)) (tCons (tUn rNeg (tC (.int 1))) tNil))) tNil))) tNil)))
  (tSeq (tPar 5 6 (tCons (tOp rMulU (tOp rDivU (tCall (sp__law_pick K) [] E0 (tCons (tVar 0) (tCons (tLst (tCons (tOp (rIxA K) (tVar 1) (tC (.int 0))) (tCons (tOp rSub (tCall (sp__law_roll K) [] E0 (tCons (tVar 0) (tCons (tC (.int 99)) tNil))) (tC (.int 49))) tNil))) tNil))) (tC (.int 9))) (tVar 3)) (tCons (tOp rMulU (tOp rMulU (tOp rAdd (tC (.int 1)) (tCall (sp__law_roll K) [] E0 (tCons (tVar 0) (tCons (tC (.int 50)) tNil)))) (tVar 3)) (tVar 4)) tNil)))
  (tSeq (tIfS (tTest (tOp (rNeD K) (tCall (sp_fraction K) [] E0 (tCons (tVar 5) (tCons (tVar 6) tNil))) (tCall (sp__law_fraction K) [] E0 (tCons (tVar 5) (tCons (tVar 6) tNil))))) (tRet (tC (.bl false))) tNext)
  (t__law_fractions_right_k6_b K)))))
theorem num_keep {D : Addr} {H H' : Hp} {g : Int} {v : V} {a b : Int} (dd : Dice H D) (k : Keep D H H') (n : NumR H g v a b) : NumR H' g v a b := by
  rcases n with ⟨e, ⟨p, e2, hp⟩, r⟩ | h
  · refine .inl ⟨e, ⟨p, e2, k _ _ (fun c => ?_) hp⟩, r⟩
    obtain ⟨_, _, _, h⟩ := dd
    rw [c, h] at hp
    cases hp
  · exact .inr h
theorem pr_cancel {p k m n : Int} (hp : GroundV (.int p)) (hp0 : p ≠ 0) (hk : k % p ≠ 0) (h : (k * m) % p = (k * n) % p) : m % p = n % p := by
  have hc := prime_cop hp hp0 hk
  have h1 : (k % p * m) % p = (k % p * n) % p := by
    rw [Int.mul_emod, emod_emod', ← Int.mul_emod, h, Int.mul_emod (k % p), emod_emod', ← Int.mul_emod]
  have h2 : p ∣ k % p * (m - n) := by
    rw [Int.mul_sub]
    exact Int.dvd_of_emod_eq_zero (Int.emod_eq_emod_iff_emod_sub_eq_zero.mp h1)
  have h3 : p ∣ m - n := by
    have := Int.natAbs_dvd_natAbs.mpr h2
    rw [Int.natAbs_mul] at this
    exact Int.natAbs_dvd_natAbs.mp (Nat.Coprime.dvd_of_dvd_mul_left (by rw [Nat.Coprime, Nat.gcd_comm]; exact hc) this)
  exact Int.emod_eq_emod_iff_emod_sub_eq_zero.mpr (Int.emod_eq_zero_of_dvd h3)
theorem nd_left {p b d : Int} (h : (b * d) % p ≠ 0) : b % p ≠ 0 ∧ d % p ≠ 0 := by
  constructor
  · intro c
    exact h (Int.emod_eq_zero_of_dvd (Int.dvd_trans (Int.dvd_of_emod_eq_zero c) (Int.dvd_mul_right b d)))
  · intro c
    exact h (Int.emod_eq_zero_of_dvd (Int.dvd_trans (Int.dvd_of_emod_eq_zero c) (Int.dvd_mul_left b d)))
theorem nd_mul {p b d : Int} (hp : GroundV (.int p)) (hp0 : p ≠ 0) (hb : b % p ≠ 0) (hd : d % p ≠ 0) : (b * d) % p ≠ 0 := by
  intro c
  refine hd ?_
  have := pr_cancel (m := d) (n := 0) hp hp0 hb (by rw [c, Int.mul_zero, Int.zero_emod])
  rw [this, Int.zero_emod]
/-- the bottom of a fraction in lowest terms divides each other bottom -/
theorem low_nd {p x y N B : Int} (hc : Nat.gcd x.natAbs y.natAbs = 1) (e : x * B = N * y) (h : B % p ≠ 0) : y % p ≠ 0 := by
  intro c
  refine h (Int.emod_eq_zero_of_dvd (Int.dvd_trans (Int.dvd_of_emod_eq_zero c) ?_))
  have h2 : y ∣ x * B := ⟨N, by rw [e, Int.mul_comm]⟩
  have := Int.natAbs_dvd_natAbs.mpr h2
  rw [Int.natAbs_mul] at this
  exact Int.natAbs_dvd_natAbs.mp (Nat.Coprime.dvd_of_dvd_mul_left (by rw [Nat.Coprime, Nat.gcd_comm]; exact hc) this)
theorem mul_congr {p a a' b b' : Int} (h : a % p = a' % p) (h2 : b % p = b' % p) : (a * b) % p = (a' * b') % p := by
  rw [Int.mul_emod, h, h2, ← Int.mul_emod]
theorem read_sum {p w w1 w2 x y a b c d : Int} (hp : GroundV (.int p)) (hp0 : p ≠ 0) (hb : b % p ≠ 0) (hd : d % p ≠ 0) (hy : y % p ≠ 0) (e : x * (b * d) = (a * d + c * b) * y) (h : (w * y) % p = x % p) (h1 : (w1 * b) % p = a % p) (h2 : (w2 * d) % p = c % p) (w0 : 0 ≤ w) (wp : w < p) : w = (w1 + w2) % p := by
  have k : (y * (b * d)) % p ≠ 0 := nd_mul hp hp0 hy (nd_mul hp hp0 hb hd)
  have : w % p = (w1 + w2) % p := by
    refine pr_cancel hp hp0 k ?_
    calc (y * (b * d) * w) % p = ((w * y) * (b * d)) % p := by congr 1; ac_rfl
      _ = (x * (b * d)) % p := mul_congr h rfl
      _ = ((a * d + c * b) * y) % p := by rw [e]
      _ = ((w1 * b * d + w2 * d * b) * y) % p := by
        refine mul_congr ?_ rfl
        rw [Int.add_emod, mul_congr h1.symm rfl, mul_congr h2.symm rfl, ← Int.add_emod]
      _ = (y * (b * d) * (w1 + w2)) % p := by
        congr 1
        rw [Int.add_mul, Int.mul_add]
        congr 1 <;> ac_rfl
  rw [← this, Int.emod_eq_of_lt w0 wp]
theorem read_mul {p w w1 w2 x y a b c d : Int} (hp : GroundV (.int p)) (hp0 : p ≠ 0) (hb : b % p ≠ 0) (hd : d % p ≠ 0) (hy : y % p ≠ 0) (e : x * (b * d) = (a * c) * y) (h : (w * y) % p = x % p) (h1 : (w1 * b) % p = a % p) (h2 : (w2 * d) % p = c % p) (w0 : 0 ≤ w) (wp : w < p) : w = (w1 * w2) % p := by
  have k : (y * (b * d)) % p ≠ 0 := nd_mul hp hp0 hy (nd_mul hp hp0 hb hd)
  have : w % p = (w1 * w2) % p := by
    refine pr_cancel hp hp0 k ?_
    calc (y * (b * d) * w) % p = ((w * y) * (b * d)) % p := by congr 1; ac_rfl
      _ = (x * (b * d)) % p := mul_congr h rfl
      _ = ((a * c) * y) % p := by rw [e]
      _ = (((w1 * b) * (w2 * d)) * y) % p := mul_congr (mul_congr h1.symm h2.symm) rfl
      _ = (y * (b * d) * (w1 * w2)) % p := by congr 1; ac_rfl
  rw [← this, Int.emod_eq_of_lt w0 wp]
theorem num0 {H : Hp} {v : V} {a b : Int} (n : NumR H 0 v a b) : ∃ p, v = .ref p ∧ H p = some (.tup [.int a, .int b]) ∧ 1 ≤ b ∧ Nat.gcd a.natAbs b.natAbs = 1 := by
  rcases n with ⟨_, ⟨p, e, h⟩, b1, hc⟩ | ⟨h, _⟩
  · exact ⟨p, e, h, b1, hc⟩
  · exact absurd rfl h
theorem num_upd {H : Hp} {L : Addr} {zs : List V} {o : HO} {z : V} {x y : Int} (h : H L = some (.lst zs)) (n : NumR H 0 z x y) : NumR (upd H L o) 0 z x y := by
  obtain ⟨p, rfl, hp, hy, hc⟩ := num0 n
  refine .inl ⟨rfl, ⟨p, rfl, ?_⟩, hy, hc⟩
  rw [upd_ne]
  · exact hp
  · rintro rfl
    rw [h] at hp
    cases hp
theorem pure__law_fractions_right (K : PySem.W.Frag) (vs : List V) (H : Hp) (Q : VK) (E : XK) (h : sp__law_fractions_right K vs H Q E) : t__law_fractions_right K { nx := fun _ H' => Q .non H', rt := Q } (start ["dice", "one", "other", "many", "sign", "top", "bottom", "near", "less", "found", "prime", "some", "turn", "part", "told", "first", "last"] vs) H := by
  obtain ⟨D, rfl, hD, hq⟩ := h
  have g0 : GroundV (.int 0) := ⟨0, rfl, by decide, by decide, .inl rfl⟩
  unfold t__law_fractions_right
  walk_at "z"
  refine ⟨D, 0, rfl, hD, g0, fun v a b H1 k1 d1 n1 sa sb => ?_⟩
  refine ⟨D, 0, rfl, d1, g0, fun w c d H2 k2 d2 n2 sc sd => ?_⟩
  have n1 := num_keep d1 k2 n1
  have K2 := k1.trans k2
  walk_at "z"
  refine ⟨D, 9, rfl, d2, by decide, by decide, fun r H3 r0 r1 k3 d3 => ?_⟩
  walk_at "z"
  refine ⟨by decide, fun M hM => ?_⟩
  have dM : D ≠ M := by
    obtain ⟨_, _, _, h⟩ := d3
    exact ne_of_none h hM
  refine ⟨D, M, _, rfl, d3.same (same_upd hM), dM, upd_same, by simp, by simp, fun u H4 hu k4 d4 => ?_⟩
  have k4' := (k3.new hM).trans k4
  have n1 := num_keep d2 k4' n1
  have n2 := num_keep d2 k4' n2
  have K4 := K2.trans k4'
  obtain ⟨s, rfl, hs⟩ : ∃ s : Int, u = .int s ∧ (s = 1 ∨ s = -1) := by
    simp only [List.mem_cons, List.not_mem_nil, or_false] at hu
    rcases hu with rfl | rfl
    · exact ⟨_, rfl, .inl rfl⟩
    · exact ⟨_, rfl, .inr rfl⟩
  clear hu
  have ix0 : ∀ {H' : Hp} {z : V} {x y : Int} {Qx : VK}, NumR H' 0 z x y → Qx (.int x) H' → rIxA K z (.int 0) H' Qx := fun n q => by
    obtain ⟨p, rfl, hp, _, _⟩ := num0 n
    exact ixT (sqT_of hp) rfl q
  have ix1 : ∀ {H' : Hp} {z : V} {x y : Int} {Qx : VK}, NumR H' 0 z x y → Qx (.int y) H' → rIxA K z (.int 1) H' Qx := fun n q => by
    obtain ⟨p, rfl, hp, _, _⟩ := num0 n
    exact ixT (sqT_of hp) rfl q
  refine ix0 n1 ?_
  refine ⟨D, 99, rfl, d4, by decide, by decide, fun r5 H5 r50 r51 k5 d5 => ?_⟩
  walk_at "z"
  refine ⟨by decide, fun M2 hM2 => ?_⟩
  have dM2 : D ≠ M2 := by
    obtain ⟨_, _, _, h⟩ := d5
    exact ne_of_none h hM2
  refine ⟨D, M2, _, rfl, d5.same (same_upd hM2), dM2, upd_same, by simp, by simp, fun u H6 hu k6 d6 => ?_⟩
  have k6' := (k5.new hM2).trans k6
  have n1 := num_keep d4 k6' n1
  have n2 := num_keep d4 k6' n2
  have K6 := K4.trans k6'
  obtain ⟨t, rfl, ht⟩ : ∃ t : Int, u = .int t ∧ S60 t := by
    simp only [List.mem_cons, List.not_mem_nil, or_false] at hu
    rcases hu with rfl | rfl
    · exact ⟨_, rfl, sa⟩
    · exact ⟨_, rfl, by omega, by omega⟩
  clear hu
  walk_at "z"
  refine ⟨divM (by decide) (by decide), mulR (by omega), D, 50, rfl, d6, by decide, by decide, fun r7 H7 r70 r71 k7 d7 => ?_⟩
  walk_at "z"
  have n1 := num_keep d6 k7 n1
  have n2 := num_keep d6 k7 n2
  have K7 := K6.trans k7
  refine ⟨mulR (by omega), mulR (by omega), ?_⟩
  obtain ⟨T, eT, hT⟩ : ∃ T : Int, t / 9 * (1 + r) = T ∧ S60 T := by
    refine ⟨_, rfl, ?_⟩
    have h1 := ht.1
    have h2 := ht.2
    have : r = 0 ∨ r = 1 ∨ r = 2 ∨ r = 3 ∨ r = 4 ∨ r = 5 ∨ r = 6 ∨ r = 7 ∨ r = 8 := by omega
    rcases this with rfl | rfl | rfl | rfl | rfl | rfl | rfl | rfl | rfl <;> exact ⟨by omega, by omega⟩
  obtain ⟨B, eB, hB, hB0⟩ : ∃ B : Int, (1 + r7) * (1 + r) * s = B ∧ S60 B ∧ B ≠ 0 := by
    refine ⟨_, rfl, ?_⟩
    have : r = 0 ∨ r = 1 ∨ r = 2 ∨ r = 3 ∨ r = 4 ∨ r = 5 ∨ r = 6 ∨ r = 7 ∨ r = 8 := by omega
    rcases hs with rfl | rfl <;> rcases this with rfl | rfl | rfl | rfl | rfl | rfl | rfl | rfl | rfl <;> exact ⟨⟨by omega, by omega⟩, by omega⟩
  rw [eT, eB]
  clear eT eB
  refine ⟨T, B, rfl, hT, hB, hB0, fun p x y H8 s8 f8 _ _ hp => ?_⟩
  refine ⟨T, B, rfl, hB0, sz_mono hB.sz (by decide), fun p' x' y' H9 s9 f9 _ _ hp' => ?_⟩
  have m1 : NumR H9 0 (.ref p) x y := .inl ⟨rfl, ⟨p, rfl, s9 _ _ hp⟩, f8.1, f8.2.1⟩
  have m2 : NumR H9 0 (.ref p') x' y' := .inl ⟨rfl, ⟨p', rfl, hp'⟩, f9.1, f9.2.1⟩
  refine num_ne m1 m2 (same_num m1 m2 (fun _ => hB0) (fun _ => f8.2.2) (fun _ => f9.2.2) (fun h => absurd rfl h)) ?_
  walk_at "z"
  have n1 := (n1.same s8).same s9
  have n2 := (n2.same s8).same s9
  have K9 := (K7.same s8).same s9
  have d9 := (d7.same s8).same s9
  clear m1 m2 hp hp'
  unfold t__law_fractions_right_k6_b
  walk_at "z"
  refine ix0 n1 ?_
  walk_at "z"
  refine ⟨divS (by decide) (by decide), ix1 n1 ?_⟩
  walk_at "z"
  refine ⟨by decide, fun q hqn => ?_⟩
  unfold t__law_fractions_right_k5_b
  walk_at "z"
  refine ixT (sqT_of upd_same) rfl ?_
  refine ixT (sqT_of upd_same) rfl ?_
  have b1 := n1.low.1
  refine ⟨_, b, rfl, by omega, sz_mono sb.sz (by decide), fun p3 x3 y3 H10 s10 f10 fx fy hp3 => ?_⟩
  walk_at "z"
  have n3 : NumR H10 0 (.ref p3) x3 y3 := .inl ⟨rfl, ⟨p3, rfl, hp3⟩, f10.1, f10.2.1⟩
  have n1 := (n1.same (same_upd hqn)).same s10
  have n2 := (n2.same (same_upd hqn)).same s10
  have K10 := (K9.same (same_upd hqn)).same s10
  have d10 := (d9.same (same_upd hqn)).same s10
  have s3 : S60 x3 ∧ S60 y3 := by
    have := sa.1
    have := sa.2
    have := sb.2
    have := f10.1
    exact ⟨⟨by omega, by omega⟩, by omega, by omega⟩
  refine ⟨by decide, fun M3 hM3 => ?_⟩
  have dM3 : D ≠ M3 := by
    obtain ⟨_, _, _, h⟩ := d10
    exact ne_of_none h hM3
  refine ⟨D, M3, _, rfl, d10.same (same_upd hM3), dM3, upd_same, by simp, by simp, fun u H11 hu k11 d11 => ?_⟩
  have k11' := (Keep.refl D H10).new hM3 |>.trans k11
  have n1 := num_keep d10 k11' n1
  have n2 := num_keep d10 k11' n2
  have n3 := num_keep d10 k11' n3
  have K11 := K10.trans k11'
  obtain ⟨e, f, nu, se, sf⟩ : ∃ e f : Int, NumR H11 0 u e f ∧ S60 e ∧ S60 f := by
    simp only [List.mem_cons, List.not_mem_nil, or_false] at hu
    rcases hu with rfl | rfl | rfl
    · exact ⟨_, _, n1, sa, sb⟩
    · exact ⟨_, _, n2, sc, sd⟩
    · exact ⟨_, _, n3, s3.1, s3.2⟩
  clear hu n3 s3
  refine ix0 n1 ?_
  refine ix1 nu ?_
  walk_at "z"
  refine ⟨szm sa.sz sf.sz, ix0 nu ?_⟩
  refine ix1 n1 ?_
  walk_at "z"
  refine ⟨szm se.sz sb.sz, ?_⟩
  refine ⟨v, u, a, b, e, f, rfl, n1, nu, sa, sb, se, sf, ?_⟩
  walk_at "z"
  have ee : (if a * f = e * b then (0 : Int) else if a * f < e * b then -1 else 1) = (if 0 < a * f - e * b then 1 else 0) - if a * f - e * b < 0 then 1 else 0 := by
    split
    · rw [if_neg (by omega), if_neg (by omega)]; rfl
    · split
      · rw [if_neg (by omega), if_pos (by omega)]; rfl
      · rw [if_pos (by omega), if_neg (by omega)]; rfl
  rw [if_neg (fun h => h ee)]
  refine ⟨v, a, b, rfl, n1, sa, sb, ?_⟩
  unfold t__law_fractions_right_k4_b
  walk_at "z"
  refine isi_kn_bool trivial ?_
  walk_at "z"
  have b1 := n1.low.1
  have q1 : a / b * b ≤ a := Int.ediv_mul_le _ (by omega)
  have q2 : a < (a / b + 1) * b := Int.lt_ediv_add_one_mul_self _ (by omega)
  have qs : S60 (a / b) := by
    have h1 := sa.1
    have h2 := sa.2
    by_cases h0 : 0 ≤ a
    · have := Int.ediv_nonneg h0 (show 0 ≤ b by omega)
      have := Int.ediv_le_self b h0
      exact ⟨by omega, by omega⟩
    · have h3 : a ≤ a / b := Int.le_ediv_of_mul_le (by omega) (by
        have : a * b ≤ a * 1 := Int.mul_le_mul_of_nonpos_left (by omega) b1
        omega)
      have h4 : a / b < 0 := Int.ediv_lt_of_lt_mul (by omega) (by omega)
      exact ⟨by omega, by omega⟩
  have qs1 : Sz 3000 (a / b + 1) := Nat.lt_of_lt_of_le (show (a / b + 1).natAbs < 2 ^ 250 by have := qs.1; have := qs.2; omega) (Nat.pow_le_pow_right (by decide) (by decide))
  refine ix1 n1 ?_
  walk_at "z"
  refine ⟨szm qs.sz sb.sz, ix0 n1 ?_⟩
  walk_at "z"
  rw [if_pos q1]
  refine ix1 n1 ?_
  walk_at "z"
  refine ⟨szm qs1 sb.sz, ?_⟩
  rw [if_neg (fun h => h q2)]
  refine ⟨by decide, fun M4 hM4 => ?_⟩
  have dM4 : D ≠ M4 := by
    obtain ⟨_, _, _, h⟩ := d11
    exact ne_of_none h hM4
  refine ⟨D, M4, _, rfl, d11.same (same_upd hM4), dM4, upd_same, by simp, by simp, fun pv H12 hu k12 d12 => ?_⟩
  have k12' := (Keep.refl D H11).new hM4 |>.trans k12
  have n1 := num_keep d11 k12' n1
  have K12 := K11.trans k12'
  obtain ⟨p, rfl, hp, hp0⟩ : ∃ p : Int, pv = .int p ∧ GroundV (.int p) ∧ p ≠ 0 := by
    simp only [List.mem_cons, List.not_mem_nil, or_false] at hu
    rcases hu with rfl | rfl | rfl | rfl | rfl | rfl | rfl <;> exact ⟨_, rfl, grd (by simp), by decide⟩
  clear hu
  have gp := ground_le hp
  have pp0 : 0 < p := by omega
  unfold t__law_fractions_right_k3_b
  walk_at "z"
  have dLL : ∀ {L : Addr}, H12 L = none → D ≠ L := fun hL => by
    obtain ⟨_, _, _, h⟩ := d12
    exact ne_of_none h hL
  refine ⟨2, rfl, by decide, by decide, fun L hL => ?_⟩
  have dL := dLL hL
  refine lc_range (lo := 0) (n := 2) (fun i H' => Keep D H12 H' ∧ Dice H' D ∧ ∃ zs, H' L = some (.lst zs) ∧ zs.length = i ∧ ∀ z ∈ zs, ∃ x y, NumR H' 0 z x y ∧ x.natAbs ≤ 99 ∧ y ≤ 60) ⟨(Keep.refl D H12).new hL, d12.same (same_upd hL), [], upd_same, rfl, fun z hz => by cases hz⟩ (fun i H' hi p => ?_) (fun H' p => ?_)
  · obtain ⟨kk, dd, zs, hz, hzl, hzs⟩ := p
    walk_at "z"
    refine ⟨D, 199, rfl, dd, by decide, by decide, fun ra Ha ra0 ra1 ka da => ?_⟩
    walk_at "z"
    refine ⟨D, 60, rfl, da, by decide, by decide, fun rb Hb rb0 rb1 kb db => ?_⟩
    walk_at "z"
    refine ⟨_, _, rfl, by omega, sz_mono (show Sz 60 (1 + rb) from by unfold Sz; omega) (by decide), fun pp xx yy Hc sc2 ff fxx fyy hpp => ?_⟩
    have kab := (ka.trans kb).same sc2
    have hz2 := kab _ _ (Ne.symm dL) hz
    refine ⟨zs, hz2, by rw [hzl]; exact Nat.lt_of_lt_of_le hi (by decide), ?_, ?_, zs ++ [.ref pp], upd_same, by simp [hzl], fun z hzz => ?_⟩
    · exact fun b u n h => by
        rw [upd_ne (ne_of_none h hL)]
        exact (kk.trans kab) b u n h
    · obtain ⟨x1, x2, x3, hx⟩ := db.same sc2
      exact ⟨x1, x2, x3, by rw [upd_ne dL]; exact hx⟩
    · rcases List.mem_append.mp hzz with h | h
      · obtain ⟨x, y, nn, h1, h2⟩ := hzs z h
        exact ⟨x, y, num_upd hz2 (num_keep dd kab nn), h1, h2⟩
      · rw [List.mem_singleton] at h
        subst h
        exact ⟨xx, yy, num_upd hz2 (.inl ⟨rfl, ⟨pp, rfl, hpp⟩, ff.1, ff.2.1⟩), by omega, by omega⟩
  · obtain ⟨k13, d13, zs, hz, hzl, hzs⟩ := p
    have n1 := num_keep d12 k13 n1
    have K13 := K12.trans k13
    obtain ⟨z1, z2, rfl⟩ : ∃ z1 z2, zs = [z1, z2] := by
      match zs, hzl with
      | [z1, z2], _ => exact ⟨z1, z2, rfl⟩
    obtain ⟨a1, b1', m1, u1, v1⟩ := hzs z1 (by simp)
    obtain ⟨a2, b2', m2, u2, v2⟩ := hzs z2 (by simp)
    clear hzs
    refine ⟨by decide, fun L1 hL1 => ?_⟩
    refine ⟨L, L1, _, _, rfl, rfl, by rw [upd_ne (ne_of_none hz hL1)]; exact hz, upd_same, by show 3 ≤ sizeLine; decide, fun L2 hL2 => ?_⟩
    have s14 := (same_upd (o := .lst [v]) hL1).trans (same_upd (o := .lst ([z1, z2] ++ [v])) hL2)
    have n1 := n1.same s14
    have m1 := m1.same s14
    have m2 := m2.same s14
    have K14 := K13.same s14
    have d14 := d13.same s14
    have hS : SqL K (upd (upd H' L1 (.lst [v])) L2 (.lst ([z1, z2] ++ [v]))) L2 [z1, z2, v] := sqL_of upd_same
    generalize upd (upd H' L1 (.lst [v])) L2 (.lst ([z1, z2] ++ [v])) = H14 at *
    walk_at "z"
    have su1 : S60 a1 ∧ S60 b1' ∧ S60 a2 ∧ S60 b2' := by
      have := m1.low.1
      have := m2.low.1
      exact ⟨⟨by omega, by omega⟩, ⟨by omega, by omega⟩, ⟨by omega, by omega⟩, by omega, by omega⟩
    refine ⟨L2, rfl, ⟨_, hS⟩, for_L (xs := [z1, z2, v]) (fun i σ H' => Same H14 H' ∧ ∃ o1 o2, σ = [some (V.ref D), some v, some w, some (V.int (1 + r)), some (V.int s), some (V.int T), some (V.int B), some u, some (V.int (a * f - e * b)), some (V.int (a / b)), some (V.int p), some (V.ref L2), none, o1, o2, none, none]) ⟨Same.refl _, none, none, rfl⟩ (fun i σ H' _ q => q.1.seq hS) (fun i z σ H' hx q N hN => ?_) (fun σ H' q => ?_)⟩
    · obtain ⟨s15, o1, o2, rfl⟩ := q
      obtain ⟨x, y, nz, sx, sy⟩ : ∃ x y, NumR H' 0 z x y ∧ S60 x ∧ S60 y := by
        match i, hx with
        | 0, hx => cases hx; exact ⟨_, _, m1.same s15, su1.1, su1.2.1⟩
        | 1, hx => cases hx; exact ⟨_, _, m2.same s15, su1.2.2.1, su1.2.2.2⟩
        | 2, hx => cases hx; exact ⟨_, _, n1.same s15, sa, sb⟩
        | i + 3, hx => simp at hx
      unfold t__law_fractions_right_f1_b
      walk_at "z"
      refine ix1 nz ?_
      walk_at "z"
      refine ⟨by omega, ?_⟩
      by_cases hy : y % p = 0
      · rw [if_neg (fun h => h hy)]
        exact hN _ _ ⟨s15, _, _, rfl⟩
      · rw [if_pos hy]
        refine ⟨p, z, x, y, rfl, hp, hp0, nz, sx, sy, hy, fun w' H16 s16 w0 wp hw => ?_⟩
        walk_at "z"
        rw [if_pos w0]
        walk_at "z"
        rw [if_neg (fun h => h wp)]
        refine ix1 (nz.same s16) ?_
        walk_at "z"
        refine ⟨mulS (by omega), ix0 (nz.same s16) ?_⟩
        walk_at "z"
        refine ⟨by omega, ?_⟩
        rw [if_neg (fun h => h (Int.emod_eq_emod_iff_emod_sub_eq_zero.mp hw))]
        exact hN _ _ ⟨s15.trans s16, _, _, rfl⟩
    · obtain ⟨s15, o1, o2, rfl⟩ := q
      walk_at "z"
      refine ixL (s15.seq hS) (v := z1) rfl ?_
      refine ixL (s15.seq hS) (v := z2) rfl ?_
      have m1 := m1.same s15
      have m2 := m2.same s15
      unfold t__law_fractions_right_k2_b
      walk_at "z"
      refine ix1 m1 ?_
      refine ix1 m2 ?_
      walk_at "z"
      have bb1 := m1.low.1
      have bb2 := m2.low.1
      refine ⟨mulR (by omega), by omega, ?_⟩
      by_cases hbd : b1' * b2' % p = 0
      · rw [if_pos hbd]
        exact hq _ (K14.same s15) (d14.same s15)
      rw [if_neg hbd]
      obtain ⟨hb, hd⟩ := nd_left hbd
      refine ⟨0, z1, z2, a1, b1', a2, b2', rfl, g0, m1, m2, su1.1, su1.2.1, su1.2.2.1, su1.2.2.2, fun zs xs ys H16 s16 ns es _ => ?_⟩
      obtain ⟨e1, e2, e3⟩ := es rfl
      have bnd : ∀ i j : Int, i.natAbs ≤ 99 → j.natAbs ≤ 99 → (i * j).natAbs ≤ 9801 := fun i j h1 h2 => by
        rw [Int.natAbs_mul]
        exact Nat.mul_le_mul h1 h2
      have t1 := bnd a1 b2' u1 (by omega)
      have t2 := bnd a2 b1' u2 (by omega)
      have t3 := bnd b1' b2' (by omega) (by omega)
      have t4 := bnd a1 a2 u1 u2
      have hys := low_nd (ns.low.2 rfl) e1 hbd
      refine ⟨p, zs, xs, ys, rfl, hp, hp0, ns, ⟨by omega, by omega⟩, ⟨by omega, by omega⟩, hys, fun w' H17 s17 w0 wp hw => ?_⟩
      have S17 := s16.trans s17
      refine ⟨p, z1, a1, b1', rfl, hp, hp0, m1.same S17, su1.1, su1.2.1, hb, fun w1 H18 s18 w10 w1p hw1 => ?_⟩
      have S18 := S17.trans s18
      refine ⟨p, z2, a2, b2', rfl, hp, hp0, m2.same S18, su1.2.2.1, su1.2.2.2, hd, fun w2 H19 s19 w20 w2p hw2 => ?_⟩
      have S19 := S18.trans s19
      walk_at "z"
      refine ⟨by omega, ?_⟩
      rw [if_neg (fun h => h (read_sum hp hp0 hb hd hys e1 hw hw1 hw2 w0 wp))]
      refine ⟨0, z1, z2, a1, b1', a2, b2', rfl, g0, m1.same S19, m2.same S19, su1.1, su1.2.1, su1.2.2.1, su1.2.2.2, fun zs xs ys H20 s20 ns es _ => ?_⟩
      obtain ⟨e1, e2, e3⟩ := es rfl
      have hys := low_nd (ns.low.2 rfl) e1 hbd
      refine ⟨p, zs, xs, ys, rfl, hp, hp0, ns, ⟨by omega, by omega⟩, ⟨by omega, by omega⟩, hys, fun w' H21 s21 w0 wp hw => ?_⟩
      have S21 := (S19.trans s20).trans s21
      refine ⟨p, z1, a1, b1', rfl, hp, hp0, m1.same S21, su1.1, su1.2.1, hb, fun w1 H22 s22 w10 w1p hw1 => ?_⟩
      have S22 := S21.trans s22
      refine ⟨p, z2, a2, b2', rfl, hp, hp0, m2.same S22, su1.2.2.1, su1.2.2.2, hd, fun w2 H23 s23 w20 w2p hw2 => ?_⟩
      have S23 := S22.trans s23
      walk_at "z"
      refine ⟨mulS (by omega), by omega, ?_⟩
      rw [decide_eq_true (read_mul hp hp0 hb hd hys e1 hw hw1 hw2 w0 wp)]
      exact hq _ ((K14.same s15).same S23) ((d14.same s15).same S23)
theorem ok__law_fractions_right {P : Program} {w : World} {K : PySem.W.Frag} {mg : Str → Option Value} {base : Heap} (T : Tx K mg) : Okk P w K mg base 8 "_law_fractions_right" ["dice"] (sp__law_fractions_right K) := by
  obtain ⟨fd_fraction, F_fraction, b_fraction, g_fraction, k_fraction⟩ := ok_fraction (P := P) (w := w) (base := base) T
  obtain ⟨fd_added, F_added, b_added, g_added, k_added⟩ := ok_added (P := P) (w := w) (base := base) T
  obtain ⟨fd_multiplied, F_multiplied, b_multiplied, g_multiplied, k_multiplied⟩ := ok_multiplied (P := P) (w := w) (base := base) T
  obtain ⟨fd_compared, F_compared, b_compared, g_compared, k_compared⟩ := ok_compared (P := P) (w := w) (base := base) T
  obtain ⟨fd_rounded, F_rounded, b_rounded, g_rounded, k_rounded⟩ := ok_rounded (P := P) (w := w) (base := base) T
  obtain ⟨fd_read_at, F_read_at, b_read_at, g_read_at, k_read_at⟩ := ok_read_at (P := P) (w := w) (base := base) T
  obtain ⟨fd__law_roll, F__law_roll, b__law_roll, g__law_roll, k__law_roll⟩ := ok__law_roll (P := P) (w := w) (base := base) T
  obtain ⟨fd__law_pick, F__law_pick, b__law_pick, g__law_pick, k__law_pick⟩ := ok__law_pick (P := P) (w := w) (base := base) T
  obtain ⟨fd__law_fraction, F__law_fraction, b__law_fraction, g__law_fraction, k__law_fraction⟩ := ok__law_fraction (P := P) (w := w) (base := base) T
  obtain ⟨fd__law_nu_drawn, F__law_nu_drawn, b__law_nu_drawn, g__law_nu_drawn, k__law_nu_drawn⟩ := ok__law_nu_drawn (P := P) (w := w) (base := base) T
  have hf_bool := T.n_bool
  have hf_int := T.n_int
  have hf_isinstance := T.n_isinstance
  have hf_range := T.n_range
  obtain ⟨fd, F⟩ := T.f__law_fractions_right
  refine ⟨fd, F.ok sc__law_fractions_right (fun vs H Q E h => len__law_fractions_right h) (fun cdv A outer s H vs Q E hr h => ⟨t__law_fractions_right K, PSs.nox ?_, pure__law_fractions_right K vs H Q E h⟩), F.bindsN (fun _ _ _ _ _ _ us hl => match us, hl with | [_], _ => rfl), T.g__law_fractions_right, F.kp⟩
  have hu64 := hu64_of hr
  exact (pss_cons (ps_par (i := 1) (j := 2) rfl sc__law_fractions_right.nd rfl rfl (by decide) rfl rfl (pa_cons (pe_call F__law_nu_drawn (hr.mono (by decide)) rfl g__law_nu_drawn k__law_nu_drawn b__law_nu_drawn .nil pass0 (pa_cons (pv 0) (pa_cons pe_int pa_nil))) (pa_cons (pe_call F__law_nu_drawn (hr.mono (by decide)) rfl g__law_nu_drawn k__law_nu_drawn b__law_nu_drawn .nil pass0 (pa_cons (pv 0) (pa_cons pe_int pa_nil))) pa_nil)) (by rfl))
      (pss_cons (ps_par (i := 3) (j := 4) rfl sc__law_fractions_right.nd rfl rfl (by decide) rfl rfl (pa_cons (pe_op op_add pe_int (pe_call F__law_roll (hr.mono (by decide)) rfl g__law_roll k__law_roll b__law_roll .nil pass0 (pa_cons (pv 0) (pa_cons pe_int pa_nil)))) (pa_cons (pe_call F__law_pick (hr.mono (by decide)) rfl g__law_pick k__law_pick b__law_pick .nil pass0 (pa_cons (pv 0) (pa_cons (pe_lst (pa_cons pe_int (pa_cons (pe_un un_neg pe_int) pa_nil))) pa_nil))) pa_nil)) (by rfl))
      (pss_cons (ps_par (i := 5) (j := 6) rfl sc__law_fractions_right.nd rfl rfl (by decide) rfl rfl (pa_cons (pe_op op_mulU (pe_op op_fdivW (pe_call F__law_pick (hr.mono (by decide)) rfl g__law_pick k__law_pick b__law_pick .nil pass0 (pa_cons (pv 0) (pa_cons (pe_lst (pa_cons (pe_ix ix_lt (pv 1) pe_int (fun _ _ => rfl)) (pa_cons (pe_op op_sub (pe_call F__law_roll (hr.mono (by decide)) rfl g__law_roll k__law_roll b__law_roll .nil pass0 (pa_cons (pv 0) (pa_cons pe_int pa_nil))) pe_int) pa_nil))) pa_nil))) pe_int) (pv 3)) (pa_cons (pe_op op_mulU (pe_op op_mulU (pe_op op_add pe_int (pe_call F__law_roll (hr.mono (by decide)) rfl g__law_roll k__law_roll b__law_roll .nil pass0 (pa_cons (pv 0) (pa_cons pe_int pa_nil)))) (pv 3)) (pv 4)) pa_nil)) (by rfl))
      (pss_cons (ps_if (pt_cmpR (op_neD hu64) (pe_call F_fraction (hr.mono (by decide)) rfl g_fraction k_fraction b_fraction .nil pass0 (pa_cons (pv 5) (pa_cons (pv 6) pa_nil))) (pe_call F__law_fraction (hr.mono (by decide)) rfl g__law_fraction k__law_fraction b__law_fraction .nil pass0 (pa_cons (pv 5) (pa_cons (pv 6) pa_nil))) (nomark _)) (pss_one (ps_ret pe_bl)) pss_nil)
      (pss_cons (ps_set (i := 7) sc__law_fractions_right.nd rfl (by first | exact Or.inl rfl | exact Or.inr rfl) (pe_tup (pa_cons (pe_op op_add (pe_op op_fdivW (pe_ix ix_lt (pv 1) pe_int (fun _ _ => rfl)) pe_int) pe_int) (pa_cons (pe_ix ix_lt (pv 1) pe_int (fun _ _ => rfl)) pa_nil))))
      (pss_cons (ps_set (i := 7) sc__law_fractions_right.nd rfl (by first | exact Or.inl rfl | exact Or.inr rfl) (pe_call F__law_pick (hr.mono (by decide)) rfl g__law_pick k__law_pick b__law_pick .nil pass0 (pa_cons (pv 0) (pa_cons (pe_lst (pa_cons (pv 1) (pa_cons (pv 2) (pa_cons (pe_call F__law_fraction (hr.mono (by decide)) rfl g__law_fraction k__law_fraction b__law_fraction .nil pass0 (pa_cons (pe_ix ix_lt (pv 7) pe_int (fun _ _ => rfl)) (pa_cons (pe_ix ix_lt (pv 7) pe_int (fun _ _ => rfl)) pa_nil))) pa_nil)))) pa_nil))))
      (pss_cons (ps_set (i := 8) sc__law_fractions_right.nd rfl (by first | exact Or.inl rfl | exact Or.inr rfl) (pe_op op_sub (pe_op op_mulU (pe_ix ix_lt (pv 1) pe_int (fun _ _ => rfl)) (pe_ix ix_lt (pv 7) pe_int (fun _ _ => rfl))) (pe_op op_mulU (pe_ix ix_lt (pv 7) pe_int (fun _ _ => rfl)) (pe_ix ix_lt (pv 1) pe_int (fun _ _ => rfl)))))
      (pss_cons (ps_if (pt_cmpR op_ne (pe_call F_compared (hr.mono (by decide)) rfl g_compared k_compared b_compared .nil pass0 (pa_cons (pv 1) (pa_cons (pv 7) pa_nil))) (pe_op op_sub (pe_callTy call_int1 (by rfl) hf_int (by decide +kernel) (pa_cons (pe_cmpR op_gt (pv 8) pe_int (nomark _)) pa_nil)) (pe_callTy call_int1 (by rfl) hf_int (by decide +kernel) (pa_cons (pe_cmpR op_lt (pv 8) pe_int (nomark _)) pa_nil))) (nomark _)) (pss_one (ps_ret pe_bl)) pss_nil)
      (pss_cons (ps_set (i := 9) sc__law_fractions_right.nd rfl (by first | exact Or.inl rfl | exact Or.inr rfl) (pe_call F_rounded (hr.mono (by decide)) rfl g_rounded k_rounded b_rounded .nil pass0 (pa_cons (pv 1) pa_nil)))
      (pss_cons (ps_if (PW.pt (pw_or (pt_val (pe_callB call_isi (by rfl) hf_isinstance (by decide +kernel) (pa_cons (pv 9) (pa_cons (pe_bltn (v := .ty "bool") rfl hf_bool (by decide +kernel) rfl) pa_nil)))) (pw_or1 (pt_not (pt_chain op_le op_lt (pe_op op_mulU (pv 9) (pe_ix ix_lt (pv 1) pe_int (fun _ _ => rfl))) (pe_ix ix_lt (pv 1) pe_int (fun _ _ => rfl)) (pe_op op_mulU (pe_op op_add (pv 9) pe_int) (pe_ix ix_lt (pv 1) pe_int (fun _ _ => rfl)))))))) (pss_one (ps_ret pe_bl)) pss_nil)
      (pss_cons (ps_set (i := 10) sc__law_fractions_right.nd rfl (by first | exact Or.inl rfl | exact Or.inr rfl) (pe_call F__law_pick (hr.mono (by decide)) rfl g__law_pick k__law_pick b__law_pick .nil pass0 (pa_cons (pv 0) (pa_cons (pe_lst (pa_cons pe_int (pa_cons pe_int (pa_cons pe_int (pa_cons pe_int (pa_cons pe_int (pa_cons pe_int (pa_cons pe_int pa_nil)))))))) pa_nil))))
      (pss_cons (ps_set (i := 11) sc__law_fractions_right.nd rfl (by first | exact Or.inl rfl | exact Or.inr rfl) (pe_op op_cat (pe_lc (own := [("turn", 12)]) (g := (gName 12)) (tt := tYes) rfl sc__law_fractions_right.nd (pi_range1 rfl hf_range (pa_cons pe_int pa_nil)) (blkOk_by (own := [("turn", 12)]) (N := ["dice", "one", "other", "many", "sign", "top", "bottom", "near", "less", "found", "prime", "some", "turn", "part", "told", "first", "last"]) (sc := defScope s__law_fractions_right) (by decide +kernel)) (fun _ _ _ _ _ => (pg_name (i := 12) sc__law_fractions_right.nd rfl (by first | exact Or.inl rfl | exact Or.inr rfl))) (fun _ _ _ _ _ => pts_nil) (fun _ _ _ _ _ => (pe_call F__law_fraction (hr.mono (by decide)) rfl g__law_fraction k__law_fraction b__law_fraction .nil pass0 (pa_cons (pe_op op_sub (pe_call F__law_roll (hr.mono (by decide)) rfl g__law_roll k__law_roll b__law_roll .nil pass0 (pa_cons (pv 0) (pa_cons pe_int pa_nil))) pe_int) (pa_cons (pe_op op_add pe_int (pe_call F__law_roll (hr.mono (by decide)) rfl g__law_roll k__law_roll b__law_roll .nil pass0 (pa_cons (pv 0) (pa_cons pe_int pa_nil)))) pa_nil))))) (pe_lst (pa_cons (pv 1) pa_nil))))
      (pss_cons (ps_for PassesOwn.never rfl (pi_list (pv 11)) (pg_name (i := 13) sc__law_fractions_right.nd rfl (by first | exact Or.inl rfl | exact Or.inr rfl)) (pss_one (ps_if (pt_cmpR op_ne (pe_op op_mod (pe_callTy call_int1 (by rfl) hf_int (by decide +kernel) (pa_cons (pe_ix ix_lt (pv 13) pe_int (fun _ _ => rfl)) pa_nil)) (pv 10)) pe_int (nomark _)) (pss_cons (ps_set (i := 14) sc__law_fractions_right.nd rfl (by first | exact Or.inl rfl | exact Or.inr rfl) (pe_call F_read_at (hr.mono (by decide)) rfl g_read_at k_read_at b_read_at .nil pass0 (pa_cons (pv 10) (pa_cons (pv 13) pa_nil))))
      (pss_one (ps_if (PW.pt (pw_or (pt_not (pt_chain op_le op_lt pe_int (pv 14) (pv 10))) (pw_or1 (pt_cmpR op_ne (pe_op op_mod (pe_callTy call_int1 (by rfl) hf_int (by decide +kernel) (pa_cons (pe_op op_sub (pe_op op_mulU (pv 14) (pe_ix ix_lt (pv 13) pe_int (fun _ _ => rfl))) (pe_ix ix_lt (pv 13) pe_int (fun _ _ => rfl))) pa_nil)) (pv 10)) pe_int (nomark _))))) (pss_one (ps_ret pe_bl)) pss_nil))) pss_nil)))
      (pss_cons (ps_par (i := 15) (j := 16) rfl sc__law_fractions_right.nd rfl rfl (by decide) rfl rfl (pa_cons (pe_ix ix_lt (pv 11) pe_int (fun _ _ => rfl)) (pa_cons (pe_ix ix_lt (pv 11) pe_int (fun _ _ => rfl)) pa_nil)) (by rfl))
      (pss_cons (ps_if (pt_cmpR op_eq (pe_op op_mod (pe_callTy call_int1 (by rfl) hf_int (by decide +kernel) (pa_cons (pe_op op_mulU (pe_ix ix_lt (pv 15) pe_int (fun _ _ => rfl)) (pe_ix ix_lt (pv 16) pe_int (fun _ _ => rfl))) pa_nil)) (pv 10)) pe_int (nomark _)) (pss_one (ps_ret pe_bl)) pss_nil)
      (pss_cons (ps_if (pt_cmpR op_ne (pe_call F_read_at (hr.mono (by decide)) rfl g_read_at k_read_at b_read_at .nil pass0 (pa_cons (pv 10) (pa_cons (pe_call F_added (hr.mono (by decide)) rfl g_added k_added b_added .nil pass0 (pa_cons pe_int (pa_cons (pv 15) (pa_cons (pv 16) pa_nil)))) pa_nil))) (pe_op op_mod (pe_callTy call_int1 (by rfl) hf_int (by decide +kernel) (pa_cons (pe_op op_add (pe_call F_read_at (hr.mono (by decide)) rfl g_read_at k_read_at b_read_at .nil pass0 (pa_cons (pv 10) (pa_cons (pv 15) pa_nil))) (pe_call F_read_at (hr.mono (by decide)) rfl g_read_at k_read_at b_read_at .nil pass0 (pa_cons (pv 10) (pa_cons (pv 16) pa_nil)))) pa_nil)) (pv 10)) (nomark _)) (pss_one (ps_ret pe_bl)) pss_nil)
      (pss_one (ps_ret (pe_cmpR op_eq (pe_call F_read_at (hr.mono (by decide)) rfl g_read_at k_read_at b_read_at .nil pass0 (pa_cons (pv 10) (pa_cons (pe_call F_multiplied (hr.mono (by decide)) rfl g_multiplied k_multiplied b_multiplied .nil pass0 (pa_cons pe_int (pa_cons (pv 15) (pa_cons (pv 16) pa_nil)))) pa_nil))) (pe_op op_mod (pe_callTy call_int1 (by rfl) hf_int (by decide +kernel) (pa_cons (pe_op op_mulU (pe_call F_read_at (hr.mono (by decide)) rfl g_read_at k_read_at b_read_at .nil pass0 (pa_cons (pv 10) (pa_cons (pv 15) pa_nil))) (pe_call F_read_at (hr.mono (by decide)) rfl g_read_at k_read_at b_read_at .nil pass0 (pa_cons (pv 10) (pa_cons (pv 16) pa_nil)))) pa_nil)) (pv 10)) (nomark _))))))))))))))))))))
/-! ### law -/
theorem sc_law : FnScope ["script", "spot", "dice", "turn", "told"] ["script"] (defScope s_law) := ⟨rfl, rfl, rfl, by decide +kernel, rfl, by decide +kernel, by decide +kernel⟩
def sp_law (K : PySem.W.Frag) : Sp := fun vs H Q _ => ∃ (a : Addr) (ns : List Int), vs = [.ref a] ∧ SqL K H a (ns.map V.int) ∧ ns.length ≤ 63 ∧ ∀ H', Q (.bl true) H'
theorem len_law {K : PySem.W.Frag} {vs : List V} {H : Hp} {Q : VK} {E : XK} (h : sp_law K vs H Q E) : vs.length = ["script"].length := by
  obtain ⟨_, _, rfl, _⟩ := h
  rfl
def t_law_f1_b (K : PySem.W.Frag) : TS := (tIfS (tOr (tNot (tB (tCall (sp__law_field_right K) [] E0 (tCons (tVar 2) tNil)))) (tNot (tB (tCall (sp__law_fractions_right K) [] E0 (tCons (tVar 2) tNil))))) (tRet (tC (.bl false))) tNext)
def t_law_f2_b (K : PySem.W.Frag) : TS := (tSeq (tAsg (tCall (sp__law_dice K) [] E0 (tCons (tVar 0) (tCons (tVar 1) tNil))) (gName 2))
  (tFor (iRng1 (tCons (tC (.int 4)) tNil)) (gName 3) (t_law_f1_b K)))
def t_law_k3_b (K : PySem.W.Frag) : TS := (tRet (tOp (rEqD K) (tLst (tCons (tCall (sp_compared K) [] E0 (tCons (tTup (tCons (tC (.int 1)) (tCons (tC (.int 2)) tNil))) (tCons (tTup (tCons (tC (.int 2)) (tCons (tC (.int 3)) tNil))) tNil))) (tCons (tCall (sp_compared K) [] E0 (tCons (tTup (tCons (tUn rNeg (tC (.int 1))) (tCons (tC (.int 2)) tNil))) (tCons (tTup (tCons (tUn rNeg (tC (.int 1))) (tCons (tC (.int 2)) tNil))) tNil))) (tCons (tCall (sp_read_at K) [] E0 (tCons (tC (.int 5)) (tCons (tTup (tCons (tC (.int 1)) (tCons (tC (.int 2)) tNil))) tNil))) (tCons (tCall (sp_raised K) [] E0 (tCons (tC (.int 2)) (tCons (tC (.int 1)) (tCons (tUn rNeg (tC (.int 1000))) tNil)))) tNil))))) (tLst (tCons (tUn rNeg (tC (.int 1))) (tCons (tC (.int 0)) (tCons (tC (.int 3)) (tCons (tC (.int 1)) tNil)))))))
def t_law_k4_b (K : PySem.W.Frag) : TS := (tSeq (tAsg (tLst (tCons (tCall (sp_raised K) [] E0 (tCons (tC (.int 0)) (tCons (tTup (tCons (tC (.int 0)) (tCons (tC (.int 1)) tNil))) (tCons (tC (.int 0)) tNil)))) (tCons (tCall (sp_divided K) [] E0 (tCons (tC (.int 0)) (tCons (tTup (tCons (tUn rNeg (tC (.int 1))) (tCons (tC (.int 2)) tNil))) (tCons (tTup (tCons (tUn rNeg (tC (.int 3))) (tCons (tC (.int 4)) tNil))) tNil)))) (tCons (tCall (sp_rounded K) [] E0 (tCons (tTup (tCons (tUn rNeg (tC (.int 1))) (tCons (tC (.int 2)) tNil))) tNil)) (tCons (tCall (sp_rounded K) [] E0 (tCons (tTup (tCons (tC (.int 7)) (tCons (tC (.int 2)) tNil))) tNil)) (tCons (tCall (sp_rounded K) [] E0 (tCons (tTup (tCons (tUn rNeg (tC (.int 4))) (tCons (tC (.int 1)) tNil))) tNil)) tNil)))))) (gName 4))
  (tSeq (tIfS (tTest (tOp (rNeD K) (tVar 4) (tLst (tCons (tTup (tCons (tC (.int 1)) (tCons (tC (.int 1)) tNil))) (tCons (tTup (tCons (tC (.int 2)) (tCons (tC (.int 3)) tNil))) (tCons (tUn rNeg (tC (.int 1))) (tCons (tC (.int 3)) (tCons (tUn rNeg (tC (.int 4))) tNil)))))))) (tRet (tC (.bl false))) tNext)
  (t_law_k3_b K)))
def t_law_k5_b (K : PySem.W.Frag) : TS := (tSeq (tAsg (tLst (tCons (tCall (sp_whole K) [] E0 (tCons (tC (.int 0)) (tCons (tC (.int 3)) tNil))) (tCons (tCall (sp_whole K) [] E0 (tCons (tC (.int 7)) (tCons (tUn rNeg (tC (.int 1))) tNil))) (tCons (tCall (sp_fraction K) [] E0 (tCons (tC (.int 6)) (tCons (tUn rNeg (tC (.int 4))) tNil))) (tCons (tCall (sp_fraction K) [] E0 (tCons (tC (.int 0)) (tCons (tUn rNeg (tC (.int 5))) tNil))) (tCons (tCall (sp_added K) [] E0 (tCons (tC (.int 0)) (tCons (tTup (tCons (tC (.int 1)) (tCons (tC (.int 2)) tNil))) (tCons (tTup (tCons (tC (.int 1)) (tCons (tC (.int 2)) tNil))) tNil)))) (tCons (tCall (sp_divided K) [] E0 (tCons (tC (.int 7)) (tCons (tC (.int 1)) (tCons (tC (.int 3)) tNil)))) tNil))))))) (gName 4))
  (tSeq (tIfS (tOr (tTest (tOp (rNeD K) (tVar 4) (tLst (tCons (tTup (tCons (tC (.int 3)) (tCons (tC (.int 1)) tNil))) (tCons (tC (.int 6)) (tCons (tTup (tCons (tUn rNeg (tC (.int 3))) (tCons (tC (.int 2)) tNil))) (tCons (tTup (tCons (tC (.int 0)) (tCons (tC (.int 1)) tNil))) (tCons (tTup (tCons (tC (.int 1)) (tCons (tC (.int 1)) tNil))) (tCons (tC (.int 5)) tNil))))))))) (tOr (tTest (tOp (rNeD K) (tCall (sp_raised K) [] E0 (tCons (tC (.int 0)) (tCons (tTup (tCons (tC (.int 1)) (tCons (tC (.int 2)) tNil))) (tCons (tUn rNeg (tC (.int 2))) tNil)))) (tTup (tCons (tC (.int 4)) (tCons (tC (.int 1)) tNil))))) (tTest (tOp rNe (tCall (sp_raised K) [] E0 (tCons (tC (.int 5)) (tCons (tC (.int 0)) (tCons (tC (.int 0)) tNil)))) (tC (.int 1)))))) (tRet (tC (.bl false))) tNext)
  (t_law_k4_b K)))
def t_law (K : PySem.W.Frag) : TS := (tSeq (tFor (iRng1 (tCons (tCB (rMax2) (tCons (tC (.int 1)) (tCons (tCB (rMin2) (tCons (tC (.int 3)) (tCons (tCB (rLenU K) (tCons (tVar 0) tNil)) tNil))) tNil))) tNil)) (gName 1) (t_law_f2_b K))
  (t_law_k5_b K))
theorem keep_new {H : Hp} {b p : Addr} {u o : HO} (h : H b = some u) (hn : H p = none) : upd H p o b = some u := by
  rw [upd_ne (ne_of_none h hn)]; exact h
local macro_rules | `(tactic| walk_at "at") => `(tactic| (repeat (first | exact upd_same | refine keep_new ?_ (by assumption))))
local macro_rules | `(tactic| walk_at "same") => `(tactic| (repeat (first | exact Same.refl _ | assumption | refine same_new ?_ (by assumption))))
theorem fr_is {t b x y x' y' : Int} (h : Frac t b x y) (hb : b ≠ 0) (h2 : 1 ≤ y') (h3 : Nat.gcd x'.natAbs y'.natAbs = 1) (h4 : x' * b = t * y') : x = x' ∧ y = y' := by
  have n : NumR (upd (fun _ => none) 0 (.tup [.int x, .int y])) 0 (.ref 0) x y := .inl ⟨rfl, ⟨0, rfl, upd_same⟩, h.1, h.2.1⟩
  have n' : NumR (upd (fun _ => none) 0 (.tup [.int x', .int y'])) 0 (.ref 0) x' y' := .inl ⟨rfl, ⟨0, rfl, upd_same⟩, h2, h3⟩
  exact same_num n n' (fun _ => hb) (fun _ => h.2.2) (fun _ => h4) (fun h => absurd rfl h)
theorem num_tup {H : Hp} {p : Addr} {x y : Int} (h : H p = some (.tup [.int x, .int y])) (h2 : 1 ≤ y) (h3 : Nat.gcd x.natAbs y.natAbs = 1) : NumR H 0 (.ref p) x y := .inl ⟨rfl, ⟨p, rfl, h⟩, h2, h3⟩
theorem tup_dp {K : PySem.W.Frag} {H : Hp} {p : Addr} {x y : Int} (h : H p = some (.tup [.int x, .int y])) : Dp K H (.ref p) (.tuple [.int x, .int y]) := .tup (sqT_of h) (.cons (.int _) (.cons (.int _) .nil))
theorem numd0 {K : PySem.W.Frag} {H : Hp} {v : V} {x y : Int} (n : NumR H 0 v x y) : Dp K H v (.tuple [.int x, .int y]) := num_dp n
def due1 : List PyData := [.tuple [.int 3, .int 1], .int 6, .tuple [.int (-3), .int 2], .tuple [.int 0, .int 1], .tuple [.int 1, .int 1], .int 5]
def due2 : List PyData := [.tuple [.int 1, .int 1], .tuple [.int 2, .int 3], .int (-1), .int 3, .int (-4)]
theorem due2_ok : SeqAt.shaped (.list due2) = true ∧ PyData.eqv (.list due2) (.list due2) = true := by
  constructor
  · simp [due2, SeqAt.shaped, PyData.canLay0, PyData.canLayAll0, PyData.depth, PyData.depthAll]
  · simp [due2, PyData.eqv, PyData.eqvAll]
theorem odd_pow {z : Int} (h : z % 2 = 1) : ∀ {n : Nat}, z ^ n % 2 = 1
  | 0 => by rw [Int.pow_zero]; rfl
  | n + 1 => by rw [Int.pow_succ, Int.mul_emod, odd_pow h, h]; rfl
theorem due1_ok : SeqAt.shaped (.list due1) = true ∧ PyData.eqv (.list due1) (.list due1) = true := by
  constructor
  · simp [due1, SeqAt.shaped, PyData.canLay0, PyData.canLayAll0, PyData.depth, PyData.depthAll]
  · simp [due1, PyData.eqv, PyData.eqvAll]
theorem pure_law (K : PySem.W.Frag) (vs : List V) (H : Hp) (Q : VK) (E : XK) (h : sp_law K vs H Q E) : t_law K { nx := fun _ H' => Q .non H', rt := Q } (start ["script", "spot", "dice", "turn", "told"] vs) H := by
  obtain ⟨a, ns, rfl, hS, hl, hq⟩ := h
  have key1 : ∀ H' o1 o2 o3 o4, t_law_k3_b K { nx := fun _ H' => Q V.non H', rt := Q } [some (.ref a), o1, o2, o3, o4] H' := by
    intro H' o1 o2 o3 o4
    unfold t_law_k3_b
    walk_at "z"
    refine ⟨by decide, fun a0 g0 => ⟨by decide, fun a1 g1 => ⟨.ref a0, .ref a1, 1, 2, 2, 3, rfl, num_tup (by walk_at "at") (by decide) (by decide), num_tup (by walk_at "at") (by decide) (by decide), ⟨by decide, by decide⟩, ⟨by decide, by decide⟩, ⟨by decide, by decide⟩, ⟨by decide, by decide⟩, ?_⟩⟩⟩
    refine ⟨by decide, fun a2 g2 => ⟨by decide, fun a3 g3 => ⟨.ref a2, .ref a3, -1, 2, -1, 2, rfl, num_tup (by walk_at "at") (by decide) (by decide), num_tup (by walk_at "at") (by decide) (by decide), ⟨by decide, by decide⟩, ⟨by decide, by decide⟩, ⟨by decide, by decide⟩, ⟨by decide, by decide⟩, ?_⟩⟩⟩
    refine ⟨by decide, fun a4 g4 => ⟨5, .ref a4, 1, 2, rfl, grd (by simp), by decide, num_tup upd_same (by decide) (by decide), ⟨by decide, by decide⟩, ⟨by decide, by decide⟩, by decide, fun w H2 s2 w0 w5 hw => ?_⟩⟩
    obtain rfl : w = 3 := by omega
    refine ⟨2, .int 1, 1, 1, -1000, rfl, grd (by simp), .inr ⟨by decide, rfl, rfl, by decide, by decide⟩, ⟨by decide, by decide⟩, ⟨by decide, by decide⟩, by decide, by decide, fun _ => by decide, fun h => absurd h (by decide), fun _ z H3 s3 _ e3 => ?_⟩
    have ez := odd_pow (n := (-1000 : Int).natAbs) (show z % 2 = 1 by have := e3 (by decide); omega)
    rw [ez]
    refine ⟨by decide, fun L hL => ⟨by decide, fun M hM => ?_⟩⟩
    refine ⟨.list [.int (-1), .int 0, .int 3, .int 1], .list [.int (-1), .int 0, .int 3, .int 1], .lst (sqL_of (a := L) (by walk_at "at")) (.cons (.int (-1)) (.cons (.int 0) (.cons (.int 3) (.cons (.int 1) .nil)))), .lst (sqL_of upd_same) (.cons (.int _) (.cons (.int _) (.cons (.int _) (.cons (.int _) .nil)))), by decide, by decide, ?_⟩
    exact hq _
  have key2 : ∀ H' o1 o2 o3 o4, t_law_k4_b K { nx := fun _ H' => Q V.non H', rt := Q } [some (.ref a), o1, o2, o3, o4] H' := by
    intro H' o1 o2 o3 o4
    unfold t_law_k4_b
    walk_at "z"
    refine ⟨by decide, fun a0 g0 => ⟨0, .ref a0, 0, 1, 0, rfl, grd (by simp), num_tup upd_same (by decide) (by decide), ⟨by decide, by decide⟩, ⟨by decide, by decide⟩, by decide, by decide, fun h => absurd h (by decide), fun _ p1 x1 y1 H1 s1 e1 _ hp1 => ?_, fun h => absurd rfl h⟩⟩
    obtain ⟨rfl, rfl⟩ := e1 (by decide)
    have n1 := num_tup (x := 1) (y := 1) hp1 (by decide) (by decide)
    refine ⟨by decide, fun a1 g1 => ⟨by decide, fun a2 g2 => ⟨0, .ref a1, .ref a2, -1, 2, -3, 4, rfl, grd (by simp), num_tup (by walk_at "at") (by decide) (by decide), num_tup (by walk_at "at") (by decide) (by decide), ⟨by decide, by decide⟩, ⟨by decide, by decide⟩, ⟨by decide, by decide⟩, ⟨by decide, by decide⟩, by decide, fun z x y H2 s2 n2 e2 _ => ?_⟩⟩⟩
    obtain ⟨rfl, rfl⟩ := fr_is (t := -4) (b := -6) (x' := 2) (y' := 3) ⟨n2.low.1, n2.low.2 rfl, by have := (e2 rfl).1; omega⟩ (by decide) (by decide) (by decide) (by decide)
    have n1 : NumR H2 0 (.ref p1) 1 1 := (n1.same (same_new (same_upd g1) g2)).same s2
    refine ⟨by decide, fun a3 g3 => ⟨.ref a3, -1, 2, rfl, num_tup upd_same (by decide) (by decide), ⟨by decide, by decide⟩, ⟨by decide, by decide⟩, ?_⟩⟩
    refine ⟨by decide, fun a4 g4 => ⟨.ref a4, 7, 2, rfl, num_tup upd_same (by decide) (by decide), ⟨by decide, by decide⟩, ⟨by decide, by decide⟩, ?_⟩⟩
    refine ⟨by decide, fun a5 g5 => ⟨.ref a5, -4, 1, rfl, num_tup upd_same (by decide) (by decide), ⟨by decide, by decide⟩, ⟨by decide, by decide⟩, ?_⟩⟩
    refine ⟨by decide, fun L hL => ⟨by decide, fun b0 g6 => ⟨by decide, fun b1 g7 => ⟨by decide, fun b2 g8 => ?_⟩⟩⟩⟩
    refine ⟨.list due2, .list due2, .lst (sqL_of (a := L) (by walk_at "at")) (.cons (numd0 (n1.same (by walk_at "same"))) (.cons (numd0 (n2.same (by walk_at "same"))) (.cons (.int (-1)) (.cons (.int 3) (.cons (.int (-4)) .nil))))), .lst (sqL_of upd_same) (.cons (tup_dp (by walk_at "at")) (.cons (tup_dp (by walk_at "at")) (.cons (.int _) (.cons (.int _) (.cons (.int _) .nil))))), due2_ok.1, due2_ok.1, ?_⟩
    rw [due2_ok.2]
    walk_at "z"
    exact key1 _ _ _ _ _
  have key3 : ∀ H' o1 o2 o3, t_law_k5_b K { nx := fun _ H' => Q V.non H', rt := Q } [some (.ref a), o1, o2, o3, none] H' := by
    intro H' o1 o2 o3
    unfold t_law_k5_b
    walk_at "z"
    refine ⟨0, 3, rfl, grd (by simp), by decide, by decide, fun _ p1 h1 => ?_, fun h => absurd rfl h⟩
    have n1 := num_tup (x := 3) (y := 1) (upd_same (H := H') (a := p1)) (by decide) (by decide)
    refine ⟨7, -1, rfl, grd (by simp), by decide, by decide, fun h => absurd h (by decide), fun _ => ?_⟩
    refine ⟨6, -4, rfl, ⟨by decide, by decide⟩, ⟨by decide, by decide⟩, by decide, fun p2 x2 y2 H2 s2 f2 _ _ hp2 => ?_⟩
    obtain ⟨rfl, rfl⟩ := fr_is (x' := -3) (y' := 2) f2 (by decide) (by decide) (by decide) (by decide)
    have n2 := num_tup hp2 (by decide) (by decide)
    have n1 := n1.same s2
    refine ⟨0, -5, rfl, ⟨by decide, by decide⟩, ⟨by decide, by decide⟩, by decide, fun p3 x3 y3 H3 s3 f3 _ _ hp3 => ?_⟩
    obtain ⟨rfl, rfl⟩ := fr_is (x' := 0) (y' := 1) f3 (by decide) (by decide) (by decide) (by decide)
    have n3 := num_tup hp3 (by decide) (by decide)
    have n1 := n1.same s3
    have n2 := n2.same s3
    refine ⟨by decide, fun q1 g1 => ⟨by decide, fun q2 g2 => ?_⟩⟩
    refine ⟨0, .ref q1, .ref q2, 1, 2, 1, 2, rfl, grd (by simp), num_tup (by walk_at "at") (by decide) (by decide), num_tup (by walk_at "at") (by decide) (by decide), ⟨by decide, by decide⟩, ⟨by decide, by decide⟩, ⟨by decide, by decide⟩, ⟨by decide, by decide⟩, fun z x y H5 s5 n5 e5 _ => ?_⟩
    obtain ⟨rfl, rfl⟩ : x = 1 ∧ y = 1 := by
      have e := (e5 rfl).1
      have hc := n5.low.2 rfl
      have hy := n5.low.1
      obtain rfl : x = y := by omega
      rw [Nat.gcd_self] at hc
      omega
    have sq : Same H3 H5 := (same_new (same_upd g1) g2).trans s5
    have n1 := n1.same sq
    have n2 := n2.same sq
    have n3 := n3.same sq
    clear e5
    refine ⟨7, .int 1, .int 3, 1, 1, 3, 1, rfl, grd (by simp), .inr ⟨by decide, rfl, rfl, by decide, by decide⟩, .inr ⟨by decide, rfl, rfl, by decide, by decide⟩, ⟨by decide, by decide⟩, ⟨by decide, by decide⟩, ⟨by decide, by decide⟩, ⟨by decide, by decide⟩, by decide, fun z6 x6 y6 H6 s6 n6 _ e6 => ?_⟩
    have h6 := n6.lt (by decide)
    obtain rfl : x6 = 5 := by
      have := e6 (by decide)
      omega
    obtain rfl : y6 = 1 := h6.2.2
    obtain rfl : z6 = .int 5 := by
      rcases n6 with ⟨h, _⟩ | ⟨_, h, _⟩
      · exact absurd h (by decide)
      · exact h
    have n1 := n1.same s6
    have n2 := n2.same s6
    have n3 := n3.same s6
    have n5 := n5.same s6
    refine ⟨by decide, fun L hL => ⟨by decide, fun b0 g0 => ⟨by decide, fun b1 g1 => ⟨by decide, fun b2 g2 => ⟨by decide, fun b3 g3 => ⟨by decide, fun b4 g4 => ?_⟩⟩⟩⟩⟩⟩
    have s7 : Same H6 (upd H6 L (.lst [V.ref p1, V.int (-1 % 7), V.ref p2, V.ref p3, z, .int 5])) := same_upd hL
    refine ⟨.list due1, .list due1, .lst (sqL_of (a := L) (by walk_at "at")) (.cons (numd0 (n1.same (by walk_at "same"))) (.cons (.int 6) (.cons (numd0 (n2.same (by walk_at "same"))) (.cons (numd0 (n3.same (by walk_at "same"))) (.cons (numd0 (n5.same (by walk_at "same"))) (.cons (.int _) .nil)))))), .lst (sqL_of upd_same) (.cons (tup_dp (by walk_at "at")) (.cons (.int _) (.cons (tup_dp (by walk_at "at")) (.cons (tup_dp (by walk_at "at")) (.cons (tup_dp (by walk_at "at")) (.cons (.int _) .nil)))))), due1_ok.1, due1_ok.1, ?_⟩
    rw [due1_ok.2]
    walk_at "z"
    refine ⟨by decide, fun q3 g5 => ⟨0, .ref q3, 1, 2, -2, rfl, grd (by simp), num_tup upd_same (by decide) (by decide), ⟨by decide, by decide⟩, ⟨by decide, by decide⟩, by decide, by decide, fun _ => by decide, fun _ p4 x4 y4 H8 s8 _ e8 hp4 => ?_, fun h => absurd rfl h⟩⟩
    obtain ⟨rfl, rfl⟩ := fr_is (x' := 2) (y' := 1) (e8 (by decide)) (by decide) (by decide) (by decide) (by decide)
    refine ⟨by decide, fun q4 g6 => ?_⟩
    refine num_ne (num_tup (x := 4) (y := 1) (keep_new hp4 g6) (by decide) (by decide)) (num_tup (x := 4) (y := 1) upd_same (by decide) (by decide)) ⟨rfl, rfl⟩ ?_
    walk_at "z"
    refine ⟨5, .int 0, 0, 1, 0, rfl, grd (by simp), .inr ⟨by decide, rfl, rfl, by decide, by decide⟩, ⟨by decide, by decide⟩, ⟨by decide, by decide⟩, by decide, by decide, fun h => absurd h (by decide), fun h => absurd h (by decide), fun _ z5 H9 s9 e9 _ => ?_⟩
    obtain rfl := e9 (by decide)
    show rNe (.int 1) (.int 1) H9 _
    walk_at "z"
    exact key2 _ _ _ _ _
  unfold t_law
  walk_at "z"
  refine lenL hS ?_
  walk_at "z"
  have hb : ∃ n : Nat, (if (if ((ns.map V.int).length : Int) < 3 then ((ns.map V.int).length : Int) else 3) > 1 then (if ((ns.map V.int).length : Int) < 3 then ((ns.map V.int).length : Int) else 3) else 1) = (n : Int) ∧ n ≤ 3 := by
    rw [List.length_map]
    refine ⟨(if (if (ns.length : Int) < 3 then (ns.length : Int) else 3) > 1 then (if (ns.length : Int) < 3 then (ns.length : Int) else 3) else 1).toNat, ?_, ?_⟩
    · split <;> split <;> omega
    · split <;> split <;> omega
  obtain ⟨n, hn, hn3⟩ := hb
  rw [hn]
  refine ⟨_, rfl, by omega, by omega, for_R (fun i σ H' => ∃ o1 o2 o3, σ = [some (.ref a), o1, o2, o3, none] ∧ Same H H') ⟨_, _, _, rfl, Same.refl H⟩ (fun i σ H' hi h N hN => ?_) (fun σ H' h => ?_)⟩
  · obtain ⟨o1, o2, o3, rfl, s1⟩ := h
    unfold t_law_f2_b
    walk_at "z"
    refine ⟨a, ns, i, by rw [Int.zero_add], s1.seq hS, fun D H2 hD s2 d2 => ?_⟩
    walk_at "z"
    refine ⟨_, rfl, by decide, by decide, for_R (fun i' σ H' => ∃ o3, σ = [some (.ref a), some (.int (0 + (i : Int))), some (.ref D), o3, none] ∧ Keep D H2 H' ∧ Dice H' D) ⟨_, rfl, Keep.refl D H2, d2⟩ (fun j σ H3 hj h N2 hN2 => ?_) (fun σ H3 h => ?_)⟩
    · obtain ⟨o3, rfl, k3, d3⟩ := h
      unfold t_law_f1_b
      walk_at "z"
      refine ⟨D, rfl, d3, fun H4 k4 d4 => ?_⟩
      walk_at "z"
      refine ⟨D, rfl, d4, fun H5 k5 d5 => ?_⟩
      walk_at "z"
      exact hN2 _ _ ⟨_, rfl, (k3.trans k4).trans k5, d5⟩
    · obtain ⟨o3, rfl, k3, d3⟩ := h
      exact hN _ _ ⟨_, _, _, rfl, s1.trans (k3.out s2 hD)⟩
  · obtain ⟨o1, o2, o3, rfl, s1⟩ := h
    exact key3 _ _ _ _

theorem okF_law {P : Program} {w : World} {K : PySem.W.Frag} {mg : Str → Option Value} {base : Heap} {fd : FuncData} (T : Tx K mg) (F : FunD K "law" "law" (defArgs s_law) (defBody s_law) (defScope s_law) [] [] (He.ga K "law") fd) : FnOk P w K mg base CX0 9 (He.ga K "law") fd ["script"] (sp_law K) := by
  obtain ⟨fd_whole, F_whole, b_whole, g_whole, k_whole⟩ := ok_whole (P := P) (w := w) (base := base) T
  obtain ⟨fd_fraction, F_fraction, b_fraction, g_fraction, k_fraction⟩ := ok_fraction (P := P) (w := w) (base := base) T
  obtain ⟨fd_added, F_added, b_added, g_added, k_added⟩ := ok_added (P := P) (w := w) (base := base) T
  obtain ⟨fd_divided, F_divided, b_divided, g_divided, k_divided⟩ := ok_divided (P := P) (w := w) (base := base) T
  obtain ⟨fd_raised, F_raised, b_raised, g_raised, k_raised⟩ := ok_raised (P := P) (w := w) (base := base) T
  obtain ⟨fd_compared, F_compared, b_compared, g_compared, k_compared⟩ := ok_compared (P := P) (w := w) (base := base) T
  obtain ⟨fd_rounded, F_rounded, b_rounded, g_rounded, k_rounded⟩ := ok_rounded (P := P) (w := w) (base := base) T
  obtain ⟨fd_read_at, F_read_at, b_read_at, g_read_at, k_read_at⟩ := ok_read_at (P := P) (w := w) (base := base) T
  obtain ⟨fd__law_dice, F__law_dice, b__law_dice, g__law_dice, k__law_dice⟩ := ok__law_dice (P := P) (w := w) (base := base) T
  obtain ⟨fd__law_field_right, F__law_field_right, b__law_field_right, g__law_field_right, k__law_field_right⟩ := ok__law_field_right (P := P) (w := w) (base := base) T
  obtain ⟨fd__law_fractions_right, F__law_fractions_right, b__law_fractions_right, g__law_fractions_right, k__law_fractions_right⟩ := ok__law_fractions_right (P := P) (w := w) (base := base) T
  have hf_len := T.n_len
  have hf_max := T.n_max
  have hf_min := T.n_min
  have hf_range := T.n_range
  refine F.ok sc_law (fun vs H Q E h => len_law h) (fun cdv A outer s H vs Q E hr h => ⟨t_law K, PSs.nox ?_, pure_law K vs H Q E h⟩)
  have hu64 := hu64_of hr
  exact (pss_cons (ps_for PassesOwn.never rfl (pi_range1 rfl hf_range (pa_cons (pe_callB (call_max2 rfl) (by rfl) hf_max (by decide +kernel) (pa_cons pe_int (pa_cons (pe_callB (call_min2 rfl) (by rfl) hf_min (by decide +kernel) (pa_cons pe_int (pa_cons (pe_callB call_len_seq (by rfl) hf_len (by decide +kernel) (pa_cons (pv 0) pa_nil)) pa_nil))) pa_nil))) pa_nil)) (pg_name (i := 1) sc_law.nd rfl (by first | exact Or.inl rfl | exact Or.inr rfl)) (pss_cons (ps_set (i := 2) sc_law.nd rfl (by first | exact Or.inl rfl | exact Or.inr rfl) (pe_call F__law_dice (hr.mono (by decide)) rfl g__law_dice k__law_dice b__law_dice .nil pass0 (pa_cons (pv 0) (pa_cons (pv 1) pa_nil))))
      (pss_one (ps_for PassesOwn.never rfl (pi_range1 rfl hf_range (pa_cons pe_int pa_nil)) (pg_name (i := 3) sc_law.nd rfl (by first | exact Or.inl rfl | exact Or.inr rfl)) (pss_one (ps_if (PW.pt (pw_or (pt_not (pt_val (pe_call F__law_field_right (hr.mono (by decide)) rfl g__law_field_right k__law_field_right b__law_field_right .nil pass0 (pa_cons (pv 2) pa_nil)))) (pw_or1 (pt_not (pt_val (pe_call F__law_fractions_right (hr.mono (by decide)) rfl g__law_fractions_right k__law_fractions_right b__law_fractions_right .nil pass0 (pa_cons (pv 2) pa_nil))))))) (pss_one (ps_ret pe_bl)) pss_nil))))))
      (pss_cons (ps_set (i := 4) sc_law.nd rfl (by first | exact Or.inl rfl | exact Or.inr rfl) (pe_lst (pa_cons (pe_call F_whole (hr.mono (by decide)) rfl g_whole k_whole b_whole .nil pass0 (pa_cons pe_int (pa_cons pe_int pa_nil))) (pa_cons (pe_call F_whole (hr.mono (by decide)) rfl g_whole k_whole b_whole .nil pass0 (pa_cons pe_int (pa_cons (pe_un un_neg pe_int) pa_nil))) (pa_cons (pe_call F_fraction (hr.mono (by decide)) rfl g_fraction k_fraction b_fraction .nil pass0 (pa_cons pe_int (pa_cons (pe_un un_neg pe_int) pa_nil))) (pa_cons (pe_call F_fraction (hr.mono (by decide)) rfl g_fraction k_fraction b_fraction .nil pass0 (pa_cons pe_int (pa_cons (pe_un un_neg pe_int) pa_nil))) (pa_cons (pe_call F_added (hr.mono (by decide)) rfl g_added k_added b_added .nil pass0 (pa_cons pe_int (pa_cons (pe_tup (pa_cons pe_int (pa_cons pe_int pa_nil))) (pa_cons (pe_tup (pa_cons pe_int (pa_cons pe_int pa_nil))) pa_nil)))) (pa_cons (pe_call F_divided (hr.mono (by decide)) rfl g_divided k_divided b_divided .nil pass0 (pa_cons pe_int (pa_cons pe_int (pa_cons pe_int pa_nil)))) pa_nil))))))))
      (pss_cons (ps_if (PW.pt (pw_or (pt_cmpR (op_neD hu64) (pv 4) (pe_lst (pa_cons (pe_tup (pa_cons pe_int (pa_cons pe_int pa_nil))) (pa_cons pe_int (pa_cons (pe_tup (pa_cons (pe_un un_neg pe_int) (pa_cons pe_int pa_nil))) (pa_cons (pe_tup (pa_cons pe_int (pa_cons pe_int pa_nil))) (pa_cons (pe_tup (pa_cons pe_int (pa_cons pe_int pa_nil))) (pa_cons pe_int pa_nil))))))) (nomark _)) (pw_or (pt_cmpR (op_neD hu64) (pe_call F_raised (hr.mono (by decide)) rfl g_raised k_raised b_raised .nil pass0 (pa_cons pe_int (pa_cons (pe_tup (pa_cons pe_int (pa_cons pe_int pa_nil))) (pa_cons (pe_un un_neg pe_int) pa_nil)))) (pe_tup (pa_cons pe_int (pa_cons pe_int pa_nil))) (nomark _)) (pw_or1 (pt_cmpR op_ne (pe_call F_raised (hr.mono (by decide)) rfl g_raised k_raised b_raised .nil pass0 (pa_cons pe_int (pa_cons pe_int (pa_cons pe_int pa_nil)))) pe_int (nomark _)))))) (pss_one (ps_ret pe_bl)) pss_nil)
      (pss_cons (ps_set (i := 4) sc_law.nd rfl (by first | exact Or.inl rfl | exact Or.inr rfl) (pe_lst (pa_cons (pe_call F_raised (hr.mono (by decide)) rfl g_raised k_raised b_raised .nil pass0 (pa_cons pe_int (pa_cons (pe_tup (pa_cons pe_int (pa_cons pe_int pa_nil))) (pa_cons pe_int pa_nil)))) (pa_cons (pe_call F_divided (hr.mono (by decide)) rfl g_divided k_divided b_divided .nil pass0 (pa_cons pe_int (pa_cons (pe_tup (pa_cons (pe_un un_neg pe_int) (pa_cons pe_int pa_nil))) (pa_cons (pe_tup (pa_cons (pe_un un_neg pe_int) (pa_cons pe_int pa_nil))) pa_nil)))) (pa_cons (pe_call F_rounded (hr.mono (by decide)) rfl g_rounded k_rounded b_rounded .nil pass0 (pa_cons (pe_tup (pa_cons (pe_un un_neg pe_int) (pa_cons pe_int pa_nil))) pa_nil)) (pa_cons (pe_call F_rounded (hr.mono (by decide)) rfl g_rounded k_rounded b_rounded .nil pass0 (pa_cons (pe_tup (pa_cons pe_int (pa_cons pe_int pa_nil))) pa_nil)) (pa_cons (pe_call F_rounded (hr.mono (by decide)) rfl g_rounded k_rounded b_rounded .nil pass0 (pa_cons (pe_tup (pa_cons (pe_un un_neg pe_int) (pa_cons pe_int pa_nil))) pa_nil)) pa_nil)))))))
      (pss_cons (ps_if (pt_cmpR (op_neD hu64) (pv 4) (pe_lst (pa_cons (pe_tup (pa_cons pe_int (pa_cons pe_int pa_nil))) (pa_cons (pe_tup (pa_cons pe_int (pa_cons pe_int pa_nil))) (pa_cons (pe_un un_neg pe_int) (pa_cons pe_int (pa_cons (pe_un un_neg pe_int) pa_nil)))))) (nomark _)) (pss_one (ps_ret pe_bl)) pss_nil)
      (pss_one (ps_ret (pe_cmpR (op_eqD hu64) (pe_lst (pa_cons (pe_call F_compared (hr.mono (by decide)) rfl g_compared k_compared b_compared .nil pass0 (pa_cons (pe_tup (pa_cons pe_int (pa_cons pe_int pa_nil))) (pa_cons (pe_tup (pa_cons pe_int (pa_cons pe_int pa_nil))) pa_nil))) (pa_cons (pe_call F_compared (hr.mono (by decide)) rfl g_compared k_compared b_compared .nil pass0 (pa_cons (pe_tup (pa_cons (pe_un un_neg pe_int) (pa_cons pe_int pa_nil))) (pa_cons (pe_tup (pa_cons (pe_un un_neg pe_int) (pa_cons pe_int pa_nil))) pa_nil))) (pa_cons (pe_call F_read_at (hr.mono (by decide)) rfl g_read_at k_read_at b_read_at .nil pass0 (pa_cons pe_int (pa_cons (pe_tup (pa_cons pe_int (pa_cons pe_int pa_nil))) pa_nil))) (pa_cons (pe_call F_raised (hr.mono (by decide)) rfl g_raised k_raised b_raised .nil pass0 (pa_cons pe_int (pa_cons pe_int (pa_cons (pe_un un_neg pe_int) pa_nil)))) pa_nil))))) (pe_lst (pa_cons (pe_un un_neg pe_int) (pa_cons pe_int (pa_cons pe_int (pa_cons pe_int pa_nil))))) (nomark _)))))))))
/-! ### the head: facts by names, and what the imports bring -/
def bulOk (K : PySem.W.Frag) (bl : List (Str × String)) : Bool := bl.all fun q => decide (PySem.W.nsIn K mainGlobals q.1 = some (some (.builtin q.2)))
def obsB (bl : List (Str × String)) (fa : List He.Fa) (fn : List He.DefD) (K : PySem.W.Frag) : Bool × He.AlD := (bulOk K bl, He.obsD fa fn K)
def obsBG (n : Nat) (bl : List (Str × String)) (fa : List He.Fa) (fn : List He.DefD) (g : Addr → Option Obj) : Bool × He.AlD := obsB bl fa fn (He.frG g (He.asD g n))
def hookB (n : Nat) (bl : List (Str × String)) (fa : List He.Fa) (fn : List He.DefD) : PySem.W.Hook where
  α := Bool × He.AlD
  obs := fun s => obsBG n bl fa fn s.heap.get?
  val := fun _ => (true, He.valD fn)
  says := fun _ h => ∃ K : PySem.W.Frag, K.In h ∧ bulOk K bl = true ∧ He.SaysD fa fn K
  of := fun _ _ e => ⟨_, He.frG_in, congrArg (fun z : Bool × He.AlD => z.1) e, congrArg (fun z : Bool × He.AlD => z.2) e⟩
  keeps := fun _ _ _ ⟨K, hK, c⟩ k => ⟨K, PySem.W.Frag.In.keeps hK k, c⟩
theorem obsBG_eq {n : Nat} {bl : List (Str × String)} {fa : List He.Fa} {fn : List He.DefD} {g : Addr → Option Obj} {s : Shared} (h : ∀ a, g a = s.heap.get? a) : obsBG n bl fa fn g = (hookB n bl fa fn).obs s := by
  have e : g = s.heap.get? := funext h
  rw [e] <;> rfl
theorem bul_ok {K : PySem.W.Frag} {h : Heap} {mg : Str → Option Value} {bl : List (Str × String)} (X : K.In h) (G : h.Ns mainGlobals mg) (c : bulOk K bl = true) (i : Nat) {q : Str × String} (hi : bl[i]? = some q := by rfl) : mg q.1 = some (.builtin q.2) :=
  PySem.W.mg_of X G (of_decide_eq_true (List.all_eq_true.mp c q (List.mem_of_getElem? hi)))
def d_is_int : He.DefD := ⟨("is_int", none), "is_int", "is_int", defArgs s_is_int, defBody s_is_int, defScope s_is_int, [], []⟩
def d_has_no_parts : He.DefD := ⟨("has_no_parts", none), "has_no_parts", "has_no_parts", defArgs s_has_no_parts, defBody s_has_no_parts, defScope s_has_no_parts, [], []⟩
def d_bezout : He.DefD := ⟨("bezout", none), "bezout", "bezout", defArgs s_bezout, defBody s_bezout, defScope s_bezout, [], []⟩
def d_power_modulo : He.DefD := ⟨("power_modulo", none), "power_modulo", "power_modulo", defArgs s_power_modulo, defBody s_power_modulo, defScope s_power_modulo, [], []⟩
def d_integer_power : He.DefD := ⟨("integer_power", none), "integer_power", "integer_power", defArgs s_integer_power, defBody s_integer_power, defScope s_integer_power, [], []⟩
def d_top_of : He.DefD := ⟨("top_of", none), "top_of", "top_of", defArgs s_top_of, defBody s_top_of, defScope s_top_of, [], []⟩
def d_number_of : He.DefD := ⟨("number_of", none), "number_of", "number_of", defArgs s_number_of, defBody s_number_of, defScope s_number_of, [], []⟩
def d_opposite : He.DefD := ⟨("opposite", none), "opposite", "opposite", defArgs s_opposite, defBody s_opposite, defScope s_opposite, [], []⟩
def d_sign_of : He.DefD := ⟨("sign_of", none), "sign_of", "sign_of", defArgs s_sign_of, defBody s_sign_of, defScope s_sign_of, [], []⟩
def d_is_below : He.DefD := ⟨("is_below", none), "is_below", "is_below", defArgs s_is_below, defBody s_is_below, defScope s_is_below, [], []⟩
def d_is_between : He.DefD := ⟨("is_between", none), "is_between", "is_between", defArgs s_is_between, defBody s_is_between, defScope s_is_between, [], []⟩
def d_undone_modulo : He.DefD := ⟨("undone_modulo", none), "undone_modulo", "undone_modulo", defArgs s_undone_modulo, defBody s_undone_modulo, defScope s_undone_modulo, [], []⟩
def d_is_zero : He.DefD := ⟨("is_zero", none), "is_zero", "is_zero", defArgs s_is_zero, defBody s_is_zero, defScope s_is_zero, [], []⟩
def d_power : He.DefD := ⟨("power", none), "power", "power", defArgs s_power, defBody s_power, defScope s_power, [], []⟩
def d_sign_of_difference : He.DefD := ⟨("sign_of_difference", none), "sign_of_difference", "sign_of_difference", defArgs s_sign_of_difference, defBody s_sign_of_difference, defScope s_sign_of_difference, [], []⟩
def d_check_between : He.DefD := ⟨("check_between", none), "check_between", "check_between", defArgs s_check_between, defBody s_check_between, defScope s_check_between, [], []⟩
def d_prime_fits : He.DefD := ⟨("prime_fits", none), "prime_fits", "prime_fits", defArgs s_prime_fits, defBody s_prime_fits, defScope s_prime_fits, [], []⟩
def d_number_fits : He.DefD := ⟨("number_fits", none), "number_fits", "number_fits", defArgs s_number_fits, defBody s_number_fits, defScope s_number_fits, [], []⟩
def d_quotient : He.DefD := ⟨("quotient", none), "quotient", "quotient", defArgs s_quotient, defBody s_quotient, defScope s_quotient, [], []⟩
def d_check_integer : He.DefD := ⟨("check_integer", none), "check_integer", "check_integer", defArgs s_check_integer, defBody s_check_integer, defScope s_check_integer, [], []⟩
def d_ground_fits : He.DefD := ⟨("ground_fits", none), "ground_fits", "ground_fits", defArgs s_ground_fits, defBody s_ground_fits, defScope s_ground_fits, [], []⟩
def d_times : He.DefD := ⟨("times", none), "times", "times", defArgs s_times, defBody s_times, defScope s_times, [], []⟩
def d_check_number : He.DefD := ⟨("check_number", none), "check_number", "check_number", defArgs s_check_number, defBody s_check_number, defScope s_check_number, [], []⟩
def d_plus : He.DefD := ⟨("plus", none), "plus", "plus", defArgs s_plus, defBody s_plus, defScope s_plus, [], []⟩
def d_over : He.DefD := ⟨("over", none), "over", "over", defArgs s_over, defBody s_over, defScope s_over, [], []⟩
def d_fraction : He.DefD := ⟨("fraction", none), "fraction", "fraction", defArgs s_fraction, defBody s_fraction, defScope s_fraction, [], []⟩
def d_check_ground : He.DefD := ⟨("check_ground", none), "check_ground", "check_ground", defArgs s_check_ground, defBody s_check_ground, defScope s_check_ground, [], []⟩
def d_check_prime_ground : He.DefD := ⟨("check_prime_ground", none), "check_prime_ground", "check_prime_ground", defArgs s_check_prime_ground, defBody s_check_prime_ground, defScope s_check_prime_ground, [], []⟩
def d_minus : He.DefD := ⟨("minus", none), "minus", "minus", defArgs s_minus, defBody s_minus, defScope s_minus, [], []⟩
def d_compared : He.DefD := ⟨("compared", none), "compared", "compared", defArgs s_compared, defBody s_compared, defScope s_compared, [], []⟩
def d_rounded : He.DefD := ⟨("rounded", none), "rounded", "rounded", defArgs s_rounded, defBody s_rounded, defScope s_rounded, [], []⟩
def d_whole : He.DefD := ⟨("whole", none), "whole", "whole", defArgs s_whole, defBody s_whole, defScope s_whole, [], []⟩
def d_check_two : He.DefD := ⟨("check_two", none), "check_two", "check_two", defArgs s_check_two, defBody s_check_two, defScope s_check_two, [], []⟩
def d_raised : He.DefD := ⟨("raised", none), "raised", "raised", defArgs s_raised, defBody s_raised, defScope s_raised, [], []⟩
def d_read_at : He.DefD := ⟨("read_at", none), "read_at", "read_at", defArgs s_read_at, defBody s_read_at, defScope s_read_at, [], []⟩
def d_added : He.DefD := ⟨("added", none), "added", "added", defArgs s_added, defBody s_added, defScope s_added, [], []⟩
def d_subtracted : He.DefD := ⟨("subtracted", none), "subtracted", "subtracted", defArgs s_subtracted, defBody s_subtracted, defScope s_subtracted, [], []⟩
def d_multiplied : He.DefD := ⟨("multiplied", none), "multiplied", "multiplied", defArgs s_multiplied, defBody s_multiplied, defScope s_multiplied, [], []⟩
def d_divided : He.DefD := ⟨("divided", none), "divided", "divided", defArgs s_divided, defBody s_divided, defScope s_divided, [], []⟩
def d__law_dice : He.DefD := ⟨("_law_dice", none), "_law_dice", "_law_dice", defArgs s__law_dice, defBody s__law_dice, defScope s__law_dice, [], []⟩
def d__law_roll : He.DefD := ⟨("_law_roll", none), "_law_roll", "_law_roll", defArgs s__law_roll, defBody s__law_roll, defScope s__law_roll, [], []⟩
def d__law_gcd : He.DefD := ⟨("_law_gcd", none), "_law_gcd", "_law_gcd", defArgs s__law_gcd, defBody s__law_gcd, defScope s__law_gcd, [], []⟩
def d__law_back : He.DefD := ⟨("_law_back", none), "_law_back", "_law_back", defArgs s__law_back, defBody s__law_back, defScope s__law_back, [], []⟩
def d__law_zero : He.DefD := ⟨("_law_zero", none), "_law_zero", "_law_zero", defArgs s__law_zero, defBody s__law_zero, defScope s__law_zero, [], []⟩
def d__law_unit : He.DefD := ⟨("_law_unit", none), "_law_unit", "_law_unit", defArgs s__law_unit, defBody s__law_unit, defScope s__law_unit, [], []⟩
def d__law_minus : He.DefD := ⟨("_law_minus", none), "_law_minus", "_law_minus", defArgs s__law_minus, defBody s__law_minus, defScope s__law_minus, [], []⟩
def d__law_pick : He.DefD := ⟨("_law_pick", none), "_law_pick", "_law_pick", defArgs s__law_pick, defBody s__law_pick, defScope s__law_pick, [], []⟩
def d__law_fraction : He.DefD := ⟨("_law_fraction", none), "_law_fraction", "_law_fraction", defArgs s__law_fraction, defBody s__law_fraction, defScope s__law_fraction, [], []⟩
def d__law_plus : He.DefD := ⟨("_law_plus", none), "_law_plus", "_law_plus", defArgs s__law_plus, defBody s__law_plus, defScope s__law_plus, [], []⟩
def d__law_times : He.DefD := ⟨("_law_times", none), "_law_times", "_law_times", defArgs s__law_times, defBody s__law_times, defScope s__law_times, [], []⟩
def d__law_undone : He.DefD := ⟨("_law_undone", none), "_law_undone", "_law_undone", defArgs s__law_undone, defBody s__law_undone, defScope s__law_undone, [], []⟩
def d__law_nu_ground : He.DefD := ⟨("_law_nu_ground", none), "_law_nu_ground", "_law_nu_ground", defArgs s__law_nu_ground, defBody s__law_nu_ground, defScope s__law_nu_ground, [], []⟩
def d__law_nu_drawn : He.DefD := ⟨("_law_nu_drawn", none), "_law_nu_drawn", "_law_nu_drawn", defArgs s__law_nu_drawn, defBody s__law_nu_drawn, defScope s__law_nu_drawn, [], []⟩
def d__law_nu_power : He.DefD := ⟨("_law_nu_power", none), "_law_nu_power", "_law_nu_power", defArgs s__law_nu_power, defBody s__law_nu_power, defScope s__law_nu_power, [], []⟩
def d__law_field_right : He.DefD := ⟨("_law_field_right", none), "_law_field_right", "_law_field_right", defArgs s__law_field_right, defBody s__law_field_right, defScope s__law_field_right, [], []⟩
def d__law_fractions_right : He.DefD := ⟨("_law_fractions_right", none), "_law_fractions_right", "_law_fractions_right", defArgs s__law_fractions_right, defBody s__law_fractions_right, defScope s__law_fractions_right, [], []⟩
def d_law : He.DefD := ⟨("law", none), "law", "law", defArgs s_law, defBody s_law, defScope s_law, [], []⟩
def fnl : List He.DefD := [d_is_int, d_has_no_parts, d_bezout, d_power_modulo, d_integer_power, d_top_of, d_number_of, d_opposite, d_sign_of, d_is_below, d_is_between, d_undone_modulo, d_is_zero, d_power, d_sign_of_difference, d_check_between, d_prime_fits, d_number_fits, d_quotient, d_check_integer, d_ground_fits, d_times, d_check_number, d_plus, d_over, d_fraction, d_check_ground, d_check_prime_ground, d_minus, d_compared, d_rounded, d_whole, d_check_two, d_raised, d_read_at, d_added, d_subtracted, d_multiplied, d_divided, d__law_dice, d__law_roll, d__law_gcd, d__law_back, d__law_zero, d__law_unit, d__law_minus, d__law_pick, d__law_fraction, d__law_plus, d__law_times, d__law_undone, d__law_nu_ground, d__law_nu_drawn, d__law_nu_power, d__law_field_right, d__law_fractions_right, d_law]
def fal : List He.Fa := [.glo "is_int", .glo "has_no_parts", .glo "bezout", .glo "power_modulo", .glo "integer_power", .glo "top_of", .glo "number_of", .glo "opposite", .glo "sign_of", .glo "is_below", .glo "is_between", .glo "undone_modulo", .glo "is_zero", .glo "power", .glo "sign_of_difference", .glo "check_between", .glo "prime_fits", .glo "number_fits", .glo "quotient", .glo "check_integer", .glo "ground_fits", .glo "times", .glo "check_number", .glo "plus", .glo "over", .glo "fraction", .glo "check_ground", .glo "check_prime_ground", .glo "minus", .glo "compared", .glo "rounded", .glo "whole", .glo "check_two", .glo "raised", .glo "read_at", .glo "added", .glo "subtracted", .glo "multiplied", .glo "divided", .glo "_law_dice", .glo "_law_roll", .glo "_law_gcd", .glo "_law_back", .glo "_law_zero", .glo "_law_unit", .glo "_law_minus", .glo "_law_pick", .glo "_law_fraction", .glo "_law_plus", .glo "_law_times", .glo "_law_undone", .glo "_law_nu_ground", .glo "_law_nu_drawn", .glo "_law_nu_power", .glo "_law_field_right", .glo "_law_fractions_right", .glo "law", .int "LAST_GROUND" 9999, .int "SIXTY_DIGITS" 1000000000000000000000000000000000000000000000000000000000000, .int "MAX_EXPONENT" 1000, .free "abs", .free "bool", .free "int", .free "isinstance", .free "len", .free "max", .free "min", .free "range", .free "tuple"]
def bul : List (Str × String) := [("gcd", "math.gcd")]
def loose0 : List PySem.Str := ["PaperError", "InvalidGround", "InvalidOperation", "InvalidNumber", "LAST_GROUND", "is_int", "is_below", "is_between", "has_no_parts", "prime_fits", "ground_fits", "number_fits", "bezout", "undone_modulo", "power_modulo", "integer_power", "quotient", "top_of", "number_of", "is_zero", "times", "opposite", "power", "sign_of", "sign_of_difference", "SIXTY_DIGITS", "check_ground", "check_prime_ground", "check_number", "check_integer"]
def loose1 : List PySem.Str := ["check_between", "plus", "minus", "over", "MAX_EXPONENT", "whole", "fraction", "check_two", "added", "subtracted", "multiplied", "divided", "raised", "compared", "rounded", "read_at", "_law_dice", "_law_roll", "_law_pick", "_law_gcd", "_law_fraction", "_law_back", "_law_zero", "_law_unit", "_law_plus", "_law_minus", "_law_times", "_law_undone", "_law_nu_ground", "_law_nu_drawn"]
def loose2 : List PySem.Str := ["_law_nu_power", "_law_field_right", "_law_fractions_right"]
def looseL : List PySem.Str := loose0 ++ loose1 ++ loose2
abbrev RR : PySem.W.OpenRow := PySem.W.OpenLaw.row PySem.Challenge.rw_zeroorone_k00_whole_numbers_of_a_ground
abbrev hk : PySem.W.Hook := hookB 5 bul fal fnl
def obz (s : PySem.W.SharedT) : Bool × He.AlD := obsBG 5 bul fal fnl (HandSHeadRun.getT s)
theorem obz_eq (s : PySem.W.SharedT) : obz s = hk.obs s.abs := obsBG_eq (HandSHeadRun.getT_eq s)
theorem run (w : World) : HandSHeadRun.RunEqI RR (PySem.W.view RR.prog [0, 69]) hk obz 4000 looseL w := by
  unfold HandSHeadRun.RunEqI
  kernel_rfl
theorem tx_of {K : PySem.W.Frag} {h : Heap} {mg : Str → Option Value} (X : K.In h) (G : h.Ns mainGlobals mg) (b : bulOk K bul = true) (c : He.SaysD fal fnl K) : Tx K mg where
  f_is_int := c.def_ 0 (d := d_is_int) rfl
  g_is_int := He.glo_ok X G (c.fact 0 (f := .glo "is_int") rfl)
  f_has_no_parts := c.def_ 1 (d := d_has_no_parts) rfl
  g_has_no_parts := He.glo_ok X G (c.fact 1 (f := .glo "has_no_parts") rfl)
  f_bezout := c.def_ 2 (d := d_bezout) rfl
  g_bezout := He.glo_ok X G (c.fact 2 (f := .glo "bezout") rfl)
  f_power_modulo := c.def_ 3 (d := d_power_modulo) rfl
  g_power_modulo := He.glo_ok X G (c.fact 3 (f := .glo "power_modulo") rfl)
  f_integer_power := c.def_ 4 (d := d_integer_power) rfl
  g_integer_power := He.glo_ok X G (c.fact 4 (f := .glo "integer_power") rfl)
  f_top_of := c.def_ 5 (d := d_top_of) rfl
  g_top_of := He.glo_ok X G (c.fact 5 (f := .glo "top_of") rfl)
  f_number_of := c.def_ 6 (d := d_number_of) rfl
  g_number_of := He.glo_ok X G (c.fact 6 (f := .glo "number_of") rfl)
  f_opposite := c.def_ 7 (d := d_opposite) rfl
  g_opposite := He.glo_ok X G (c.fact 7 (f := .glo "opposite") rfl)
  f_sign_of := c.def_ 8 (d := d_sign_of) rfl
  g_sign_of := He.glo_ok X G (c.fact 8 (f := .glo "sign_of") rfl)
  f_is_below := c.def_ 9 (d := d_is_below) rfl
  g_is_below := He.glo_ok X G (c.fact 9 (f := .glo "is_below") rfl)
  f_is_between := c.def_ 10 (d := d_is_between) rfl
  g_is_between := He.glo_ok X G (c.fact 10 (f := .glo "is_between") rfl)
  f_undone_modulo := c.def_ 11 (d := d_undone_modulo) rfl
  g_undone_modulo := He.glo_ok X G (c.fact 11 (f := .glo "undone_modulo") rfl)
  f_is_zero := c.def_ 12 (d := d_is_zero) rfl
  g_is_zero := He.glo_ok X G (c.fact 12 (f := .glo "is_zero") rfl)
  f_power := c.def_ 13 (d := d_power) rfl
  g_power := He.glo_ok X G (c.fact 13 (f := .glo "power") rfl)
  f_sign_of_difference := c.def_ 14 (d := d_sign_of_difference) rfl
  g_sign_of_difference := He.glo_ok X G (c.fact 14 (f := .glo "sign_of_difference") rfl)
  f_check_between := c.def_ 15 (d := d_check_between) rfl
  g_check_between := He.glo_ok X G (c.fact 15 (f := .glo "check_between") rfl)
  f_prime_fits := c.def_ 16 (d := d_prime_fits) rfl
  g_prime_fits := He.glo_ok X G (c.fact 16 (f := .glo "prime_fits") rfl)
  f_number_fits := c.def_ 17 (d := d_number_fits) rfl
  g_number_fits := He.glo_ok X G (c.fact 17 (f := .glo "number_fits") rfl)
  f_quotient := c.def_ 18 (d := d_quotient) rfl
  g_quotient := He.glo_ok X G (c.fact 18 (f := .glo "quotient") rfl)
  f_check_integer := c.def_ 19 (d := d_check_integer) rfl
  g_check_integer := He.glo_ok X G (c.fact 19 (f := .glo "check_integer") rfl)
  f_ground_fits := c.def_ 20 (d := d_ground_fits) rfl
  g_ground_fits := He.glo_ok X G (c.fact 20 (f := .glo "ground_fits") rfl)
  f_times := c.def_ 21 (d := d_times) rfl
  g_times := He.glo_ok X G (c.fact 21 (f := .glo "times") rfl)
  f_check_number := c.def_ 22 (d := d_check_number) rfl
  g_check_number := He.glo_ok X G (c.fact 22 (f := .glo "check_number") rfl)
  f_plus := c.def_ 23 (d := d_plus) rfl
  g_plus := He.glo_ok X G (c.fact 23 (f := .glo "plus") rfl)
  f_over := c.def_ 24 (d := d_over) rfl
  g_over := He.glo_ok X G (c.fact 24 (f := .glo "over") rfl)
  f_fraction := c.def_ 25 (d := d_fraction) rfl
  g_fraction := He.glo_ok X G (c.fact 25 (f := .glo "fraction") rfl)
  f_check_ground := c.def_ 26 (d := d_check_ground) rfl
  g_check_ground := He.glo_ok X G (c.fact 26 (f := .glo "check_ground") rfl)
  f_check_prime_ground := c.def_ 27 (d := d_check_prime_ground) rfl
  g_check_prime_ground := He.glo_ok X G (c.fact 27 (f := .glo "check_prime_ground") rfl)
  f_minus := c.def_ 28 (d := d_minus) rfl
  g_minus := He.glo_ok X G (c.fact 28 (f := .glo "minus") rfl)
  f_compared := c.def_ 29 (d := d_compared) rfl
  g_compared := He.glo_ok X G (c.fact 29 (f := .glo "compared") rfl)
  f_rounded := c.def_ 30 (d := d_rounded) rfl
  g_rounded := He.glo_ok X G (c.fact 30 (f := .glo "rounded") rfl)
  f_whole := c.def_ 31 (d := d_whole) rfl
  g_whole := He.glo_ok X G (c.fact 31 (f := .glo "whole") rfl)
  f_check_two := c.def_ 32 (d := d_check_two) rfl
  g_check_two := He.glo_ok X G (c.fact 32 (f := .glo "check_two") rfl)
  f_raised := c.def_ 33 (d := d_raised) rfl
  g_raised := He.glo_ok X G (c.fact 33 (f := .glo "raised") rfl)
  f_read_at := c.def_ 34 (d := d_read_at) rfl
  g_read_at := He.glo_ok X G (c.fact 34 (f := .glo "read_at") rfl)
  f_added := c.def_ 35 (d := d_added) rfl
  g_added := He.glo_ok X G (c.fact 35 (f := .glo "added") rfl)
  f_subtracted := c.def_ 36 (d := d_subtracted) rfl
  g_subtracted := He.glo_ok X G (c.fact 36 (f := .glo "subtracted") rfl)
  f_multiplied := c.def_ 37 (d := d_multiplied) rfl
  g_multiplied := He.glo_ok X G (c.fact 37 (f := .glo "multiplied") rfl)
  f_divided := c.def_ 38 (d := d_divided) rfl
  g_divided := He.glo_ok X G (c.fact 38 (f := .glo "divided") rfl)
  f__law_dice := c.def_ 39 (d := d__law_dice) rfl
  g__law_dice := He.glo_ok X G (c.fact 39 (f := .glo "_law_dice") rfl)
  f__law_roll := c.def_ 40 (d := d__law_roll) rfl
  g__law_roll := He.glo_ok X G (c.fact 40 (f := .glo "_law_roll") rfl)
  f__law_gcd := c.def_ 41 (d := d__law_gcd) rfl
  g__law_gcd := He.glo_ok X G (c.fact 41 (f := .glo "_law_gcd") rfl)
  f__law_back := c.def_ 42 (d := d__law_back) rfl
  g__law_back := He.glo_ok X G (c.fact 42 (f := .glo "_law_back") rfl)
  f__law_zero := c.def_ 43 (d := d__law_zero) rfl
  g__law_zero := He.glo_ok X G (c.fact 43 (f := .glo "_law_zero") rfl)
  f__law_unit := c.def_ 44 (d := d__law_unit) rfl
  g__law_unit := He.glo_ok X G (c.fact 44 (f := .glo "_law_unit") rfl)
  f__law_minus := c.def_ 45 (d := d__law_minus) rfl
  g__law_minus := He.glo_ok X G (c.fact 45 (f := .glo "_law_minus") rfl)
  f__law_pick := c.def_ 46 (d := d__law_pick) rfl
  g__law_pick := He.glo_ok X G (c.fact 46 (f := .glo "_law_pick") rfl)
  f__law_fraction := c.def_ 47 (d := d__law_fraction) rfl
  g__law_fraction := He.glo_ok X G (c.fact 47 (f := .glo "_law_fraction") rfl)
  f__law_plus := c.def_ 48 (d := d__law_plus) rfl
  g__law_plus := He.glo_ok X G (c.fact 48 (f := .glo "_law_plus") rfl)
  f__law_times := c.def_ 49 (d := d__law_times) rfl
  g__law_times := He.glo_ok X G (c.fact 49 (f := .glo "_law_times") rfl)
  f__law_undone := c.def_ 50 (d := d__law_undone) rfl
  g__law_undone := He.glo_ok X G (c.fact 50 (f := .glo "_law_undone") rfl)
  f__law_nu_ground := c.def_ 51 (d := d__law_nu_ground) rfl
  g__law_nu_ground := He.glo_ok X G (c.fact 51 (f := .glo "_law_nu_ground") rfl)
  f__law_nu_drawn := c.def_ 52 (d := d__law_nu_drawn) rfl
  g__law_nu_drawn := He.glo_ok X G (c.fact 52 (f := .glo "_law_nu_drawn") rfl)
  f__law_nu_power := c.def_ 53 (d := d__law_nu_power) rfl
  g__law_nu_power := He.glo_ok X G (c.fact 53 (f := .glo "_law_nu_power") rfl)
  f__law_field_right := c.def_ 54 (d := d__law_field_right) rfl
  g__law_field_right := He.glo_ok X G (c.fact 54 (f := .glo "_law_field_right") rfl)
  f__law_fractions_right := c.def_ 55 (d := d__law_fractions_right) rfl
  g__law_fractions_right := He.glo_ok X G (c.fact 55 (f := .glo "_law_fractions_right") rfl)
  f_law := c.def_ 56 (d := d_law) rfl
  g_law := He.glo_ok X G (c.fact 56 (f := .glo "law") rfl)
  c_LAST_GROUND := He.int_ok X G (c.fact 57 (f := .int "LAST_GROUND" 9999) rfl)
  c_SIXTY_DIGITS := He.int_ok X G (c.fact 58 (f := .int "SIXTY_DIGITS" 1000000000000000000000000000000000000000000000000000000000000) rfl)
  c_MAX_EXPONENT := He.int_ok X G (c.fact 59 (f := .int "MAX_EXPONENT" 1000) rfl)
  n_abs := He.free_ok X G (c.fact 60 (f := .free "abs") rfl)
  n_bool := He.free_ok X G (c.fact 61 (f := .free "bool") rfl)
  n_int := He.free_ok X G (c.fact 62 (f := .free "int") rfl)
  n_isinstance := He.free_ok X G (c.fact 63 (f := .free "isinstance") rfl)
  n_len := He.free_ok X G (c.fact 64 (f := .free "len") rfl)
  n_max := He.free_ok X G (c.fact 65 (f := .free "max") rfl)
  n_min := He.free_ok X G (c.fact 66 (f := .free "min") rfl)
  n_range := He.free_ok X G (c.fact 67 (f := .free "range") rfl)
  n_tuple := He.free_ok X G (c.fact 68 (f := .free "tuple") rfl)
  b_gcd := bul_ok X G b 0
end L2.Z
open PySem PySem.W PySem.Calls PyProof.Rows
theorem PySem.Challenge.cw_zeroorone_k00_whole_numbers_of_a_ground_holds : PySem.Challenge.rw_zeroorone_k00_whole_numbers_of_a_ground.Holds := by
  w_on; o_law
  refine HandSHeadRun.head_imp (r := (OpenLaw.row PySem.Challenge.rw_zeroorone_k00_whole_numbers_of_a_ground)) (q := view (OpenLaw.row PySem.Challenge.rw_zeroorone_k00_whole_numbers_of_a_ground).prog [0, 69]) (H := L2.Z.hk) (ob := L2.Z.obz) (loose := L2.Z.looseL) (d := HandSHeadRun.topDef (OpenLaw.row PySem.Challenge.rw_zeroorone_k00_whole_numbers_of_a_ground).prog 69) (kwd := []) L2.Z.obz_eq
    L2.Z.run (by kernel_rfl) (by kernel_rfl) (by kernel_rfl) (by rfl) (by first | assumption | decide +kernel) (by decide +kernel) ⟨rfl, rfl, rfl, rfl, rfl, by decide +kernel⟩ ?hw ?hc
  case hw => w_witness2
  case hc =>
    refine L2.walk_ofE (l := PySem.Challenge.rw_zeroorone_k00_whole_numbers_of_a_ground) (n := 63) (k := 9) (x := "script") (CX := L2.CX0) rfl (by decide) (by kernel_rfl) ⟨rfl, by decide, by decide⟩ ?F (fun _ _ _ _ z => z)
    intro w mg fa h Y G hmg0
    obtain ⟨K, KX, bb, cc⟩ := Y
    have T := L2.Z.tx_of KX G bb cc
    have hmg : mg ("law" : PySem.Str) = some (.ref fa) := by
      have e : (HandSHeadRun.topDef (OpenLaw.row PySem.Challenge.rw_zeroorone_k00_whole_numbers_of_a_ground).prog 69).name = ("law" : PySem.Str) := by kernel_rfl
      rw [← e]
      exact hmg0
    have e := hmg.symm.trans T.g_law
    cases e
    obtain ⟨fd, F⟩ := T.f_law
    have hb := L2.FunD.bindsA (ps := ["script"]) F fun _ _ _ _ _ _ us hl => match us, hl with | [_], _ => rfl
    refine ⟨K, fd, L2.Z.sp_law K, KX, fun s v => hb s [v] rfl, fun H a ns hl _ hS => ⟨a, ns, rfl, hS, hl, fun _ => rfl⟩, fun base _ _ => L2.Z.okF_law T F⟩
