import PyProof.Rows.All
import Wide.All
import OpenK.AllK
import Wide.FinOn
import HandS.ForMost
import HandS.Wide
import HandS.Gcd
import HandS.More
import HandS.IsInst
import HandS.Defaults
import HandS.SortInts
import HandS.Zip
import HandS.TupAny
import HandS.Conv
import HandS.Style
import HandS.RaiseMore
import HandS.Head0
import HandS.Head1
import HandS.Head2
import HandS.Head3
import HandS.HeadEnd
import HandS.HeadHook1
import HandS.HeadHook2
import HandS.Small
import KE.GoesEnum
import KE.KExcInit
import HandS.ForSpec
import HandS.ExcOwn
import HandS.Lambda
import HandS.EndTab
import HandS.HeadHook4
import HandS.HeadWalk
import PyProof.ExcBaseAll.IndexError
import PyProof.ExcBaseAll.RuntimeError
import PyProof.ExcBaseAll.OverflowError
import PyProof.ExcBaseAll.ArithmeticError
import PyProof.ExcBaseAll.LookupError
import HandS.TryMany
import PyProof.ReprRoads
import HandS.EndBits
import HandS.TupMul
import HandS.SetBool
import HandS.Strs
import KE.GoesZip
import PySem.Challenge.RW_zeroorone_k12_errors_of_tables
set_option Elab.async false
set_option linter.all false
set_option maxRecDepth 100000
set_option maxHeartbeats 2000000
namespace L2.Z
open PySem PySem.Spec PyProof.Rows
abbrev rAdd : R2 := rI0 fun i j => .int (i + j)
abbrev rSub : R2 := rI0 fun i j => .int (i - j)
abbrev rModU : R2 := rI (fun _ j => 0 < j) fun i j => .int (i % j)
abbrev rDivU : R2 := rI CDivW fun i j => .int (i / j)
abbrev rPowU : R2 := rI CPow fun i j => .int (i ^ j.toNat)
abbrev rMulU : R2 := rI (fun i j => CMul i j ∨ CMulW i j) fun i j => .int (i * j)
abbrev rNeg : V → Hp → VK → Prop := rU fun i => .int (-i)
/-- // by any divisor but 0 below 2 ^ 9000 -/
def CDivZ (_ j : Int) : Prop := j ≠ 0 ∧ j.natAbs.log2 < 9000
abbrev rDivZ : R2 := rI CDivZ fun i j => .int (i.fdiv j)
theorem op_fdivZ {X : Cx} : OpR X (binaryOp .FloorDiv) rDivZ := opI fun i j _ _ _ _ _ hc q => floordiv_int hc.1 q (.inl (PyProof.noPylong_of_log2 hc.2))
abbrev rStrI : List V → Hp → VK → Prop := fun xs H Q => ∃ i : Int, xs = [.int i] ∧ i.natAbs.log2 < 1920 ∧ Q (.str (toString i)) H
/-- repr of plain values -/
def tTru (K : PySem.W.Frag) (te : TE) : TT := fun σ H Qt => te σ H fun x H1 => ∃ k, TruV K x H1 k ∧ Qt k H1
theorem pt_tru {X : Cx} {K : PySem.W.Frag} {a : PySem.Expr} {ta : TE} (hk : X.K = K) (h : PE X a ta) (he : ∀ whole : PySem.Sem PySem.Value, PySem.isTrue a X.env whole = do
          let v ← whole
          PySem.standAt a.pos
          PySem.holding [v] (PySem.truthy v)) : PT X a (tTru K ta) := by
  subst hk
  exact pt_truth h he
def rMinT : List V → Hp → VK → Prop := fun vs H Q => ∃ (a : Addr) (ns : List Int), vs = [.ref a] ∧ H a = some (.tup (ns.map V.int)) ∧ 0 < ns.length ∧ ∀ m, m ∈ ns → (∀ y ∈ ns, m ≤ y) → Q (.int m) H
theorem vals_ints : ∀ {ns : List Int} {its : List Value}, Vals (ns.map V.int) its → its.length = ns.length ∧ ∀ (i : Nat) (v : Value), its[i]? = some v → ∃ t, v = Value.int (ns.getD i 0) t := by
  intro ns
  induction ns with
  | nil => intro its h; cases h; exact ⟨rfl, fun i v e => by simp at e⟩
  | cons n r ih =>
    intro its h
    cases h with
    | cons h1 h2 =>
      obtain ⟨l, g⟩ := ih h2
      refine ⟨by simp [l], fun i v e => ?_⟩
      cases i with
      | zero =>
        simp only [List.getElem?_cons_zero, Option.some.injEq] at e
        subst e
        obtain ⟨t, e⟩ := h1
        exact ⟨t, by simpa using e⟩
      | succ i =>
        rw [List.getElem?_cons_succ] at e
        obtain ⟨t, e⟩ := g i v e
        exact ⟨t, by simpa using e⟩
theorem cr_minT {X : Cx} (hc : X.calm = true) : CallR X (.builtin "min") rMinT := by
  intro pins s σ H xs us Q I r h
  obtain ⟨a, ns, rfl, hT, hn, hq⟩ := h
  obtain ⟨u, rfl, r1⟩ := vals1 r
  cases (show u = Value.ref a from r1)
  obtain ⟨its, hv, hI, _⟩ := I.tuple (.inl (.inl hT))
  obtain ⟨hl, hg⟩ := vals_ints hv
  refine PySem.call_min_walk ?_
  refine PySem.wpAny_pyIter_tuple (items := its.toArray) ?_ ?_
  · exact hI
  · obtain ⟨o, ho, hcl, hdt⟩ := hI
    have hlt : a < s.heap.objs.size := by
      refine Nat.lt_of_not_le fun c => ?_
      have : s.heap.get? a = none := by
        simp [PySem.Heap.get?, c]
      rw [ho] at this
      cases this
    have hne : a ≠ s.heap.objs.size := Nat.ne_of_lt hlt
    have push_old : ∀ (b : Addr) (u x : Obj), s.heap.get? b = some u → (s.heap.push x).get? b = some u := fun b u x hb => by
      have hlb : b < s.heap.objs.size := by
        refine Nat.lt_of_not_le fun c => ?_
        have : s.heap.get? b = none := by simp [PySem.Heap.get?, c]
        rw [hb] at this
        cases this
      simp only [PySem.Heap.get?, PySem.Heap.push] at hb ⊢
      rw [Array.getElem?_push, if_neg (Nat.ne_of_lt hlb)]
      exact hb
    refine ⟨_, _, _, _, _, _, _, rfl, PySem.Walks.tuple ?_ s.heap.objs.size a hne its.toArray, ⟨⟨{ cls := Value.type "tuple_iterator", data := Data.fields #[Value.ref a, Value.int 0 0] }, ?_, rfl, rfl⟩, ⟨o, push_old a o _ ho, hcl, hdt⟩⟩, ?_, ?_, PySem.CmpOf.ints_lt (fun i => ns.getD i 0) (fun i v e => hg i v (by simpa using e)), fun v h' tk hP hk => ?_⟩
    · exact (I.ok.hd hc)
    · simp [PySem.Heap.get?, PySem.Heap.push]
    · intro b hb
      have : (s.heap.push { cls := Value.type "tuple_iterator", data := Data.fields #[Value.ref a, Value.int 0 0] }).objs.size = s.heap.objs.size + 1 := by simp [PySem.Heap.push]
      show b < (s.heap.push { cls := Value.type "tuple_iterator", data := Data.fields #[Value.ref a, Value.int 0 0] }).objs.size
      rw [this]
      simp only [List.mem_cons, List.not_mem_nil, or_false] at hb
      rcases hb with rfl | rfl
      · exact Nat.lt_succ_self _
      · exact Nat.lt_succ_of_lt hlt
    · simp only [List.size_toArray]; omega
    · obtain ⟨b1, b2⟩ := PySem.argBest_lt (fun i => ns.getD i 0) (its.toArray.size - 1)
      generalize argBest (fun i j => decide (ns.getD i 0 < ns.getD j 0)) (its.toArray.size - 1) = k at *
      simp only [List.size_toArray] at b1 b2
      obtain ⟨t, rfl⟩ := hg k v (by simpa using hP)
      have hk1 : k < ns.length := by omega
      refine ⟨.int (ns.getD k 0), H, I.kept (h' := h') (t' := tk) (fun b u hb => hk b u ?_ (push_old b u _ hb)), ⟨t, rfl⟩, hq _ ?_ fun y hy => ?_⟩
      · intro c
        rw [List.mem_singleton] at c
        subst c
        simp [PySem.Heap.get?] at hb
      · rw [List.getD_eq_getElem?_getD, List.getElem?_eq_getElem hk1]
        exact List.getElem_mem hk1
      · obtain ⟨j, hj, rfl⟩ := List.getElem_of_mem hy
        have := b2 j (by omega)
        rw [List.getD_eq_getElem?_getD (i := j), List.getElem?_eq_getElem hj] at this
        exact this
def rSortedDI : List V → Hp → VK → Prop := fun xs H Q => ∃ (a : Addr) (kvs : List (Key × V)) (ks : List Int), xs = [.ref a] ∧ Rd H a (.dK kvs) ∧ kvs.map (·.1) = ks.map Sum.inl ∧ ks.length < 64 ∧ ∀ (ys : List Int) (p : Addr), ys.Perm ks → ys.Pairwise (· ≤ ·) → H p = none → Q (.ref p) (upd H p (.lst (ys.map V.int)))
theorem cr_sortedDI {X : Cx} (hc : X.calm = true) : CallR X (.builtin "sorted") rSortedDI := call_sortedDI hc
def rReprU : List V → Hp → VK → Prop := fun xs H Q => (∃ i : Int, xs = [.int i] ∧ i.natAbs.log2 < 1920 ∧ Q (.str (toString i)) H) ∨ (∃ b : Bool, xs = [.bl b] ∧ Q (.str (if b then "True" else "False")) H) ∨ (xs = [.non] ∧ Q (.str "None") H)
theorem cr_reprU {X : Cx} : CallR X (.builtin "repr") rReprU := by
  intro pins s σ H xs us Q I r h
  rcases h with h | ⟨b, e, q⟩ | ⟨e, q⟩
  · exact SkE.call_repr_int pins s σ H xs us Q I r h
  · subst e
    obtain ⟨u, e1, r1⟩ := vals1 r
    subst e1
    cases (show u = Value.bool b from r1)
    exact PySem.P.repr_of_bool ⟨.str _, H, I.tok _, ⟨_, rfl⟩, q⟩
  · subst e
    obtain ⟨u, e1, r1⟩ := vals1 r
    subst e1
    cases (show u = Value.none from r1)
    exact PySem.P.repr_of_none ⟨.str _, H, I.tok _, ⟨_, rfl⟩, q⟩
abbrev rLtI : R2 := rI0 fun i j => .bl (decide (i < j))
abbrev rLeI : R2 := rI0 fun i j => .bl (decide (i ≤ j))
abbrev rGtI : R2 := rI0 fun i j => .bl (decide (j < i))
abbrev rGeI : R2 := rI0 fun i j => .bl (decide (j ≤ i))
abbrev rLenU (K : PySem.W.Frag) : List V → Hp → VK → Prop := fun xs H Q => ∃ p ys, xs = [.ref p] ∧ (SqL K H p ys ∨ SqT K H p ys) ∧ Q (.int ys.length) H
abbrev rAbs : List V → Hp → VK → Prop := fun xs H Q => ∃ i : Int, xs = [.int i] ∧ Q (.int (if i < 0 then -i else i)) H
abbrev rMax2 : List V → Hp → VK → Prop := fun xs H Q => ∃ i j : Int, xs = [.int i, .int j] ∧ Q (.int (if j > i then j else i)) H
abbrev rMin2 : List V → Hp → VK → Prop := fun xs H Q => ∃ i j : Int, xs = [.int i, .int j] ∧ Q (.int (if j < i then j else i)) H
abbrev rInt1 : List V → Hp → VK → Prop := fun xs H Q => (∃ i, xs = [.int i] ∧ Q (.int i) H) ∨ ∃ k, xs = [.bl k] ∧ Q (.int (if k then 1 else 0)) H
abbrev rTupOf (K : PySem.W.Frag) : List V → Hp → VK → Prop := fun xs H Q => ∃ p ys, xs = [.ref p] ∧ ((SqL K H p ys ∧ ∀ l, H l = none → Q (.ref l) (upd H l (.tup ys))) ∨ (SqT K H p ys ∧ Q (.ref p) H))
abbrev rListOf (K : PySem.W.Frag) : List V → Hp → VK → Prop := fun xs H Q => ∃ p ys, xs = [.ref p] ∧ (SqL K H p ys ∨ SqT K H p ys) ∧ ∀ l, H l = none → Q (.ref l) (upd H l (.lst ys))
abbrev rIxA (K : PySem.W.Frag) : R2 := fun x y H Q => rIxL K x y H Q ∨ rIxT K x y H Q
theorem ix_lt {X : Cx} : IxR X (rIxA X.K) := ix_list.or ix_tup
theorem op_mulU {X : Cx} : OpR X (binaryOp .Mult) rMulU := opI fun _ _ _ _ _ _ _ hc q => mul_int q (hc.elim CMul.ok CMulW.ok)
theorem hu64_of {A : Around} {k : Nat} (hr : Room k A) : A.units + 64 < cLine := by have := hr.un; omega
def Okk (P : Program) (w : World) (K : PySem.W.Frag) (mg : Str → Option Value) (base : Heap) (k : Nat) (x : Str) (ps : List Str) (sp : Sp) : Prop :=
  ∃ fd, FnOk P w K mg base CX0 k (He.ga K x) fd ps sp ∧ Binds K fd ps [] ∧ mg x = some (.ref (He.ga K x)) ∧ PySem.W.keepIn K (.ref (He.ga K x)) = true
def LcW (J : It) (H1 : Hp) (g : TG) (tt : TT) (te : TE) (vs : List Nat) (σ : St) (Q : VK) : Prop := tLc (fun _ _ R => R J H1) g tt te vs σ H1 Q
def ForW (J : It) (H1 : Hp) (g : TG) (tb : TS) (D : Ends) (σ : St) : Prop := tFor (fun _ _ R => R J H1) g tb D σ H1
section
variable {σ : St} {H : Hp} {Q : VK} {v x y : V} {ta tb tc te : TE} {r r' : R2} {t u : TT} {n : Nat} {D : Ends} {s s' : TS} {g : TG} {K : PySem.W.Frag} {tl : TA} {QA : List V → Hp → Prop} {QT : Bool → Hp → Prop}
theorem z_var0 : tVar 0 (some v :: σ) H Q = Q v H := propext ⟨fun ⟨_, h, q⟩ => by cases h; exact q, fun q => ⟨_, rfl, q⟩⟩
theorem z_varS {o : Option V} : tVar (n + 1) (o :: σ) H Q = tVar n σ H Q := rfl
theorem z_C : tC v σ H Q = Q v H := rfl
theorem z_op : tOp r ta tb σ H Q = ta σ H fun x H1 => tb σ H1 fun y H2 => r x y H2 Q := rfl
theorem z_un {f : V → Hp → VK → Prop} : tUn f ta σ H Q = ta σ H fun x H1 => f x H1 Q := rfl
theorem z_I0 {f : Int → Int → V} {i j : Int} : rI0 f (.int i) (.int j) H Q = Q (f i j) H := propext ⟨fun ⟨_, _, e1, e2, q⟩ => by cases e1; cases e2; exact q, fun q => ⟨_, _, rfl, rfl, q⟩⟩
theorem z_I {C : Int → Int → Prop} {f : Int → Int → V} {i j : Int} : rI C f (.int i) (.int j) H Q = (C i j ∧ Q (f i j) H) := propext ⟨fun ⟨_, _, e1, e2, q⟩ => by cases e1; cases e2; exact q, fun q => ⟨_, _, rfl, rfl, q⟩⟩
theorem z_U {f : Int → V} {i : Int} : rU f (.int i) H Q = Q (f i) H := propext ⟨fun ⟨_, e1, q⟩ => by cases e1; exact q, fun q => ⟨_, rfl, q⟩⟩
theorem z_eqI {i j : Int} : rEq (.int i) (.int j) H Q = Q (.bl (decide (i = j))) H := by
  have e : decide (V.int i = V.int j) = decide (i = j) := by simp
  unfold rEq; rw [e]; exact propext ⟨fun h => h.2, fun h => ⟨rfl, h⟩⟩
theorem z_neI {i j : Int} : rNe (.int i) (.int j) H Q = Q (.bl (!decide (i = j))) H := by
  have e : decide (V.int i = V.int j) = decide (i = j) := by simp
  unfold rNe; rw [e]; exact propext ⟨fun h => h.2, fun h => ⟨rfl, h⟩⟩
theorem z_bl {b : Bool} {p : Bool → Prop} : (∃ k, V.bl b = V.bl k ∧ p k) = p b := propext ⟨fun ⟨_, e, q⟩ => by cases e; exact q, fun q => ⟨_, rfl, q⟩⟩
theorem z_test : tTest te σ H QT = te σ H fun x H' => ∃ k, x = .bl k ∧ QT k H' := rfl
theorem z_B : tB te σ H QT = te σ H fun x H' => ∃ k, x = .bl k ∧ QT k H' := rfl
theorem z_and : tAnd t u σ H QT = t σ H fun c H1 => if c = true then u σ H1 QT else QT false H1 := rfl
theorem z_or : tOr t u σ H QT = t σ H fun c H1 => if c = true then QT true H1 else u σ H1 QT := rfl
theorem z_not : tNot t σ H QT = t σ H fun c H1 => QT (!c) H1 := rfl
theorem z_andV : tAndV ta tb σ H Q = ta σ H fun x H1 => ∃ c, x = .bl c ∧ if c = true then tb σ H1 Q else Q (.bl false) H1 := rfl
theorem z_orV : tOrV ta tb σ H Q = ta σ H fun x H1 => ∃ c, x = .bl c ∧ if c = true then Q (.bl true) H1 else tb σ H1 Q := rfl
theorem z_notV : tNotV ta σ H Q = ta σ H fun x H1 => ∃ c, x = .bl c ∧ Q (.bl (!c)) H1 := rfl
theorem z_if : tIf t ta tb σ H Q = t σ H fun c H1 => if c = true then ta σ H1 Q else tb σ H1 Q := rfl
theorem z_ifS : tIfS t s s' D σ H = t σ H fun b H1 => if b = true then s D σ H1 else s' D σ H1 := rfl
theorem z_seq : tSeq s s' D σ H = s { D with nx := s' D } σ H := rfl
theorem z_next : tNext D σ H = D.nx σ H := rfl
theorem z_ret : tRet te D σ H = te σ H D.rt := rfl
theorem z_retN : tRetN D σ H = D.rt .non H := rfl
theorem z_asg : tAsg te g D σ H = te σ H fun x H1 => g x σ H1 D.nx := rfl
theorem z_gname {Qg : St → Hp → Prop} : gName n v σ H Qg = Qg (σ.set n (some v)) H := rfl
theorem z_drop : tDrop te D σ H = te σ H fun _ H1 => D.nx σ H1 := rfl
theorem z_nil : tNil σ H QA = QA [] H := rfl
theorem z_cons : tCons te tl σ H QA = te σ H fun x H1 => tl σ H1 fun xs H2 => QA (x :: xs) H2 := rfl
theorem z_call {sp : Sp} {E : XK} : tCall sp [] E tl σ H Q = tl σ H fun vs H1 => sp vs H1 Q E := by unfold tCall; simp only [List.append_nil]
theorem z_CB {f : List V → Hp → VK → Prop} : tCB f tl σ H Q = tl σ H fun vs H1 => f vs H1 Q := rfl
theorem z_par {i j : Nat} : tPar i j tl D σ H = tl σ H fun vs H1 => ∃ v w, vs = [v, w] ∧ D.nx ((σ.set i (some v)).set j (some w)) H1 := rfl
theorem z_pair {v w : V} {p : V → V → Prop} : (∃ a b, [v, w] = [a, b] ∧ p a b) = p v w := propext ⟨fun ⟨_, _, e, q⟩ => by cases e; exact q, fun q => ⟨_, _, rfl, q⟩⟩
theorem z_aug0 {ti : TIp} {σ' : St} {i : Nat} : tAug i te ti D σ H = ∃ x, σ[i]? = some (some x) ∧ te σ H fun y H1 => ti x y H1 fun z H2 => D.nx (σ.set i (some z)) H2 := rfl
theorem z_ipI {f : Int → Int → Int} {i j : Int} : ipI f (.int i) (.int j) H Q = Q (.int (f i j)) H := propext ⟨fun ⟨_, _, e1, e2, q⟩ => by cases e1; cases e2; exact q, fun q => ⟨_, _, rfl, rfl, q⟩⟩
theorem z_abs {i : Int} : rAbs [.int i] H Q = Q (.int (if i < 0 then -i else i)) H := propext ⟨fun ⟨_, e1, q⟩ => by cases e1; exact q, fun q => ⟨_, rfl, q⟩⟩
theorem z_max {i j : Int} : rMax2 [.int i, .int j] H Q = Q (.int (if j > i then j else i)) H := propext ⟨fun ⟨_, _, e1, q⟩ => by cases e1; exact q, fun q => ⟨_, _, rfl, q⟩⟩
theorem z_min {i j : Int} : rMin2 [.int i, .int j] H Q = Q (.int (if j < i then j else i)) H := propext ⟨fun ⟨_, _, e1, q⟩ => by cases e1; exact q, fun q => ⟨_, _, rfl, q⟩⟩
theorem z_int {i : Int} : rInt1 [.int i] H Q = Q (.int i) H := by
  apply propext
  constructor
  · intro h
    rcases h with ⟨_, e, q⟩ | ⟨_, e, _⟩
    · cases e; exact q
    · cases e
  · intro q
    exact Or.inl ⟨_, rfl, q⟩
theorem z_intB {b : Bool} : rInt1 [.bl b] H Q = Q (.int (if b then 1 else 0)) H := by
  apply propext
  constructor
  · intro h
    rcases h with ⟨_, e, _⟩ | ⟨_, e, q⟩
    · cases e
    · cases e; exact q
  · intro q
    exact Or.inr ⟨_, rfl, q⟩
theorem z_gcd {i j : Int} : rGcd [.int i, .int j] H Q = Q (.int ((Nat.gcd i.natAbs j.natAbs : Nat) : Int)) H := propext ⟨fun ⟨_, _, e, q⟩ => by cases e; exact q, fun q => ⟨_, _, rfl, q⟩⟩
theorem z_tup : tTup tl σ H Q = tl σ H fun xs H1 => xs.length ≤ sizeLine ∧ ∀ p, H1 p = none → Q (.ref p) (upd H1 p (.tup xs)) := rfl
theorem z_lst : tLst tl σ H Q = tl σ H fun xs H1 => xs.length ≤ sizeLine ∧ ∀ p, H1 p = none → Q (.ref p) (upd H1 p (.lst xs)) := rfl
theorem z_chain : tChain r r' ta tb tc σ H Q = ta σ H fun x H1 => tb σ H1 fun y H2 => r x y H2 fun z H3 => ∃ k, z = .bl k ∧ (if k = true then tc σ H3 fun w' H4 => r' y w' H4 Q else Q (.bl false) H3) := rfl
theorem z_bm {T : String} {f : V → List V → Hp → VK → Prop} {to : TE} : tBM K T f to tl σ H Q = to σ H fun x H1 => tyV K T x H1 ∧ tl σ H1 fun xs H2 => f x xs H2 Q := rfl
theorem z_bm0 {T : String} {f : V → List V → Hp → VK → Prop} {to : TE} : tBM0 K T f to σ H Q = to σ H fun x H1 => tyV K T x H1 ∧ f x [] H1 Q := rfl
theorem tyL {p : Addr} {xs : List V} (h : H p = some (.lst xs)) : tyV K "list" (.ref p) H := .inl ⟨rfl, _, .inl (.inl h)⟩
theorem z_gtup {m : Nat} {a : Addr} {gs : TGs} {Qg : St → Hp → Prop} : gTup K m gs (.ref a) σ H Qg = ∃ xs, SqT K H a xs ∧ xs.length = m ∧ gs xs σ H Qg := propext ⟨fun ⟨_, xs, e, h⟩ => by cases e; exact ⟨xs, h⟩, fun ⟨xs, h⟩ => ⟨a, xs, rfl, h⟩⟩
theorem z_gcons {gs : TGs} {r : List V} {Qg : St → Hp → Prop} : gCons g gs (v :: r) σ H Qg = g v σ H fun σ' H' => gs r σ' H' Qg := propext ⟨fun ⟨_, _, e, h⟩ => by cases e; exact h, fun h => ⟨v, r, rfl, h⟩⟩
theorem z_gnil {Qg : St → Hp → Prop} : gNil [] σ H Qg = Qg σ H := propext ⟨fun h => h.2, fun h => ⟨rfl, h⟩⟩
theorem z_yes : tYes σ H QT = QT true H := rfl
theorem z_wipe0 : wipe σ [] = σ := rfl
theorem z_wipeS {i : Nat} {is : List Nat} : wipe σ (i :: is) = (wipe σ is).set i none := rfl
theorem z_itup {R : It → Hp → Prop} : iTup K te σ H R = te σ H fun x H1 => ∃ a, x = .ref a ∧ (∃ xs, SqT K H1 a xs) ∧ R (Itt K a) H1 := rfl
theorem z_ilist {R : It → Hp → Prop} : iList K te σ H R = te σ H fun x H1 => ∃ a, x = .ref a ∧ (∃ xs, SqL K H1 a xs) ∧ R (Itl K a) H1 := rfl
theorem z_irng1 {R : It → Hp → Prop} : iRng1 tl σ H R = tl σ H fun vs H1 => ∃ j : Int, vs = [.int j] ∧ -(2 ^ 62) ≤ j ∧ j < 2 ^ 62 ∧ R (Itr 0 j.toNat) H1 := rfl
theorem z_irng2 {R : It → Hp → Prop} : iRng2 tl σ H R = tl σ H fun vs H1 => ∃ i j : Int, vs = [.int i, .int j] ∧ (-(2 ^ 62) ≤ i ∧ i < 2 ^ 62 ∧ -(2 ^ 62) ≤ j ∧ j < 2 ^ 62) ∧ R (Itr i (j - i).toNat) H1 := rfl
theorem z_lc {wi : TI} {vs : List Nat} : tLc wi g t te vs σ H Q = wi σ H fun J H1 => LcW J H1 g t te vs σ Q := rfl
theorem z_for {wi : TI} {tb : TS} : tFor wi g tb D σ H = wi σ H fun J H1 => ForW J H1 g tb D σ := rfl
theorem z_gsub {to ti : TE} {f : TSet} {Qg : St → Hp → Prop} : gSub to ti f v σ H Qg = to σ H fun o H1 => ti σ H1 fun i H2 => f o i v H2 fun H3 => Qg σ H3 := rfl
theorem ixL {p : Addr} {xs : List V} {i : Int} (h : SqL K H p xs) (e : atI xs i = some v) (q : Q v H) : rIxA K (.ref p) (.int i) H Q := .inl ⟨p, xs, i, v, rfl, rfl, h, e, q⟩
theorem ixT {p : Addr} {xs : List V} {i : Int} (h : SqT K H p xs) (e : atI xs i = some v) (q : Q v H) : rIxA K (.ref p) (.int i) H Q := .inr ⟨p, xs, i, v, rfl, rfl, h, e, q⟩
theorem setL {p : Addr} {xs : List V} {i : Int} {j : Nat} {Qh : Hp → Prop} (h : H p = some (.lst xs)) (e : ixN xs.length i = some j) (q : Qh (upd H p (.lst (xs.set j v)))) : rSetL (.ref p) (.int i) v H Qh := ⟨p, xs, i, j, rfl, rfl, h, e, q⟩
theorem lenL {p : Addr} {xs : List V} (h : SqL K H p xs) (q : Q (.int (xs.length : Int)) H) : rLenU K [.ref p] H Q := ⟨p, xs, rfl, .inl h, q⟩
theorem lenT {p : Addr} {xs : List V} (h : SqT K H p xs) (q : Q (.int (xs.length : Int)) H) : rLenU K [.ref p] H Q := ⟨p, xs, rfl, .inr h, q⟩
theorem z_par3 {i j l : Nat} : tPar3 i j l tl D σ H = tl σ H fun vs H1 => ∃ u v w, vs = [u, v, w] ∧ D.nx (((σ.set i (some u)).set j (some v)).set l (some w)) H1 := rfl
theorem z_trip {u v w : V} {p : V → V → V → Prop} : (∃ a b c, [u, v, w] = [a, b, c] ∧ p a b c) = p u v w := propext ⟨fun ⟨_, _, _, e, q⟩ => by cases e; exact q, fun q => ⟨_, _, _, rfl, q⟩⟩
theorem z_rg1 {f : Int → Int → Hp → Prop} : tRg1 te σ H f = te σ H fun x H1 => ∃ n, x = .int n ∧ f 0 n H1 := rfl
theorem z_rg2 {f : Int → Int → Hp → Prop} : tRg2 ta tb σ H f = ta σ H fun x H1 => tb σ H1 fun y H2 => ∃ i j, x = .int i ∧ y = .int j ∧ f i j H2 := rfl
theorem z_ii {i j : Int} {p : Int → Int → Prop} : (∃ a b, V.int i = V.int a ∧ V.int j = V.int b ∧ p a b) = p i j := propext ⟨fun ⟨_, _, e1, e2, q⟩ => by cases e1; cases e2; exact q, fun q => ⟨_, _, rfl, rfl, q⟩⟩
theorem z_i1 {i : Int} {p : Int → Prop} : (∃ a, V.int i = V.int a ∧ p a) = p i := propext ⟨fun ⟨_, e1, q⟩ => by cases e1; exact q, fun q => ⟨_, rfl, q⟩⟩
theorem z_lstrg {f : St → Hp → (Int → Int → Hp → Prop) → Prop} : tLstRg f σ H Q = f σ H fun a b H1 => RgOk a b ∧ ∀ q, H1 q = none → Q (.ref q) (upd H1 q (.lst (rgV a b))) := rfl
theorem z_disp {trs : List (TE × TE)} : tDisp trs σ H Q = ∀ p, H p = none → tPairs trs σ (upd H p (.dK [])) fun ps H2 => H2 p = some (.dK []) ∧ ∃ kvs : List (Key × V), ps = kvs.map (fun kv => (kV kv.1, kv.2)) ∧ kvs.length ≤ 15 ∧ Q (.ref p) (upd H2 p (.dK (mergeK [] kvs))) := rfl
theorem z_tp0 {f : List (V × V) → Hp → Prop} : tPairs [] σ H f = f [] H := rfl
theorem z_tpS {r : List (TE × TE)} {f : List (V × V) → Hp → Prop} : tPairs ((ta, tb) :: r) σ H f = ta σ H fun x H1 => tb σ H1 fun y H2 => tPairs r σ H2 fun ps H3 => f ((x, y) :: ps) H3 := rfl
theorem z_tru : tTru K ta σ H QT = ta σ H fun x H' => ∃ k, TruV K x H' k ∧ QT k H' := rfl
theorem z_din : tDIn ta tb σ H Q = ta σ H fun y H1 => tb σ H1 fun x H2 => ∃ a o, x = V.ref a ∧ DGet H2 a y o ∧ Q (.bl o.isSome) H2 := rfl
theorem z_dget : tDGet ta tb σ H Q = ta σ H fun x H1 => tb σ H1 fun y H2 => ∃ a v, x = V.ref a ∧ DGet H2 a y (some v) ∧ Q v H2 := rfl
theorem z_dput : sDPut ta tb te D σ H = te σ H fun v H1 => ta σ H1 fun x H2 => tb σ H2 fun y H3 => ∃ a H4, x = V.ref a ∧ DPut H3 a y v H4 ∧ D.nx σ H4 := rfl
theorem z_cont : tCont D σ H = D.ct σ H := rfl
theorem z_dnew : tDNewK σ H Q = ∀ p, H p = none → Q (.ref p) (upd H p (.dK [])) := rfl
theorem z_sl {f : V → Option Int → Option Int → Hp → VK → Prop} {ul uh : TO} : tSl f te ul uh σ H Q = te σ H fun x H1 => ul σ H1 fun l H2 => uh σ H2 fun u H3 => f x l u H3 Q := rfl
theorem z_part {f : Option Int → Hp → Prop} : tPart te σ H f = te σ H fun x H1 => ∃ i, x = .int i ∧ f (some i) H1 := rfl
theorem z_nopart {f : Option Int → Hp → Prop} : tNoPart σ H f = f none H := rfl
theorem z_strI {i : Int} : rStrI [.int i] H Q = (i.natAbs.log2 < 1920 ∧ Q (.str (toString i)) H) := propext ⟨fun ⟨_, e, q⟩ => by cases e; exact q, fun q => ⟨_, rfl, q⟩⟩
theorem z_isN : tIsN ta σ H Q = ta σ H fun x H1 => Q (.bl (decide (x = .non))) H1 := rfl
theorem z_notN : tNotN ta σ H Q = ta σ H fun x H1 => Q (.bl (!decide (x = .non))) H1 := rfl
theorem z_dn1 {i : Int} : decide (V.int i = V.non) = false := rfl
theorem z_dn2 {i : Addr} : decide (V.ref i = V.non) = false := rfl
theorem z_dn3 {i : Bool} : decide (V.bl i = V.non) = false := rfl
theorem z_dn4 {i : Str} : decide (V.str i = V.non) = false := rfl
theorem z_dn5 : decide (V.non = V.non) = true := rfl
theorem z_some {a : V} {p : V → Prop} : (∃ x, some (some a) = some (some x) ∧ p x) = p a := propext ⟨fun ⟨_, e, q⟩ => by cases e; exact q, fun q => ⟨_, rfl, q⟩⟩
end
/-! comprehensions: outs i is what the i-th item gives, if anything -/
def OutOf (D : Addr) (nx : Hp → Prop) : Option V → Hp → Prop
  | some y, H4 => ∃ acc, H4 D = some (.lst acc) ∧ acc.length < sizeLine ∧ nx (upd H4 D (.lst (acc ++ [y])))
  | none, H3 => nx H3
def outL (outs : Nat → Option V) (n : Nat) : List V := (List.range n).filterMap outs
theorem outL_succ (outs : Nat → Option V) (n : Nat) : outL outs (n + 1) = outL outs n ++ (outs n).toList := by
  unfold outL
  rw [List.range_succ, List.filterMap_append]
  cases h : outs n <;> simp [h]
theorem outL_len (outs : Nat → Option V) (n : Nat) : (outL outs n).length ≤ n := by
  unfold outL
  exact Nat.le_trans (List.length_filterMap_le _ _) (by simp)
theorem same_mutD {H H' : Hp} {p : Addr} {o : HO} (s : Same H H') (hn : H p = none) : Same H (upd H' p o) := fun b u h => by
  rw [upd_ne (ne_of_none h hn)]; exact s b u h
theorem out_ok {H1 : Hp} {D : Addr} (hD : H1 D = none) (outs : Nat → Option V) {i n : Nat} (hi : i < n) (hn : n < 2 ^ 22) {H' H2 : Hp} (h : Same H1 H' ∧ H' D = some (.lst (outL outs i))) (s : Same H' H2) :
    OutOf D (fun H' => Same H1 H' ∧ H' D = some (.lst (outL outs (i + 1)))) (outs i) H2 := by
  have h2 := s _ _ h.2
  have h3 : Same H1 H2 := h.1.trans s
  cases e : outs i with
  | none =>
    refine ⟨h3, ?_⟩
    rw [outL_succ, e]
    simpa using h2
  | some y =>
    refine ⟨_, h2, Nat.lt_of_lt_of_le (Nat.lt_of_le_of_lt (Nat.le_trans (outL_len outs i) (Nat.le_of_lt hi)) hn) (by decide), same_mutD h3 hD, ?_⟩
    rw [upd_same, outL_succ, e]
    rfl
theorem comp_R {lo : Int} {n : Nat} {g : TG} {tt : TT} {te : TE} {vs : List Nat} {σ : St} {H1 : Hp} {Q : VK} (outs : Nat → Option V) (hn : n < 2 ^ 22)
    (turn : ∀ i H', i < n → Same H1 H' → ∀ Qo : Option V → Hp → Prop, (∀ H2, Same H' H2 → Qo (outs i) H2) → g (.int (lo + i)) (wipe σ vs) H' fun σ2 H2 => wipe σ2 vs = wipe σ vs ∧ tt σ2 H2 fun b H3 => if b = true then te σ2 H3 fun y H4 => Qo (some y) H4 else Qo none H3)
    (fin : ∀ D H', Same H1 H' → H' D = some (.lst (outL outs n)) → Q (.ref D) H') : LcW (Itr lo n) H1 g tt te vs σ Q := fun D hD =>
  lc_range (lo := lo) (n := n) (fun i H' => Same H1 H' ∧ H' D = some (.lst (outL outs i))) ⟨fun b u h => by rw [upd_ne (ne_of_none h hD)]; exact h, upd_same⟩
    (fun i H' hi p => turn i H' hi p.1 (OutOf D fun H' => Same H1 H' ∧ H' D = some (.lst (outL outs (i + 1)))) fun H2 s => out_ok hD outs hi hn p s) (fun H' p => fin D H' p.1 p.2)
theorem comp_T {K : PySem.W.Frag} {a : Addr} {xs : List V} {g : TG} {tt : TT} {te : TE} {vs : List Nat} {σ : St} {H1 : Hp} {Q : VK} (hT : SqT K H1 a xs) (outs : Nat → Option V) (hn : xs.length < 2 ^ 22)
    (turn : ∀ i x H', xs[i]? = some x → Same H1 H' → ∀ Qo : Option V → Hp → Prop, (∀ H2, Same H' H2 → Qo (outs i) H2) → g x (wipe σ vs) H' fun σ2 H2 => wipe σ2 vs = wipe σ vs ∧ tt σ2 H2 fun b H3 => if b = true then te σ2 H3 fun y H4 => Qo (some y) H4 else Qo none H3)
    (fin : ∀ D H', Same H1 H' → H' D = some (.lst (outL outs xs.length)) → Q (.ref D) H') : LcW (Itt K a) H1 g tt te vs σ Q := fun D hD => by
  have hsq : ∀ H', Same H1 H' → SqT K H' a xs := fun H' s => by
    rcases hT with (h | ⟨o, h⟩) | h
    · exact .inl (.inl (s _ _ h))
    · exact .inl (.inr ⟨o, s _ _ h⟩)
    · exact .inr h
  exact lc_tup (K := K) (a := a) (xs := xs) (fun i H' => Same H1 H' ∧ H' D = some (.lst (outL outs i))) ⟨fun b u h => by rw [upd_ne (ne_of_none h hD)]; exact h, upd_same⟩ (fun i H' _ p => hsq H' p.1)
    (fun i x H' hx p => turn i x H' hx p.1 (OutOf D fun H' => Same H1 H' ∧ H' D = some (.lst (outL outs (i + 1)))) fun H2 s => out_ok hD outs (by
      have := List.getElem?_eq_some_iff.mp hx
      exact this.1) hn p s) (fun H' p => fin D H' p.1 p.2)
theorem comp_L {K : PySem.W.Frag} {a : Addr} {xs : List V} {g : TG} {tt : TT} {te : TE} {vs : List Nat} {σ : St} {H1 : Hp} {Q : VK} (hT : SqL K H1 a xs) (outs : Nat → Option V) (hn : xs.length < 2 ^ 22)
    (turn : ∀ i x H', xs[i]? = some x → Same H1 H' → ∀ Qo : Option V → Hp → Prop, (∀ H2, Same H' H2 → Qo (outs i) H2) → g x (wipe σ vs) H' fun σ2 H2 => wipe σ2 vs = wipe σ vs ∧ tt σ2 H2 fun b H3 => if b = true then te σ2 H3 fun y H4 => Qo (some y) H4 else Qo none H3)
    (fin : ∀ D H', Same H1 H' → H' D = some (.lst (outL outs xs.length)) → Q (.ref D) H') : LcW (Itl K a) H1 g tt te vs σ Q := fun D hD =>
  lc_list (K := K) (a := a) (xs := xs) (fun i H' => Same H1 H' ∧ H' D = some (.lst (outL outs i))) ⟨fun b u h => by rw [upd_ne (ne_of_none h hD)]; exact h, upd_same⟩ (fun i H' _ p => p.1.seq hT)
    (fun i x H' hx p => turn i x H' hx p.1 (OutOf D fun H' => Same H1 H' ∧ H' D = some (.lst (outL outs (i + 1)))) fun H2 s => out_ok hD outs (by
      have := List.getElem?_eq_some_iff.mp hx
      exact this.1) hn p s) (fun H' p => fin D H' p.1 p.2)
theorem for_T {K : PySem.W.Frag} {a : Addr} {xs : List V} {g : TG} {tb : TS} {D : Ends} {σ : St} {H : Hp} (Pv : Nat → St → Hp → Prop) (h0 : Pv 0 σ H) (hl : ∀ i σ H, i ≤ xs.length → Pv i σ H → SqT K H a xs)
    (hs : ∀ i x σ H, xs[i]? = some x → Pv i σ H → ∀ N : St → Hp → Prop, (∀ σ' H', Pv (i + 1) σ' H' → N σ' H') → g x σ H fun σ2 H2 => tb { D with nx := N, ct := N, bk := D.nx } σ2 H2) (hd : ∀ σ H, Pv xs.length σ H → D.nx σ H) : ForW (Itt K a) H g tb D σ :=
  for_tup (xs := xs) Pv h0 hl (fun i x σ H hx p => hs i x σ H hx p _ fun _ _ h => h) hd
theorem for_L {K : PySem.W.Frag} {a : Addr} {xs : List V} {g : TG} {tb : TS} {D : Ends} {σ : St} {H : Hp} (Pv : Nat → St → Hp → Prop) (h0 : Pv 0 σ H) (hl : ∀ i σ H, i ≤ xs.length → Pv i σ H → SqL K H a xs)
    (hs : ∀ i x σ H, xs[i]? = some x → Pv i σ H → ∀ N : St → Hp → Prop, (∀ σ' H', Pv (i + 1) σ' H' → N σ' H') → g x σ H fun σ2 H2 => tb { D with nx := N, ct := N, bk := D.nx } σ2 H2) (hd : ∀ σ H, Pv xs.length σ H → D.nx σ H) : ForW (Itl K a) H g tb D σ :=
  for_list (xs := xs) Pv h0 hl (fun i x σ H hx p => hs i x σ H hx p _ fun _ _ h => h) hd
theorem for_R {lo : Int} {n : Nat} {g : TG} {tb : TS} {D : Ends} {σ : St} {H : Hp} (Pv : Nat → St → Hp → Prop) (h0 : Pv 0 σ H)
    (hs : ∀ i σ H, i < n → Pv i σ H → ∀ N : St → Hp → Prop, (∀ σ' H', Pv (i + 1) σ' H' → N σ' H') → g (.int (lo + i)) σ H fun σ2 H2 => tb { D with nx := N, ct := N, bk := D.nx } σ2 H2) (hd : ∀ σ H, Pv n σ H → D.nx σ H) : ForW (Itr lo n) H g tb D σ :=
  for_range (lo := lo) (n := n) Pv h0 (fun i σ H hx p => hs i σ H hx p _ fun _ _ h => h) hd
/-- while: the invariant W by its measure; N is what a turn is to reach -/
theorem while_of {c : TT} {tb : TS} {D : Ends} {σ : St} {H : Hp} (W : Nat → St → Hp → Prop) (m0 : Nat) (h0 : W m0 σ H)
    (hs : ∀ m σ H, W m σ H → ∀ N : St → Hp → Prop, (∀ m' σ' H', m' < m → W m' σ' H' → N σ' H') → (∀ σ' H', N σ' H' → ∃ m', m' < m ∧ W m' σ' H') →
      c σ H fun b H1 => if b = true then ∃ N : St → Hp → Prop, (∀ σ' H', N σ' H' → ∃ m', m' < m ∧ W m' σ' H') ∧ tb { D with nx := N, ct := N, bk := D.nx } σ H1 else D.nx σ H1) : tWhile c tb D σ H :=
  ⟨W, ⟨m0, h0⟩, fun m σ H w => hs m σ H w _ (fun m' _ _ a b => ⟨m', a, b⟩) (fun _ _ h => h)⟩
/-- a comprehension over zip of two tuples of one length -/
theorem comp_ZT {K : PySem.W.Frag} {a b : Addr} {xs ys : List V} {g : TG} {tt : TT} {te : TE} {vs : List Nat} {σ : St} {H1 : Hp} {Q : VK} (hl : xs.length = ys.length) (hA : SqT K H1 a xs) (hB : SqT K H1 b ys) (outs : Nat → Option V) (hn : xs.length < 2 ^ 22)
    (turn : ∀ i x y T H', xs[i]? = some x → ys[i]? = some y → Same H1 H' → H' T = none → ∀ Qo : Option V → Hp → Prop, (∀ H2, Same H' H2 → Qo (outs i) H2) → g (.ref T) (wipe σ vs) (upd H' T (.tup [x, y])) fun σ2 H2 => wipe σ2 vs = wipe σ vs ∧ tt σ2 H2 fun b H3 => if b = true then te σ2 H3 fun y H4 => Qo (some y) H4 else Qo none H3)
    (fin : ∀ D H', Same H1 H' → H' D = some (.lst (outL outs xs.length)) → Q (.ref D) H') : LcW (RZ.ItzT K a b) H1 g tt te vs σ Q := fun D hD => by
  have hsq : ∀ {a xs H'}, SqT K H1 a xs → Same H1 H' → SqT K H' a xs := fun hT s => by
    rcases hT with (h | ⟨o, h⟩) | h
    · exact .inl (.inl (s _ _ h))
    · exact .inl (.inr ⟨o, s _ _ h⟩)
    · exact .inr h
  refine ⟨fun i m H => m = xs.length - i ∧ i ≤ xs.length ∧ Same H1 H ∧ H D = some (.lst (outL outs i)), ⟨xs.length, by simp, Nat.zero_le _, fun b u h => by rw [upd_ne (ne_of_none h hD)]; exact h, upd_same⟩, ?_⟩
  rintro i m H ⟨rfl, hi, s1, hL⟩
  by_cases hlt : i < xs.length
  · have jlt : i < ys.length := by omega
    refine .inr ⟨⟨xs, ys, _, _, hsq hA s1, hsq hB s1, List.getElem?_eq_getElem hlt, List.getElem?_eq_getElem jlt⟩, fun H => Same H1 H ∧ H D = some (.lst (outL outs (i + 1))), fun H' p' => ⟨xs.length - (i + 1), by omega, rfl, hlt, p'⟩, fun v H' y => ?_⟩
    obtain ⟨T, u, v, rfl, hT, rfl, f1, f2⟩ := y
    exact turn i u v T H (f1 xs (hsq hA s1)) (f2 ys (hsq hB s1)) s1 hT (OutOf D fun H' => Same H1 H' ∧ H' D = some (.lst (outL outs (i + 1)))) fun H2 s => out_ok hD outs hlt hn ⟨s1, hL⟩ s
  · obtain rfl : i = xs.length := by omega
    exact .inl ⟨⟨xs, ys, hsq hA s1, hsq hB s1, Or.inl (Nat.le_refl _)⟩, fin D H s1 hL⟩
def Lc2W (J : It) (H1 : Hp) (g : TG) (tt : TT) (wi1 : TI) (g1 : TG) (tt1 : TT) (te : TE) (vs vs1 : List Nat) (σ : St) (Q : VK) : Prop := tLc2 (fun _ _ R => R J H1) g tt wi1 g1 tt1 te vs vs1 σ H1 Q
theorem z_lc2 {wi wi1 : TI} {g g1 : TG} {tt tt1 : TT} {te : TE} {vs vs1 : List Nat} {σ : St} {H : Hp} {Q : VK} : tLc2 wi g tt wi1 g1 tt1 te vs vs1 σ H Q = wi σ H fun J H1 => Lc2W J H1 g tt wi1 g1 tt1 te vs vs1 σ Q := rfl
/-- [f x y for x in xs for y in ys], both lists, f without a trace on the heap -/
theorem comp2_LL {K : PySem.W.Frag} {a b : Addr} {xs ys : List V} {g g1 : TG} {wi1 : TI} {te : TE} {vs vs1 : List Nat} {σ : St} {H1 : Hp} {Q : VK} (f : V → V → V) (σ1 : V → St) (σ2 : V → V → St) (hA : SqL K H1 a xs) (hB : SqL K H1 b ys) (hn : xs.length * ys.length < 2 ^ 22)
    (hg : ∀ x H' (P : St → Hp → Prop), P (σ1 x) H' → g x (wipe σ vs) H' P) (hw : ∀ x, wipe (σ1 x) vs = wipe σ vs)
    (hi : ∀ x H' R, Same H1 H' → R (Itl K b) H' → wi1 (σ1 x) H' R)
    (hg1 : ∀ x y H' (P : St → Hp → Prop), P (σ2 x y) H' → g1 y (wipe (σ1 x) vs1) H' P) (hw1 : ∀ x y, wipe (σ2 x y) vs1 = wipe (σ1 x) vs1)
    (he : ∀ x y H' Qe, x ∈ xs → y ∈ ys → Same H1 H' → Qe (f x y) H' → te (σ2 x y) H' Qe)
    (fin : ∀ D H', Same H1 H' → H' D = some (.lst (xs.flatMap fun x => ys.map (f x))) → Q (.ref D) H') :
    Lc2W (Itl K a) H1 g tYes wi1 g1 tYes te vs vs1 σ Q := fun D hD => by
  have full : ∀ i j : Nat, i < xs.length → j ≤ ys.length → (((xs.take i).flatMap fun x => ys.map (f x)) ++ ((ys.take j).map (f (xs[i]?.getD .non)))).length ≤ xs.length * ys.length := fun i j hi hj => by
    have e : ∀ l : List V, (l.flatMap fun x => ys.map (f x)).length = l.length * ys.length := fun l => by
      induction l with
      | nil => simp
      | cons x t ih => rw [List.flatMap_cons, List.length_append, ih, List.length_map, List.length_cons, Nat.add_mul, Nat.one_mul, Nat.add_comm]
    rw [List.length_append, e, List.length_map, List.length_take, List.length_take, Nat.min_eq_left (by omega), Nat.min_eq_left hj]
    have : (i + 1) * ys.length ≤ xs.length * ys.length := Nat.mul_le_mul_right _ hi
    rw [Nat.add_mul, Nat.one_mul] at this
    omega
  refine ⟨fun i m H => m = xs.length - i ∧ i ≤ xs.length ∧ Same H1 H ∧ H D = some (.lst ((xs.take i).flatMap fun x => ys.map (f x))), ⟨xs.length, by simp, Nat.zero_le _, fun b u h => by rw [upd_ne (ne_of_none h hD)]; exact h, by rw [upd_same]; simp⟩, ?_⟩
  rintro i m H ⟨rfl, hi', s1, hL⟩
  by_cases hlt : i < xs.length
  · have hx := List.getElem?_eq_getElem hlt
    refine .inr ⟨⟨xs, _, s1.seq hA, hx⟩, fun H => Same H1 H ∧ H D = some (.lst ((xs.take (i + 1)).flatMap fun x => ys.map (f x))), fun H' p' => ⟨xs.length - (i + 1), by omega, rfl, hlt, p'⟩, fun v H' y => ?_⟩
    obtain ⟨rfl, f1⟩ := y
    have hv := f1 xs (s1.seq hA)
    have ev : v = xs[i] := by rw [hx] at hv; exact (Option.some.inj hv).symm
    refine hg _ _ _ ⟨hw _, ?_⟩
    show wi1 _ _ _
    refine hi _ _ _ s1 ?_
    refine ⟨fun j k H => k = ys.length - j ∧ j ≤ ys.length ∧ Same H1 H ∧ H D = some (.lst (((xs.take i).flatMap fun x => ys.map (f x)) ++ ((ys.take j).map (f v)))), ⟨ys.length, by simp, Nat.zero_le _, s1, by simpa using hL⟩, ?_⟩
    rintro j k H ⟨rfl, hj, s2, hM⟩
    by_cases hjt : j < ys.length
    · have hy : ys[j]? = some ys[j] := List.getElem?_eq_getElem hjt
      refine .inr ⟨⟨ys, _, s2.seq hB, hy⟩, fun H => Same H1 H ∧ H D = some (.lst (((xs.take i).flatMap fun x => ys.map (f x)) ++ ((ys.take (j + 1)).map (f v)))), fun H' p' => ⟨ys.length - (j + 1), by omega, rfl, hjt, p'⟩, fun u H' y => ?_⟩
      obtain ⟨rfl, f2⟩ := y
      have hu := f2 ys (s2.seq hB)
      refine hg1 _ _ _ _ ⟨hw1 _ _, ?_⟩
      show te _ _ _
      refine he _ _ _ _ (List.mem_of_getElem? hv) (List.mem_of_getElem? hu) s2 ?_
      have fl := full i j hlt hj
      rw [hv] at fl
      refine ⟨_, hM, Nat.lt_of_le_of_lt fl (Nat.lt_of_lt_of_le hn (by decide)), same_mutD s2 hD, ?_⟩
      rw [upd_same, List.take_succ, hu, List.append_assoc]
      simp
    · have e : j = ys.length := by omega
      subst e
      refine .inl ⟨⟨ys, s2.seq hB, Nat.le_refl _⟩, s2, ?_⟩
      rw [hM, List.take_length, List.take_succ, hv]
      simp
  · obtain rfl : i = xs.length := by omega
    exact .inl ⟨⟨xs, s1.seq hA, Nat.le_refl _⟩, fin D H s1 (by rw [hL, List.take_length])⟩
theorem z_dget2 {σ : St} {H : Hp} {Q : VK} {ta tb te : TE} : tDGet2 ta tb te σ H Q = ta σ H fun x H1 => ∃ a, x = .ref a ∧ IsD H1 a ∧ tb σ H1 fun y H2 => te σ H2 fun z H3 => ∃ o, DGet H3 a y o ∧ Q (o.getD z) H3 := rfl
theorem z_izip {K : PySem.W.Frag} {σ : St} {H : Hp} {tl : TA} {R : It → Hp → Prop} : RZ.iZipA K tl σ H R = tl σ H fun vs H1 => ∃ a b xs ys, vs = [.ref a, .ref b] ∧ ((SqL K H1 a xs ∧ SqL K H1 b ys ∧ R (Itz K a b) H1) ∨ (SqT K H1 a xs ∧ SqT K H1 b ys ∧ R (RZ.ItzT K a b) H1)) := rfl
open Sem (wp)
/-! enumerate over a tuple -/
def itO (a : Addr) : Obj := { cls := .type "tuple_iterator", data := .fields #[.ref a, .int 0 0] }
def enO (it : Addr) : Obj := { cls := .type "enumerate", data := .fields #[.none, .bool false, .ref it, rawInt 0, .none, .none] }
theorem en_new (a : Addr) (its : Array Value) : Meets (Builtin.«enumerate.__new__» ⟨[.type "enumerate", .ref a], []⟩) (fun _ R s0 => s0.heap.IsTuple a its ∧ R (.ok (.ret (.ref (s0.heap.push (itO a)).objs.size))) { s0 with heap := (s0.heap.push (itO a)).push (enO s0.heap.objs.size) }) :=
  .of_wp fun prg wd AA RR s0 hs => by
    obtain ⟨hp, gg, dd, tk, os⟩ := s0
    obtain ⟨hT, hs⟩ := hs
    have hsub := PySem.sub_enumerate
    have go : ∀ {A' : Around} {E' : Value → Shared → Prop} {Q' : Value → Shared → Prop}, Q' (.ref hp.objs.size) ⟨hp.push (itO a), gg, dd, tk, os⟩ → wpAny (model prg wd) A' (pyIter (.ref a)) Q' E' ⟨hp, gg, dd, tk, os⟩ := fun q => (begins_tuple a its).iter prg wd _ _ ⟨hp, gg, dd, tk, os⟩ _ hT q
    wp_walk using go
    refine wpAny_stack_any fun stk => wpAny_pure ?_
    split
    · rename_i cc _ _ _ _ _
      cases (cc == Value.type "enumerate") <;> (wp_walk using go; exact ⟨_, rfl, hs⟩)
    · wp_walk using go
      exact ⟨_, rfl, hs⟩
theorem en_call {prg : Program} {wd : World} {AA : Around} {EE : Value → Shared → Prop} {s0 : Shared} {a : Addr} {its : Array Value} {Q : Value → Shared → Prop} (hT : s0.heap.IsTuple a its)
    (h : ∀ h1, IsEnum h1 (s0.heap.objs.size + 1) s0.heap.objs.size 0 .none → h1.IsTupleIter s0.heap.objs.size a 0 → (∀ b ob, s0.heap.get? b = some ob → h1.get? b = some ob) → Q (.ref (s0.heap.objs.size + 1)) { s0 with heap := h1 }) :
    wpAny (model prg wd) AA (call (.type "enumerate") [.ref a]) Q EE s0 := by
  refine callType_new F.called_enumerate (by decide) (F.typeCall_enumerate_1 _) (F.newCall_enumerate_1 _) (fun ob => F.args_object_init_2 ob _) F.entry_enumerate_new (en_new a its) ⟨hT, ?_⟩
  have z1 : (s0.heap.push (itO a)).objs.size = s0.heap.objs.size + 1 := Heap.size_push ..
  have z2 : IsEnum ((s0.heap.push (itO a)).push (enO s0.heap.objs.size)) (s0.heap.objs.size + 1) s0.heap.objs.size 0 .none := by
    have z3 := Heap.get?_push_size (s0.heap.push (itO a)) (o := enO s0.heap.objs.size) rfl
    rw [z1] at z3
    exact z3
  show _ ∧ _
  rw [z1]
  exact ⟨⟨_, z2, rfl⟩, h _ z2 ⟨_, Heap.get?_push_of_some _ (Heap.get?_push_size _ rfl), rfl, rfl⟩ fun b ob y => Heap.get?_push_of_some _ (Heap.get?_push_of_some _ y)⟩
/-- the tuple at a, each item in a new pair with its index -/
def IteT (K : PySem.W.Frag) (a : Addr) : It :=
  ⟨fun i H => ∃ (xs : List V) (x : V), SqT K H a xs ∧ xs[i]? = some x,
   fun i H v H' => ∃ T x, v = .ref T ∧ H T = none ∧ H' = upd H T (.tup [.int (i : Nat), x]) ∧ ∀ xs, SqT K H a xs → xs[i]? = some x,
   fun i H => ∃ xs : List V, SqT K H a xs ∧ xs.length = i⟩
theorem en_apart {h : Heap} {e it a : Addr} {n : Int} {old : Value} {its : Array Value} {i : Nat} (he : IsEnum h e it n old) (hi : h.IsTupleIter it a i) (ha : h.IsTuple a its) : a ≠ it ∧ e ∉ [it, a] ∧ e ≠ it := by
  obtain ⟨o1, g1, c1, _⟩ := hi
  obtain ⟨o2, g2, c2, _⟩ := ha
  have n1 : a ≠ it := fun q => by
    rw [q, g1] at g2
    cases g2
    rw [c1] at c2
    exact absurd c2 (by decide)
  have n2 : e ≠ it := fun q => by
    rw [q] at he
    have := g1.symm.trans he
    cases this
    exact (show (Value.type "enumerate") ≠ Value.type "tuple_iterator" by decide) c1
  have n3 : e ≠ a := fun q => by
    rw [q] at he
    have := g2.symm.trans he
    cases this
    exact (show (Value.type "enumerate") ≠ Value.type "tuple" by decide) c2
  exact ⟨n1, by simp [n2, n3], n2⟩
theorem turn_enT {prg : Program} {wd : World} {K : PySem.W.Frag} {elts : List Expr} {kk : Nat} {tpos : Pos} (a e it : Addr) : Turn prg wd K (.Tuple elts kk tpos) (IteT K a) [e, it] e (fun i h => (∃ old, IsEnum h e it ((i : Nat) : Int) old) ∧ h.IsTupleIter it a i) where
  mem := List.mem_cons_self
  obj := fun i h st b hb => by
    obtain ⟨⟨old, he⟩, o, ho, _, hd⟩ := st
    rcases List.mem_cons.mp hb with z | z
    · subst z
      exact ⟨_, he, fun v q => nomatch q⟩
    · obtain rfl := List.mem_singleton.mp z
      exact ⟨o, ho, fun v q => by rw [hd] at q; cases q⟩
  keep := fun i h h' st k => by
    obtain ⟨⟨old, he⟩, hi⟩ := st
    exact ⟨⟨old, k e List.mem_cons_self _ he⟩, hi.at fun o q => k it (List.mem_cons_of_mem _ List.mem_cons_self) o q⟩
  item := by
    intro X hP hw hK hc i pins s0 σ H EE I hf st hg
    subst hP hw hK
    obtain ⟨⟨old, he⟩, hi⟩ := st
    obtain ⟨xs, x, hq, hx⟩ := hg
    obtain ⟨its, rv, p, _⟩ := I.tuple hq
    have p : s0.heap.IsTuple a its.toArray := p
    obtain ⟨u, hu, relu⟩ := rv.get hx
    obtain ⟨n1, n2, n3⟩ := en_apart he hi p
    have hlt : i < its.toArray.size := by
      have := (List.getElem?_eq_some_iff.mp hu).1
      simpa using this
    have szE : e < s0.heap.objs.size := Heap.lt_size he
    have szI : it < s0.heap.objs.size := by
      obtain ⟨_, q, _⟩ := hi
      exact Heap.lt_size q
    refine wpAny_pyNext_enum_itemD (Draws.tuple (A := X.A.in1) (I.ok.hd hc) it a n1 its.toArray) he ⟨hi, p⟩ hlt n3 n2 fun y h1 tk hy ho hs hT _ hk => ?_
    have ey : y = u := by
      have : its[i]? = some y := by simpa using hy
      rw [hu] at this
      exact (Option.some.inj this).symm
    subst ey
    refine ⟨_, rfl, wpAny_letOwnedTupleGo_enum (s := { s0 with heap := h1, toks := tk + 1 }) ho fun h2 he2 sb => ?_⟩
    have hT2 := (sb.2 _ (Nat.ne_of_gt szE)).trans hT
    have fresh : H s0.heap.objs.size = none := I.hok.fresh (Nat.le_refl _)
    have neu : ObjOk X.prog X.w (upd H s0.heap.objs.size (.tup [.int (i : Nat), x])) h2 s0.heap.objs.size (.tup [.int (i : Nat), x]) := ⟨by show 2 ≤ sizeLine; decide, [.int i tk, y], .cons ⟨_, rfl⟩ (.cons relu .nil), ⟨_, hT2, rfl, _, rfl⟩⟩
    have kept : ∀ b ob, b ∉ [e, it] → s0.heap.get? b = some ob → h2.get? b = some ob := fun b ob hb q => by
      have hb' : b ≠ e ∧ b ≠ it := by simpa using hb
      exact (sb.2 b hb'.1).trans (hk b ob hb'.1 hb'.2 q)
    have J := I.turnedNew (t' := tk + 1) kept hf (Nat.le_refl _) neu
    refine ⟨.ref s0.heap.objs.size, _, J, rfl, ⟨_, x, rfl, fresh, rfl, fun ys hy => by rw [I.tuple_inj hy hq]; exact hx⟩, ⟨⟨y, ?_⟩, hs.1.at fun o q => (sb.2 it (Ne.symm n3)).trans q⟩, fun b hb => ?_⟩
    · rw [show ((i + 1 : Nat) : Int) = (i : Int) + 1 by omega]; exact he2
    · have hlt2 : b < s0.heap.objs.size := by
        rcases List.mem_cons.mp hb with z | z
        · rw [z]; exact szE
        · rw [List.mem_singleton.mp z]; exact szI
      rw [upd_ne (Nat.ne_of_lt hlt2)]
      exact (hf b hb).1
  done := by
    intro X hP hw hK hc i pins s0 σ H EE I hf st hg
    subst hP hw hK
    obtain ⟨⟨old, he⟩, hi⟩ := st
    obtain ⟨xs, hq, hx⟩ := hg
    obtain ⟨its, rv, p, _⟩ := I.tuple hq
    have p : s0.heap.IsTuple a its.toArray := p
    obtain ⟨n1, n2, n3⟩ := en_apart he hi p
    obtain ⟨f0, f1, f2, f3, f4, f5⟩ := hf it (List.mem_cons_of_mem _ List.mem_cons_self)
    have e1 : i = its.toArray.size := by
      have := rv.length
      simp
      omega
    subst e1
    exact wpAny_pyNext_enum_endD (Draws.tuple (A := X.A.in1) (I.ok.hd hc) it a n1 its.toArray) he ⟨hi, p⟩ fun h1 eb => ⟨rfl, I.turned (t' := s0.toks) (fun b ob hb q => eb b ob hb q) f0 f1 f3 f4 f5⟩
  self := fun AA i s0 Q EE st h => by
    obtain ⟨⟨_, he⟩, _⟩ := st
    exact wpAny_pyIter_enum he h
def iEnT (K : PySem.W.Frag) (ta : TA) : TI := fun σ H R => ta σ H fun vs H1 => ∃ a xs, vs = [.ref a] ∧ SqT K H1 a xs ∧ R (IteT K a) H1
theorem pi_enT {X : Cx} {e : Expr} {ta : TA} {p pos tpos : Pos} {elts : List Expr} {kk : Nat} (hg : Gl X "enumerate") (hm : X.mg "enumerate" = none) (ha : PA X [e] ta) (hs : starEach [e] X.env = [(false, eval e X.env)] := by rfl) : PI X (.Tuple elts kk tpos) (.Call (.Name "enumerate" p) [e] [] pos) (iEnT X.K ta) := by
  refine ⟨fun pins s0 σ H R I h => Call_ (ld_blt I hg hm boot_enumerate (PyProof.Rows.callWith_type1 (thn (ha.run pos pins s0 σ H _ I h) fun us s1 ⟨vs, H1, I1, r1, q1⟩ => ?_) hs rfl))⟩
  obtain ⟨a, xs, rfl, hq, q⟩ := q1
  cases r1 with
  | cons r rr =>
    cases rr
    cases r
    obtain ⟨its, rv, p', _⟩ := I1.tuple hq
    refine en_call (show s1.heap.IsTuple a its.toArray from p') fun h1 he hi hk => wpAny_pyIter_enum he ?_
    have J : Inv X pins σ H1 { s1 with heap := h1 } := I1.kept (t' := s1.toks) hk
    refine ⟨s1.heap.objs.size + 1, [s1.heap.objs.size + 1, s1.heap.objs.size], _, _, H1, rfl, J, turn_enT a (s1.heap.objs.size + 1) s1.heap.objs.size, ⟨⟨.none, he⟩, hi⟩, fun b hb => ?_, q⟩
    have above : s1.heap.objs.size ≤ b := (List.mem_cons.mp hb).elim (fun q => by rw [q]; exact Nat.le_succ _) (fun q => by rw [List.mem_singleton.mp q]; exact Nat.le_refl _)
    exact I1.fpOk above (I1.hok.fresh above)
/-- for i, x in enumerate(a tuple) -/
theorem for_enT {K : PySem.W.Frag} {a : Addr} {xs : List V} {g : TG} {tb : TS} {D : Ends} {σ : L2.St} {H : Hp} (Pv : Nat → L2.St → Hp → Prop) (h0 : Pv 0 σ H) (hl : ∀ i σ H, Pv i σ H → SqT K H a xs)
    (hs : ∀ (i : Nat) (x : V) (T : Addr) (σ : L2.St) (H : Hp), xs[i]? = some x → Pv i σ H → H T = none → ∀ N : L2.St → Hp → Prop, (∀ σ' H', Pv (i + 1) σ' H' → N σ' H') → g (.ref T) σ (upd H T (.tup [.int (i : Nat), x])) fun σ2 H2 => tb { D with nx := N, ct := N, bk := D.nx } σ2 H2) (hd : ∀ σ H, Pv xs.length σ H → D.nx σ H) : ForW (IteT K a) H g tb D σ := by
  refine ⟨fun k m σ H => m + k = xs.length ∧ Pv k σ H, ⟨xs.length, by omega, h0⟩, ?_⟩
  rintro i m σ H ⟨em, p⟩
  have q := hl i σ H p
  by_cases hlt : i < xs.length
  · refine .inr ⟨⟨xs, _, q, List.getElem?_eq_getElem hlt⟩, Pv (i + 1), fun σ' H' p' => ⟨xs.length - (i + 1), by omega, by omega, p'⟩, fun v H' y => ?_⟩
    obtain ⟨T, x', rfl, hT, rfl, f1⟩ := y
    exact hs i x' T σ H (f1 xs q) p hT _ fun _ _ h => h
  · obtain rfl : i = xs.length := by omega
    exact .inl ⟨⟨xs, q, rfl⟩, hd σ H p⟩
theorem z_ient {K : PySem.W.Frag} {σ : L2.St} {H : Hp} {tl : TA} {R : It → Hp → Prop} : iEnT K tl σ H R = tl σ H fun vs H1 => ∃ a xs, vs = [.ref a] ∧ SqT K H1 a xs ∧ R (IteT K a) H1 := rfl
/-! a chain of three comparisons -/
def tChain3 (r r' r'' : R2) (ta tb tc td : TE) : TE := fun σ H Q => ta σ H fun x H1 => tb σ H1 fun y H2 => r x y H2 fun z H3 => ∃ k, z = .bl k ∧ (if k = true then tc σ H3 fun u H4 => r' y u H4 fun z2 H5 => ∃ k2, z2 = .bl k2 ∧ (if k2 = true then td σ H5 fun v H6 => r'' u v H6 Q else Q (.bl false) H5) else Q (.bl false) H3)
theorem pt_chain3 {X : Cx} {pos : Pos} {a b c d : Expr} {ta tb tc td : TE} {op op' op'' : CmpOp} {r r' r'' : R2} (ho : OpR X (compareOp op) r) (ho' : OpR X (compareOp op') r') (ho'' : OpR X (compareOp op'') r'') (ha : PE X a ta) (hb : PE X b tb) (hc : PE X c tc) (hd : PE X d td)
    (hm : lastMarks [op, op', op''] [b, c, d] = false := by with_unfolding_all rfl) : PT X (.Compare a [op, op', op''] [b, c, d] pos) (tTest (tChain3 r r' r'' ta tb tc td)) := by
  refine ⟨fun pins s0 σ H Q I h => isTrue_chain (thn (ha.run pins s0 σ H _ I h) fun v s1 ⟨x, H1, I1, r1, q1⟩ => test_link (thn (hb.run pins s1 σ H1 _ I1 q1) fun u s2 ⟨y, H2, I2, r2, q2⟩ => thn (ho pins s2 σ H2 x y v u _ I2 r1 r2 q2) fun dd s3 ⟨z, H3, I3, r3, k, e, q3⟩ => ?_)) hm⟩
  subst e
  cases r3
  refine wpAny_truthy_bool ?_
  cases k with
  | false =>
    obtain ⟨k', e', q'⟩ := q3
    cases e'
    exact ite_ff ⟨H3, I3, q'⟩
  | true =>
    refine ite_tt (test_link (thn (hc.run pins s3 σ H3 _ I3 q3) fun w' s4 ⟨z', H4, I4, r4, q4⟩ => thn (ho' pins s4 σ H4 y z' u w' _ I4 r2 r4 q4) fun d' s5 ⟨z2, H5, I5, r5, k2, e2, q5⟩ => ?_))
    subst e2
    cases r5
    refine wpAny_truthy_bool ?_
    cases k2 with
    | false =>
      obtain ⟨k', e', q'⟩ := q5
      cases e'
      exact ite_ff ⟨H5, I5, q'⟩
    | true =>
      refine ite_tt (test_last (thn (hd.run pins s5 σ H5 _ I5 q5) fun w2 s6 ⟨z3, H6, I6, r6, q6⟩ => thn (ho'' pins s6 σ H6 z' z3 w' w2 _ I6 r4 r6 q6) fun d2 s7 ⟨z4, H7, I7, r7, k3, e3, q7⟩ => ?_))
      subst e3
      cases r7
      exact wpAny_truthy_bool ⟨H7, I7, q7⟩
theorem z_chain3 {K : PySem.W.Frag} {σ : L2.St} {H : Hp} {Q : VK} {r r' r'' : R2} {ta tb tc td : TE} : tChain3 r r' r'' ta tb tc td σ H Q = ta σ H fun x H1 => tb σ H1 fun y H2 => r x y H2 fun z H3 => ∃ k, z = .bl k ∧ (if k = true then tc σ H3 fun u H4 => r' y u H4 fun z2 H5 => ∃ k2, z2 = .bl k2 ∧ (if k2 = true then td σ H5 fun v H6 => r'' u v H6 Q else Q (.bl false) H5) else Q (.bl false) H3) := rfl
/-! x in (a, b, ..): the tuple is forgotten at once -/
def tInT (neg : Bool) (ta : TE) (ts : TA) : TE := fun σ H Q => ta σ H fun x H1 => ts σ H1 fun xs H2 => xs.length ≤ sizeLine ∧ flatV x = true ∧ xs.all flatV = true ∧ Q (.bl (if neg then !inV x xs else inV x xs)) H2
theorem z_inT {neg : Bool} {ta : TE} {ts : TA} {σ : L2.St} {H : Hp} {Q : VK} : tInT neg ta ts σ H Q = ta σ H fun x H1 => ts σ H1 fun xs H2 => xs.length ≤ sizeLine ∧ flatV x = true ∧ xs.all flatV = true ∧ Q (.bl (if neg then !inV x xs else inV x xs)) H2 := rfl
theorem pe_inT {X : Cx} {a : Expr} {ta : TE} {es : List Expr} {ts : TA} {x1} {p pos : Pos} (ha : PE X a ta) (h : PA X es ts) (hm : behindInMarks .In (.Tuple es x1 p) = false) : PE X (.Compare a [.In] [.Tuple es x1 p] pos) (tInT false ta ts) := by
  refine ⟨fun pins s σ H Q I hq => ?_⟩
  refine wpAny_Compare1 (thn (ha.run pins s σ H _ I hq) fun v s1 ⟨x, H1, I1, r1, q1⟩ => wpAny_Tuple_spliced (thn (h.run p pins s1 σ H1 _ I1 q1) fun us s2 ⟨xs, H2, I2, r, z, fx, fs, q⟩ => ⟨by rw [← r.length]; exact z, ?_⟩)) hm
  have I3 : Inv X pins σ H2 { s2 with heap := s2.heap.push { cls := .type "tuple", data := .seq us.toArray } } := I2.kept (t' := s2.toks) fun b u e => Heap.get?_push_of_some _ e
  refine SeqAt.in_tupleAt (eqU x) ⟨_, Heap.get?_push_size _ rfl, rfl, _, rfl⟩ (fun w hw => mem_eqAt r1 fx r fs w (by simpa using hw)) ⟨.bl _, H2, I3, rfl, ?_⟩
  rw [show us.toArray.any (eqU x) = us.any (eqU x) by simp, any_eqU r fs]
  exact q
theorem pe_notInT {X : Cx} {a : Expr} {ta : TE} {es : List Expr} {ts : TA} {x1} {p pos : Pos} (ha : PE X a ta) (h : PA X es ts) (hm : behindInMarks .NotIn (.Tuple es x1 p) = false) : PE X (.Compare a [.NotIn] [.Tuple es x1 p] pos) (tInT true ta ts) := by
  refine ⟨fun pins s σ H Q I hq => ?_⟩
  refine wpAny_Compare1 (thn (ha.run pins s σ H _ I hq) fun v s1 ⟨x, H1, I1, r1, q1⟩ => wpAny_Tuple_spliced (thn (h.run p pins s1 σ H1 _ I1 q1) fun us s2 ⟨xs, H2, I2, r, z, fx, fs, q⟩ => ⟨by rw [← r.length]; exact z, ?_⟩)) hm
  have I3 : Inv X pins σ H2 { s2 with heap := s2.heap.push { cls := .type "tuple", data := .seq us.toArray } } := I2.kept (t' := s2.toks) fun b u e => Heap.get?_push_of_some _ e
  refine SeqAt.notIn_tupleAt (eqU x) ⟨_, Heap.get?_push_size _ rfl, rfl, _, rfl⟩ (fun w hw => mem_eqAt r1 fx r fs w (by simpa using hw)) ⟨.bl _, H2, I3, rfl, ?_⟩
  rw [show us.toArray.any (eqU x) = us.any (eqU x) by simp, any_eqU r fs]
  exact q
end L2.Z
set_option Elab.async false
set_option linter.all false
set_option maxRecDepth 100000
set_option maxHeartbeats 4000000
/-! own exceptions with one field, over any built-in -/
namespace PySem
namespace ZExc
open PySem.W PySem.Calls PyProof.Rows PySem.HandSPX
open Builtin Builtin.ObjectAttr
def iA (fn : Str) (p1 p2 : Pos) : Arguments := { posonlyargs := [], args := [{ arg := "self", annotation := none, pos := p1 }, { arg := fn, annotation := none, pos := p2 }], vararg := none, kwonlyargs := [], kw_defaults := [], kwarg := none, defaults := [] }
def iB (fn : Str) (q1 q2 q3 q4 : Pos) : List Stmt := [.Assign [.Attribute (.Name "self" q1) fn q2] (.Name fn q3) q4]
def iS (fn : Str) : Scope := { kind := .function, names := [(PySem.Str.ofString "self", .local), (fn, .local)], isGenerator := false, isCoroutine := false, more := [] }
/-- what is known of a class cn over bmB with def __init__(self, fn): self.fn = fn -/
structure ExI (K : Frag) (mg : Str → Option Value) (cn fn qi : Str) (bmB : List Value) (newId : String) (C fI : Addr) : Prop where
  gC : mg cn = some (.ref C)
  ini : excInitIn K C bmB newId = true
  ovr : excOver K C bmB = true
  sa : findIn K (.ref C) "__setattr__" = some (some (.builtin "object.__setattr__"))
  ga : findIn K (.ref C) "__getattribute__" = some (some (.builtin "BaseException.__getattribute__"))
  gg : findIn K (.ref C) "__getattr__" = some none
  noN : findIn K (.ref C) fn = some none
  tkr : takerIn K C fn = some none
  iC : findIn K (.ref C) "__init__" = some (some (.ref fI))
  tC : typeIn K (.ref fI) = some (.type "function")
  isf : isFn K (.ref fI) = true
  kC : keepIn K (.ref C) = true
  exC : subIn K (.ref C) (.type "BaseException") = some true
  tyC : typeIn K (.ref C) = some (.type "type")
  hdC : hasDictIn K C = true
  fnc : ∃ (oc : Value) (od : Option Addr) (kV doc pm : Value) (an : Option Addr) (cdv ct : Value) (osl : Array (Option Value)) (p1 p2 q1 q2 q3 q4 : Pos),
    K.lookup fI = some ⟨oc, od, .func (fnOf "__init__" qi (iA fn p1 p2) (iB fn q1 q2 q3 q4) (iS fn) .none kV doc pm an cdv ct), osl⟩ ∧ codeIn K cdv qi = true
section
variable {prog : Program} {w : World} {A : Around} {R : Result → Shared → Prop} {hp : Heap} {g : Array GenState} {d : Drawn} {t : Nat} {os : OsState}
theorem own_store {K : Frag} {B : String} {bmB : List Value} {fn : Str} {tk : Tok} {v : Value} {x C : Addr} {fv : Array Value} (SF : StoreFacts B bmB "object.__setattr__" "object") (X : K.In hp) (hx : hp.get? x = some { cls := .ref C, data := .fields fv })
    (ho : excOver K C bmB = true) (ht : takerIn K C fn = some none) (hh : hasDictIn K C = true)
    (hq : ∀ h' tk' dx, (∀ b o, b ≠ x → hp.get? b = some o → h'.get? b = some o) → hp.objs.size ≤ dx → dx ≠ x → h'.get? x = some { cls := .ref C, dict := some dx, data := .fields fv } →
      h'.Ns1 dx (fun y => if y = fn then some v else none) → R (.ok (.ret .none)) ⟨h', g, d, tk', os⟩) :
    codeAny (model prog w) A (.call (.builtin "object.__setattr__") ⟨[.ref x, .str fn tk, v], []⟩) R ⟨hp, g, d, t, os⟩ := by
  have I : InstAt hp x { cls := .ref C, data := .fields fv } C none := ⟨hx, rfl, rfl, trivial⟩
  have hxs : x ≠ hp.objs.size := Nat.ne_of_lt (Heap.lt_size hx)
  obtain ⟨cd, hcd, hdd⟩ : ∃ cd, clsIn K C = some cd ∧ cd.hasDict = true := by
    unfold hasDictIn at hh
    cases e : clsIn K C with
    | none => rw [e] at hh; cases hh
    | some cd => rw [e] at hh; exact ⟨cd, rfl, hh⟩
  refine osa_openX (s := ⟨hp, g, d, t, os⟩) SF X I ho ht fun b => ?_
  have hcls : Looks (model prog w) hp (classData C) cd := looks_clsIn X hcd
  obtain ⟨nm, bs, mro, ns, qn, hd, sn, sb, ab, col, del⟩ := cd
  dsimp only at hdd
  subst hdd
  dsimp only
  unfold storeInOwnDict ownDictForStores
  repeat (first | with_reducible refine store_in_new ?_ ?_ | with_reducible refine wpAny_loadPart_at hx ?_ | with_reducible refine hcls.at ?_ | wp_step)
  · refine ⟨{ cls := .type "dict", data := .dict #[] }, #[], 0, ?_, rfl, fun e he => absurd he (by simp), fun _ => rfl⟩
    exact (Heap.get?_update_ne _ _ _ _ (Ne.symm hxs)).trans (Heap.get?_push_at rfl rfl)
  · intro h' tk' hn' hs
    have hx1 : (hp.push { cls := .type "dict", data := .dict #[] }).get? x = some { cls := .ref C, data := .fields fv } := Heap.get?_push_of_some _ hx
    refine hq h' tk' hp.objs.size (fun b o nb eb => ?_) (Nat.le_refl _) (Ne.symm hxs) ?_ hn'
    · refine (hs.2 b (Nat.ne_of_lt (Heap.lt_size eb))).trans ?_
      exact (Heap.get?_update_ne _ _ _ _ nb).trans (Heap.get?_push_of_some _ eb)
    · refine (hs.2 x hxs).trans ?_
      exact Heap.get?_update_self _ hx1 rfl
end
theorem one_line (v : Value) : [v].length ≤ sizeLine := by
  rw [sizeLine_eq]
  exact (by decide : 1 ≤ 16777216)
theorem ld_own {M : Model} {s : Shared} {name : Str} {scope : Scope} {L a : Addr} {cd : Value} {m : Str → Option Value} {x : Str} {pos : Pos} {v : Value} {Q : Value → Shared → Prop} {A : Around} {E : Value → Shared → Prop} (hn : s.heap.Ns L m) (hv : m x = some v) (h : Q v s)
    (hk : scope.kind = .function) (hl : (envOfC name scope L a cd).kindOf x = some .local) (hd : (x == ("__debug__" : Str)) = false) :
    wpAny M A (eval (.Name x pos) (envOfC name scope L a cd)) Q E s := wpAny_Name (wpAny_loadName_local hk hl hn hv h) hd
/-- what __init__ leaves of a fresh exception at x -/
structure IniEnd (fn : Str) (h h' : Heap) (x C dx t1 : Addr) (v : Value) : Prop where
  keep : ∀ b o, b ≠ x → h.get? b = some o → h'.get? b = some o
  obj : h'.get? x = some { cls := .ref C, dict := some dx, data := .fields #[.ref t1, .none, .none, .none, .bool false, .none] }
  dbig : h.objs.size ≤ dx
  dne : dx ≠ x
  ns : h'.Ns1 dx (fun y => if y = fn then some v else none)
/-- a made one -/
structure Made1 (fn : Str) (h h' : Heap) (e C d : Addr) (v : Value) : Prop where
  keep : ∀ b o, h.get? b = some o → h'.get? b = some o
  new : h.objs.size ≤ e
  obj : ∃ oe vs, h'.get? e = some oe ∧ oe.cls = .ref C ∧ oe.dict = some d ∧ oe.data = .fields vs ∧ vs[1]? = some .none
  dbig : h.objs.size ≤ d
  dne : d ≠ e
  ns : h'.Ns1 d (fun y => if y = fn then some v else none)
abbrev selfS : Str := PySem.Str.ofString "self"
/-- what the field's name has to be -/
structure FnOk1 (fn : Str) : Prop where
  db : (fn == ("__debug__" : Str)) = false
  k1 : ∀ (qi : Str) (L a : Addr) (cd : Value), (envOfC qi (iS fn) L a cd).kindOf selfS = some .local
  k2 : ∀ (qi : Str) (L a : Addr) (cd : Value), (envOfC qi (iS fn) L a cd).kindOf fn = some .local
  kd : ∀ x v : Value, ([(selfS, x), (fn, v)].all fun y => (iS fn).names.lookup y.1 == some .local || (iS fn).names.lookup y.1 == some .cell) = true
  l1 : ∀ (qi : Str) (L a : Addr) (cd x v : Value), bindL (envOfC qi (iS fn) L a cd).kindOf [(selfS, x), (fn, v)] (fun _ => none) selfS = some x
  l2 : ∀ (qi : Str) (L a : Addr) (cd x v : Value), bindL (envOfC qi (iS fn) L a cd).kindOf [(selfS, x), (fn, v)] (fun _ => none) fn = some v
  bs : ∀ (x v : Value) (qi : Str) (p1 p2 q1 q2 q3 q4 : Pos) (kV doc pm : Value) (an : Option Addr) (cdv ct : Value), bindArgs (fnOf "__init__" qi (iA fn p1 p2) (iB fn q1 q2 q3 q4) (iS fn) .none kV doc pm an cdv ct) ⟨[x, v], []⟩ = pure [(selfS, x), (fn, v)]
section
variable {prog : Program} {w : World} {A : Around} {E : Value → Shared → Prop} {R : Result → Shared → Prop} {s : Shared} {K : Frag} {mg : Str → Option Value} {C fI : Addr} {cn fn qi : Str} {B newId initId : String} {bmB : List Value}
theorem one_init (SF : StoreFacts B bmB "object.__setattr__" "object") (T : ExI K mg cn fn qi bmB newId C fI) (FO : FnOk1 fn) {x t0 : Addr} {v : Value} (X : K.In s.heap) (hlim : s.heap.NoLimit) (hx : s.heap.get? x = some (excO C t0)) (hroom : A.depth < recursionLimit)
    (hq : ∀ h' tk dx, IniEnd fn s.heap h' x C dx t0 v → R (.ok (.ret .none)) { s with heap := h', toks := tk }) :
    codeAny (model prog w) A (.call (.ref fI) ⟨[.ref x, v], []⟩) R s := by
  obtain ⟨oc, od, kV, doc, pm, an, cdv, ct, osl, p1, p2, q1, q2, q3, q4, ho, hcd⟩ := T.fnc
  refine Att.call_fn (binds := [(selfS, .ref x), (fn, v)]) X hlim ho hcd hroom (BindsTo.of_eq (FO.bs (.ref x) v qi p1 p2 q1 q2 q3 q4 kV doc pm an cdv ct)) (FO.kd _ _) (fun s1 IC => ?_) rfl rfl rfl
  obtain ⟨h1, tk1, rfl⟩ := IC.toInCall.same
  have kp : ∀ b o, s.heap.get? b = some o → h1.get? b = some o := IC.toInCall.keep
  have nsL := IC.toInCall.ns
  have fresh : s.heap.objs.size < h1.objs.size := nsL.lt
  show wpAny _ _ (execs _ _) _ _ _
  refine wpAny_execs_cons (plainObj_wpAny_Assign_Attribute ?_)
  refine ld_own (v := v) nsL (FO.l2 qi _ _ _ (.ref x) v) (ld_own (v := .ref x) nsL (FO.l1 qi _ _ _ (.ref x) v) ?_ rfl (FO.k1 _ _ _ _) (by decide)) rfl (FO.k2 _ _ _ _) FO.db
  refine set_plain (X.keeps kp) (ox := excO C t0) (od := none) ⟨kp _ _ hx, rfl, rfl, trivial⟩ T.sa ?_
  refine own_store SF (X.keeps kp) (kp _ _ hx) T.ovr T.tkr T.hdC fun h3 tk3 dx k3 dn dne hx3 hn3 => ?_
  show wpAny _ _ (execs _ _) _ _ _
  exact wpAny_execs_nil (hq h3 tk3 dx ⟨fun b o nb eb => k3 b o nb (kp b o eb), hx3, Nat.le_trans (Nat.le_of_lt fresh) dn, dne, hn3⟩)
theorem one_made (FB : ExcBaseFacts B newId initId bmB) (SF : StoreFacts B bmB "object.__setattr__" "object") (T : ExI K mg cn fn qi bmB newId C fI) (FO : FnOk1 fn) {v : Value} (X : K.In s.heap) (hlim : s.heap.NoLimit) (hroom : A.depth + 1 < recursionLimit)
    (hq : ∀ h' tk e d, Made1 fn s.heap h' e C d v → R (.ok (.ret (.ref e))) { s with heap := h', toks := tk }) :
    codeAny (model prog w) A (.call (.ref C) ⟨[v], []⟩) R s := by
  obtain ⟨nm, N, qn, bs, bm, hdct, sn, sub, ab, col, dd, k0, k1, k2, k3, k5, hC, hT⟩ := excInit_of X T.ini
  obtain ⟨hp, g, dr, tk, os⟩ := s
  have kp : ∀ b o, hp.get? b = some o → ((hp.push (kdv_tup [v])).push (excO C hp.objs.size)).get? b = some o := fun b o e => Heap.get?_push_of_some _ (Heap.get?_push_of_some _ e)
  have atx : ((hp.push (kdv_tup [v])).push (excO C hp.objs.size)).get? (hp.objs.size + 1) = some (excO C hp.objs.size) := by heap_get
  refine call_own FB hT hC (looks_findIn X T.iC) (fun self => bind_fn X self T.tC) (one_line v) ?_
  refine one_init (s := ⟨(hp.push (kdv_tup [v])).push (excO C hp.objs.size), g, dr, tk, os⟩) SF T FO (X.keeps kp) (hlim.keeps kp) atx ?_ fun h' tk' dx M => ?_
  · show A.depth + 1 < recursionLimit
    exact hroom
  · have old : ∀ b o, hp.get? b = some o → h'.get? b = some o := fun b o e => M.keep b o (Nat.ne_of_lt (Nat.lt_succ_of_lt (Heap.lt_size e))) (kp b o e)
    have big : hp.objs.size + 1 + 1 ≤ dx := by
      have := M.dbig
      simpa only [Heap.size_push] using this
    exact ⟨rfl, hq h' tk' (hp.objs.size + 1) dx ⟨old, Nat.le_succ _, ⟨_, _, M.obj, rfl, rfl, rfl, rfl⟩, by show hp.objs.size ≤ dx; omega, M.dne, M.ns⟩⟩
end
theorem fnOk_given : FnOk1 ("given" : Str) := ⟨by decide, fun _ _ _ _ => by kernel_rfl, fun _ _ _ _ => by kernel_rfl, fun _ _ => by kernel_rfl, fun _ _ _ _ _ _ => by kernel_rfl, fun _ _ _ _ _ _ => by kernel_rfl, fun _ _ _ _ _ _ _ _ _ _ _ _ _ _ _ => by with_unfolding_all rfl⟩
theorem fnOk_value : FnOk1 ("value" : Str) := ⟨by decide, fun _ _ _ _ => by kernel_rfl, fun _ _ _ _ => by kernel_rfl, fun _ _ => by kernel_rfl, fun _ _ _ _ _ _ => by kernel_rfl, fun _ _ _ _ _ _ => by kernel_rfl, fun _ _ _ _ _ _ _ _ _ _ _ _ _ _ _ => by with_unfolding_all rfl⟩
end ZExc
end PySem
namespace L2.Z
open PySem PySem.Spec PyProof.Rows PySem.ZExc
section
variable {X : Cx} {C fI : Addr} {cn fn qi : Str} {B newId initId : String} {bmB : List Value}
/-- C(e) -/
def tMk1 (fn : Str) (C : Addr) (ta : TA) : L2.St → Hp → XK → Prop := fun σ H Q => ta σ H fun vs H1 => ∃ v, vs = [v] ∧ ∀ d, H1 d = none → Q (.ref C) (some d) (upd H1 d (.xd [(fn, v)]))
theorem relO_one {fn : Str} {v : V} {u : Value} (r : RelV v u) (f : Str) : RelO (List.lookup f [(fn, v)]) (if f = fn then some u else none) := by
  have e : List.lookup f [(fn, v)] = if f = fn then some v else none := by
    by_cases h : f = fn
    · subst h
      simp [List.lookup]
    · have h2 : (f == fn) = false := by simpa using h
      simp [List.lookup, h2, h]
  rw [e]
  by_cases h : f = fn
  · rw [if_pos h, if_pos h]; exact r
  · rw [if_neg h, if_neg h]; trivial
theorem pmk1 (FB : ExcBaseFacts B newId initId bmB) (SF : StoreFacts B bmB "object.__setattr__" "object") (FO : FnOk1 fn) {a : Expr} {ta : TA} {p pos : Pos} {k : Nat} (T : ExI X.K X.mg cn fn qi bmB newId C fI) (hr : Room k X.A) (ha : PA X [a] ta) (hg : Gl X cn) (hdb : (cn == ("__debug__" : Str)) = false)
    (he : starEach (a :: []) X.env = (false, eval a X.env) :: starEach [] X.env := by rfl) (hpl : (backTo pos (starEach [] X.env)).any (·.1) = false := by rfl) :
    PMk X (.Call (.Name cn p) [a] [] pos) (tMk1 fn C ta) := by
  intro pins s0 σ H Q I h
  refine wpAny_Call_Name_kw (ld_glob I hg T.gC ?_ hdb)
  refine PySem.W.callWith_K (h₀ := X.base) I.ok.mod.kin T.kC (thn (ha.run pos pins s0 σ H _ I h) fun us s1 hh => ?_) he hpl
  obtain ⟨vs, H1, I1, r1, v, rfl, q1⟩ := hh
  refine ⟨I1.kIn, ?_⟩
  obtain ⟨u, rfl, rv⟩ := vals1 r1
  show wpAny _ _ (call (.ref C) [u]) _ _ _
  have lim := I1.nolimit
  obtain ⟨hp, g, dr, tk, os⟩ := s1
  refine wpAny_call (one_made FB SF T FO I1.kIn lim (by have := hr.dp; omega) fun h' tk' e d M => ?_)
  show MkP X pins σ Q (.ref e) ⟨h', g, dr, tk', os⟩
  obtain ⟨oe, fv, hoe, hc, hd, hdat, h1⟩ := M.obj
  obtain ⟨G, g1, g2⟩ := restrict h' fun b => decide (b ≠ e)
  have gk : ∀ b, b ≠ e → G.get? b = h'.get? b := fun b hb => g1 b (decide_eq_true hb)
  have ge : G.get? e = none := g2 e (by simp)
  have old : ∀ b o, hp.get? b = some o → G.get? b = some o := fun b o q => (gk b (Nat.ne_of_lt (Nat.lt_of_lt_of_le (Heap.lt_size q) M.new))).trans (M.keep b o q)
  have nsd : G.Ns1 d (fun y => if y = fn then some u else none) := M.ns.at (fun o q => (gk d M.dne).trans q)
  have J : Inv X pins σ (upd H1 d (.xd [(fn, v)])) ⟨G, g, dr, tk', os⟩ := I1.laid (t' := tk') old M.dbig ⟨_, nsd, fun f => relO_one rv f⟩
  refine ⟨e, oe, fv, ⟨G, g, dr, tk', os⟩, _, .ref C, some d, rfl, J, fun b o q => ?_, ge, hoe, ⟨hc, hd⟩, hdat, h1, ?_, rfl, I1.bare, raises_own T.exC T.tyC, q1 d (I1.hok.fresh M.dbig)⟩
  · have nb : b ≠ e := fun z => by
      subst z
      rw [show G.get? b = none from ge] at q
      cases q
    exact (gk b nb).symm.trans q
  · rw [upd_ne (Ne.symm M.dne)]
    exact I1.hok.fresh M.new
/-- raise C(e) -/
def tRaise1 (fn : Str) (C : Addr) (W : WX) (ta : TA) : TS := fun _ σ H => tMk1 fn C ta σ H fun cls d H' => W cls d σ H'
theorem ps_raise1 {W : WX} (FB : ExcBaseFacts B newId initId bmB) (SF : StoreFacts B bmB "object.__setattr__" "object") (FO : FnOk1 fn) {a : Expr} {ta : TA} {p pos pos2 : Pos} {k : Nat} (hc : X.calm = true) (T : ExI X.K X.mg cn fn qi bmB newId C fI) (hr : Room k X.A) (tk : Takes X W) (ha : PA X [a] ta) (hg : Gl X cn)
    (hdb : (cn == ("__debug__" : Str)) = false) (he : starEach (a :: []) X.env = (false, eval a X.env) :: starEach [] X.env := by rfl) (hpl : (backTo pos (starEach [] X.env)).any (·.1) = false := by rfl) :
    PS X (.Raise (some (.Call (.Name cn p) [a] [] pos)) none pos2) (tRaise1 fn C W ta) := ps_raise hc tk (pmk1 FB SF FO T hr ha hg hdb he hpl)
/-- e.fn, e the exception that the suite holds -/
def tField (fn : Str) (C : Addr) (a : Addr) (cls : Value) (d : Option Addr) (te : TE) : TE := fun σ H Q => te σ H fun x H1 => x = .ref a ∧ cls = .ref C ∧ ∃ (dd : Addr) (v : V), d = some dd ∧ H1 dd = some (.xd [(fn, v)]) ∧ Q v H1
theorem pe_field1 {a : Addr} {oe : Obj} {cls : Value} {d : Option Addr} {pn : List (Addr × Obj)} {e : Expr} {te : TE} {pos : Pos} (T : ExI X.K X.mg cn fn qi bmB newId C fI) (hz : Zc cls d oe) (hf : ∃ vs, oe.data = .fields vs) (he : PE (X.suite a ((a, oe) :: pn)) e te)
    (hb : attributeBase e fn X.env (eval e X.env) = eval e X.env := by rfl) :
    PE (X.suite a ((a, oe) :: pn)) (.Attribute e fn pos) (tField fn C a cls d te) := by
  refine ⟨fun pins s0 σ H Q I h => ?_⟩
  refine attr_of hb (thn (he.run pins s0 σ H _ I h) fun u s1 hh => ?_)
  obtain ⟨x, H1, I1, rx, rfl, rfl, dd, v, rfl, ea, q⟩ := hh
  cases (show u = Value.ref a from rx)
  obtain ⟨ha, _⟩ := I1.pin (a, oe) (List.mem_append_left _ List.mem_cons_self)
  obtain ⟨vs, hd⟩ := hf
  obtain ⟨mA, hns, hr⟩ := (show ∃ mA, s1.heap.Ns1 dd mA ∧ ∀ f, RelO (List.lookup f [(fn, v)]) (mA f) from I1.hok dd _ ea)
  obtain ⟨od, ho, hl⟩ := lookIn_ns hns
  have l : List.lookup fn [(fn, v)] = some v := by simp [List.lookup]
  obtain ⟨u2, hu, ru⟩ := RelO.some_of (v := v) (o := mA fn) (by rw [← l]; exact hr fn)
  have J : PySem.W.InstAt s1.heap a oe C (some od) := ⟨ha, hz.1, by unfold PySem.W.notCls; rw [hd] <;> rfl, by rw [hz.2]; exact ho⟩
  exact HandSPX.exc_get I1.kIn J T.ga T.gg T.exC (PySem.W.findObj_own T.hdC T.noN rfl (by rw [hl, hu])) (handed_of ru) ⟨v, H1, I1.tok _, ru, q⟩
end
end L2.Z

set_option Elab.async false
set_option linter.all false
set_option maxRecDepth 100000
set_option maxHeartbeats 4000000
namespace L2.Z
open PySem PySem.Spec PyProof.Rows
/-! ### try with several clauses, with and without names -/
section
variable {X : Cx} {pins : List (Addr × Obj)} {σ : L2.St} {H : Hp} {a : Addr} {cls : Value} {d : Option Addr} {s : Shared}
/-- the exception at a is taken down in X at s -/
def Down (X : Cx) (pins : List (Addr × Obj)) (σ : L2.St) (H : Hp) (a : Addr) (cls : Value) (d : Option Addr) (s : Shared) : Prop :=
  ∃ (B : Heap) (s0 : Shared), Inv X pins σ H s0 ∧ (∀ b o, s0.heap.get? b = some o → b ∉ frs X.stack → B.get? b = some o) ∧ s0.heap.UpToSlots s.heap ∧ HandSPX.FlyingZ B (X.env :: X.outer) a (Zc cls d) s.heap ∧ H a = none ∧ s.os = s0.os ∧ AllBare s.gens
theorem Down.inv (D : Down X pins σ H a cls d s) : Inv X pins σ H s := by
  obtain ⟨B, s0, I, nb, up, fl, _, os, ag⟩ := D
  exact I.landed nb fl.1 up os ag
theorem Down.suite (D : Down X pins σ H a cls d s) (hs : X.stack = X.env :: X.outer) (hf : X.env.frame = some X.env.locals) :
    ∃ oe vs, s.heap.get? a = some oe ∧ Zc cls d oe ∧ oe.data = .fields vs ∧ Inv (X.suite a ((a, oe) :: (X.pn ++ pins))) [] σ H s := by
  have I := D.inv
  obtain ⟨B, s0, _, _, _, fl, na, _, _⟩ := D
  obtain ⟨oe, vs, he, hz, hd⟩ := fl.there
  have out : a ∉ frs (X.env :: X.outer) := fun hm => by
    obtain ⟨_, o', e', hnf⟩ := fl.2.2.1.mem hm
    rw [he] at e'
    cases e'
    exact hnf _ hd
  refine ⟨oe, vs, he, hz, hd, I.suite he hd na (fun z => ?_) fun z => ?_⟩
  · exact out (List.mem_filterMap.mpr ⟨X.env, List.mem_cons_self, by rw [hf, z]⟩)
  · obtain ⟨e1, h1, h2⟩ := List.mem_filterMap.mp z
    exact out (List.mem_filterMap.mpr ⟨e1, List.mem_cons_of_mem _ h1, h2⟩)
/-- its flight is put out once more -/
theorem Down.again {A : Around} {E : Value → Shared → Prop} {Q : Unit → Shared → Prop} (D : Down X pins σ H a cls d s) (q : ∀ s', Down X pins σ H a cls d s' → Q () s') : wpAny (model X.prog X.w) A (setFlight (.ref a) none) Q E s := by
  obtain ⟨B, s0, I, nb, up, fl, na, os, ag⟩ := D
  exact HandSPX.lands_againZ fl fun h4 f4 u4 => q _ ⟨B, s0, I, nb, up.trans u4, f4, na, os, ag⟩
/-- the clause's class is looked up, and asked -/
theorem Down.asks {x : Str} {np : Pos} {c : Value} {b : Bool} {R : Bool → Shared → Prop} {E : Value → Shared → Prop} (D : Down X pins σ H a cls d s) (hs : X.stack = X.env :: X.outer) (hf : X.env.frame = some X.env.locals) (hc : Names X x c)
    (hb : PySem.W.exmOne X.K cls c = some b) (r : R b s) :
    wpAny (model X.prog X.w) (X.A.mark (some (.ref a))) (eval (.Name x np) X.env) (fun c1 s1 => wpAny (model X.prog X.w) (X.A.mark (some (.ref a))) (excMatches (.ref a) c1) R E s1) E s := by
  obtain ⟨oe, vs, he, hz, hd, S⟩ := D.suite hs hf
  have ty : PySem.W.Looks (model X.prog X.w) s.heap (typeOf (.ref a)) cls := fun _ _ _ _ k q => wpAny_typeOf_ref (k _ _ he) (by rw [hz.1]; exact q)
  have ans := PySem.W.exm_one (M := model X.prog X.w) S.kIn ty hb
  obtain ⟨g1, g2, g3 | ⟨g3, g4, g5⟩⟩ := hc
  · exact ld_glob (X := X.suite a ((a, oe) :: (X.pn ++ pins))) S g1 g3 (ans.here r) g2
  · exact ld_blt (X := X.suite a ((a, oe) :: (X.pn ++ pins))) S g1 g3 g4 (ans.here r) g5 g2
/-- what a named clause makes of its suite's reading: slot i holds the exception, and is forgotten behind -/
def tNamed (i : Nat) (ts : Addr → Value → Option Addr → TS) : Addr → Value → Option Addr → TS := fun a cls d D σ H =>
  ts a cls d { nx := fun σ' H' => D.nx (σ'.set i none) H', rt := D.rt, bk := fun σ' H' => D.bk (σ'.set i none) H', ct := fun σ' H' => D.ct (σ'.set i none) H' } (σ.set i (some (.ref a))) H
/-- the clauses, one behind the other -/
inductive Cls1 (X : Cx) : List ExceptHandler → List (Value × (Addr → Value → Option Addr → TS)) → Prop
  | nil : Cls1 X [] []
  | bare {x : Str} {c : Value} {ts : Addr → Value → Option Addr → TS} {b0 : Stmt} {su : List Stmt} {np p : Pos} {hds : List ExceptHandler} {l : List (Value × (Addr → Value → Option Addr → TS))} (hc : Names X x c)
      (hsu : ∀ (a : Addr) (oe : Obj) (cls : Value) (d : Option Addr) (pn : List (Addr × Obj)), Zc cls d oe → (∃ vs, oe.data = .fields vs) → PSs (X.suite a ((a, oe) :: pn)) (b0 :: su) (ts a cls d)) (r : Cls1 X hds l) :
      Cls1 X (.ExceptHandler (some (.Name x np)) none (b0 :: su) p :: hds) ((c, ts) :: l)
  | named {x n : Str} {i : Nat} {c : Value} {ts : Addr → Value → Option Addr → TS} {b0 : Stmt} {su : List Stmt} {np p : Pos} {hds : List ExceptHandler} {l : List (Value × (Addr → Value → Option Addr → TS))} (hc : Names X x c)
      (hN : X.N.Nodup) (hi : X.N[i]? = some n) (hln : X.env.kindOf n = some .local)
      (hsu : ∀ (a : Addr) (oe : Obj) (cls : Value) (d : Option Addr) (pn : List (Addr × Obj)), Zc cls d oe → (∃ vs, oe.data = .fields vs) → PSs (X.suite a ((a, oe) :: pn)) (b0 :: su) (ts a cls d)) (r : Cls1 X hds l) :
      Cls1 X (.ExceptHandler (some (.Name x np)) (some n) (b0 :: su) p :: hds) ((c, tNamed i ts) :: l)
theorem Cls1.runs {Wout : WX} {D : Ends} {hds : List ExceptHandler} {l : List (Value × (Addr → Value → Option Addr → TS))} (k : Cls1 X hds l) (hs : X.stack = X.env :: X.outer) (hf : X.env.frame = some X.env.locals) (tk : Takes X Wout) (G : Down X pins σ H a cls d s)
    (w : wMany X.K Wout D l cls d σ H) : wpAny (model X.prog X.w) X.A (handleBy (.ref a) X.env hds) (SP X pins D) X.xe s := by
  have ok := G.inv.ok
  induction k with
  | nil =>
    obtain ⟨B, s0, I, nb, up, fl, na, os, ag⟩ := G
    refine wpAny_handleBy_nil ?_
    obtain ⟨_, _, _, oe, vs, T, _, _, he, _, hd, h1, _⟩ := id fl
    have up1 : wpAny (model X.prog X.w) X.A (setFlight (.ref a) X.env.frame) (fun _ s4 => wpAny (model X.prog X.w) X.A (throw (.ref a) : Sem Flow) (SP X pins D) X.xe s4) X.xe s := by
      rw [hf]
      refine HandSPX.setFlight_upZ fl fun h4 held u4 => wpAny_throw (tk _ _ ?_)
      refine ⟨a, B, s0, pins, σ, H, cls, d, rfl, I, nb, up.trans u4, .inr (.inr ?_), na, os, ag, w⟩
      rw [hs]
      exact held
    unfold PySem.passOn
    refine wpAny_bind (wpAny_field he hd h1 ?_)
    rw [if_neg (by simp)]
    first
      | exact wpAny_bind (wpAny_pure (wpAny_bind up1))
      | exact wpAny_bind up1
  | bare hc hsu r ih =>
    obtain ⟨b, hb, yes, no⟩ := w
    refine wpAny_handleBy_cons (codeAny_handlers_test (G.asks hs hf hc hb ?_)) (by intro q; cases q)
    cases b with
    | false => exact ih (no rfl)
    | true =>
      refine codeAny_handlers_suite (G.again fun s4 G4 => ?_)
      obtain ⟨oe, vs, he, hz, hd, S⟩ := G4.suite hs hf
      have na : H a = none := by
        obtain ⟨_, _, _, _, _, _, z, _⟩ := G4
        exact z
      refine wpAny_mono ((hsu a oe cls d (X.pn ++ pins) hz ⟨_, hd⟩).run [] _ _ H _ S (yes rfl a na)) (fun f s6 hsp => ?_) (fun _ _ z => False.elim z)
      cases f with
      | ret u =>
        obtain ⟨v6, σ6, H6, S6, r6, q6⟩ := hsp
        exact ⟨_, _, _, S6.unsuite ok, r6, q6⟩
      | _ =>
        obtain ⟨σ6, H6, S6, q6⟩ := hsp
        exact ⟨_, _, S6.unsuite ok, q6⟩
  | @named x n i c ts b0 su np p hds2 l2 hc hN hi hln hsu r ih =>
    obtain ⟨b, hb, yes, no⟩ := w
    refine wpAny_handleBy_cons (codeAny_handlers_test (G.asks hs hf hc hb ?_)) (by intro q; cases q)
    cases b with
    | false => exact ih (no rfl)
    | true =>
      refine codeAny_handlers_suite_as (G.again fun s4 G4 => ?_)
      obtain ⟨oe, vs, he, hz, hd, S⟩ := G4.suite hs hf
      have na : H a = none := by
        obtain ⟨_, _, _, _, _, _, z, _⟩ := G4
        exact z
      refine store_ok (X := X.suite a ((a, oe) :: (X.pn ++ pins))) (v := .ref a) S hN hi (.inl hln) rfl (fun s5 S5 => ?_) (.inr hln)
      refine wpAny_mono ((hsu a oe cls d (X.pn ++ pins) hz ⟨_, hd⟩).run [] s5 _ H _ S5 (yes rfl a na)) (fun f s6 hsp => ?_) (fun _ _ z => False.elim z)
      cases f with
      | ret u =>
        obtain ⟨v6, σ6, H6, S6, r6, q6⟩ := hsp
        exact gone_ok (S6.unsuite ok) hN hi hln fun s7 J => ⟨_, _, _, J, r6, q6⟩
      | _ =>
        obtain ⟨σ6, H6, S6, q6⟩ := hsp
        exact gone_ok (S6.unsuite ok) hN hi hln fun s7 J => ⟨_, _, J, q6⟩
theorem ps_try_mix {body : List Stmt} {h0 : ExceptHandler} {hds : List ExceptHandler} {l : List (Value × (Addr → Value → Option Addr → TS))} {pos : Pos} {tb : WX → TS} {Wout : WX} (hs : X.stack = X.env :: X.outer) (hf : X.env.frame = some X.env.locals) (tk : Takes X Wout)
    (hb : ∀ (W : WX) (pn : List (Addr × Obj)) (xe : Value → Shared → Prop), Takes (X.tr pn xe) W → PassesOwn (model X.prog X.w) X.A X.env xe → PSs (X.tr pn xe) body (tb W))
    (k : Cls1 X (h0 :: hds) l) : PS X (.Try body (h0 :: hds) [] [] pos) (fun D σ H => tb (wMany X.K Wout D l) D σ H) := by
  refine ⟨fun pins s σ H D I h => wpAny_Try_except ?_⟩
  have frm : X.A.frames = some (X.env :: X.outer) := by rw [I.ok.frames, hs]
  refine wpAny_mono ((hb (wMany X.K Wout D l) (X.pn ++ pins) _ (fun u s' xx => ?_) PassesOwn.looking).run [] s σ H D (I.toTry _) h) (fun f s1 hsp => ?_) (fun e s1 he => he)
  · obtain ⟨a, B, sI, pins', σ', H', cls, d, rfl, J, nb, up, sky, na, os, ag, w⟩ := xx
    have sky2 : Sky B (X.env :: X.outer) a (Zc cls d) X.env.locals s'.heap := hs ▸ sky
    refine Sky.land Zc.steady frm hf sky2 fun h3 fl u3 => ?_
    exact k.runs hs hf tk ⟨B, sI, J.ofTry I.ok, nb, up.trans u3, fl, na, os, ag⟩ w
  · cases f with
    | ret v =>
      obtain ⟨v2, σ', H', J, r, q⟩ := hsp
      exact ⟨v2, σ', H', J.ofTry I.ok, r, q⟩
    | next =>
      obtain ⟨σ', H', J, q⟩ := hsp
      exact wpAny_execs_nil ⟨σ', H', J.ofTry I.ok, q⟩
    | _ =>
      obtain ⟨σ', H', J, q⟩ := hsp
      exact ⟨σ', H', J.ofTry I.ok, q⟩
end
end L2.Z

set_option Elab.async false
set_option linter.all false
set_option maxRecDepth 100000
set_option maxHeartbeats 4000000
namespace L2.Z
open PySem PySem.Spec PyProof.Rows
/-! ### repr of plain values, where no repr is under way -/
/-- the text that repr tells -/
def RepV (K : PySem.W.Frag) (H : Hp) (v : V) (z : Str) : Prop :=
  (∃ d, Dp K H v d ∧ d.showable = true ∧ d.hasDict = false ∧ d.depth ≤ 64 ∧ d.shown.length ≤ sizeLine ∧ z = d.shown) ∨ (∃ a, v = .ref a ∧ H a = some (.dK []) ∧ z = (PyData.dict []).shown)
def rRepV (K : PySem.W.Frag) : List V → Hp → VK → Prop := fun xs H Q => ∃ v z, xs = [v] ∧ RepV K H v z ∧ Q (.str z) H
theorem dk_empty {P : Program} {w : World} {H : Hp} {h : Heap} {a : Addr} (ok : HOk P w H h) (e : H a = some (.dK [])) : ∃ as, Reads h (.ref a) (.dict []) as ∧ sysModules ∉ as := by
  obtain ⟨hz, ns, vs, r, o, es, ep, ho, hx, hd, _, hp, _⟩ := dk_of ok e
  cases r
  have en : es.toList = [] := by
    cases hl : es.toList with
    | nil => rfl
    | cons x l => rw [hl] at hp; cases hp
  have hc : o.cls = .type "dict" := hx.1
  refine ⟨a :: [] ++ [], Reads.dict (kvs := []) ho hc hd (by rw [en]; exact ReadsAll.nil) (by rw [en]; exact ReadsAll.nil), fun z => ?_⟩
  have e2 : sysModules = a := by simpa using z
  rw [e2] at ns
  simp at ns
theorem call_repV {X : Cx} (hg : X.A.guards = some []) (hu : X.A.units + 80 < cLine) : CallR X (.builtin "repr") (rRepV X.K) := by
  intro pins s σ H xs us Q I r h
  obtain ⟨v, z, rfl, hz, q⟩ := h
  obtain ⟨u, rfl, r1⟩ := vals1 r
  rcases hz with ⟨d, hd, h1, h2, h3, h4, rfl⟩ | ⟨a, rfl, ha, rfl⟩
  · obtain ⟨as, rd⟩ := Dp.reads I d v u hd r1
    cases d with
    | none =>
      cases rd
      exact PySem.P.repr_of_none ⟨.str _, H, I.tok _, ⟨_, rfl⟩, q⟩
    | bool b =>
      cases rd
      exact PySem.P.repr_of_bool ⟨.str _, H, I.tok _, ⟨_, rfl⟩, q⟩
    | int i =>
      cases rd
      exact PySem.P.repr_of_int (by simpa [PyData.showable] using h1) ⟨.str _, H, I.tok _, ⟨_, rfl⟩, q⟩
    | str x =>
      cases rd
      exact PySem.P.repr_of_str ⟨.str _, H, I.tok _, ⟨_, rfl⟩, q⟩ h4
    | list l =>
      obtain ⟨a, rfl⟩ : ∃ a, u = Value.ref a := by cases rd; exact ⟨_, rfl⟩
      refine PySem.repr_of_reads' rd h1 (fun z => by rw [h2] at z; cases z) hg (by omega) (fun _ _ e => e) (fun h' u tk k => ⟨.str _, H, I.kept k, ⟨_, rfl⟩, q⟩) h4
    | tuple l =>
      obtain ⟨a, rfl⟩ : ∃ a, u = Value.ref a := by cases rd; exact ⟨_, rfl⟩
      refine PySem.repr_of_reads' rd h1 (fun z => by rw [h2] at z; cases z) hg (by omega) (fun _ _ e => e) (fun h' u tk k => ⟨.str _, H, I.kept k, ⟨_, rfl⟩, q⟩) h4
    | dict l => exact absurd h2 (by simp [PyData.hasDict])
  · cases (show u = Value.ref a from r1)
    obtain ⟨as, rd, ns⟩ := dk_empty I.hok ha
    exact PySem.repr_of_reads' rd (by decide) (fun _ => ns) hg (by simp only [PyData.depth, PyData.depthKv]; omega) (fun _ _ e => e) (fun h' u tk k => ⟨.str _, H, I.kept k, ⟨_, rfl⟩, q⟩) (by decide +kernel)
end L2.Z

set_option Elab.async false
set_option linter.all false
set_option maxRecDepth 100000
set_option maxHeartbeats 4000000
namespace L2.Z
open PySem PySem.Spec PyProof.Rows LamX
/-! ### defs that are promised only where no repr is under way -/
structure FnOkG (P : Program) (w : World) (K : PySem.W.Frag) (mg : Str → Option Value) (base : Heap) (CX : CXT) (k : Nat) (f : Addr) (fd : FuncData) (ps : List Str) (sp : Sp) : Prop where
  len : ∀ vs H Q E, sp vs H Q E → vs.length = ps.length
  run : ∀ (A : Around) (outer : List Env) (s : Shared) (H : Hp) (args : Args) (us : List Value) (vs : List V) (Q : VK) (E : XK), A.guards = some [] → Room k A → Env0 P w K mg base A outer s H → BindsTo s fd args (ps.zip us) → Vals vs us → sp vs H Q E →
    codeAny (model P w) A (.call (.ref f) args) (CR CX outer P w H s Q E) s
section
variable {P : Program} {w : World} {K : PySem.W.Frag} {mg : Str → Option Value} {base : Heap} {x qual : Str} {params : Arguments} {body : List Stmt} {scope : Scope} {f : Addr} {fd : FuncData} {CX : CXT} {N ps : List Str} {k : Nat} {sp : Sp}
theorem okG (F : FunD K x qual params body scope [] [] f fd) (S : FnScope N ps scope) (len : ∀ vs H Q E, sp vs H Q E → vs.length = ps.length)
    (hbody : ∀ (c : Addr) (A : Around) (outer : List Env) (s : Shared) (H : Hp) (vs : List V) (Q : VK) (E : XK), fd.code = .ref c → A.guards = some [] → Room k (A.deeper (envOfC qual scope s.heap.objs.size f (.ref c))) → sp vs H Q E →
      ∃ t, PSs (cxOf CX P w K mg base N qual scope f (.ref c) A outer s H E) body t ∧ t { nx := fun _ H' => Q .non H', rt := Q } (L2.start N vs) H) : FnOkG P w K mg base CX (k + 1) f fd ps sp := by
  obtain ⟨oc, od, dV, kV, doc, pm, an, cdv, ct, osl, rfl, lk, hcd, _, _⟩ := F.ex
  obtain ⟨c, rfl⟩ := He.codeIn_ref hcd
  exact ⟨len, fun A outer s H args us vs Q E hg hr e0 hb r h => run_ofS lk hcd S hr e0 hb r (len _ _ _ _ h) fun hr2 => hbody c A outer s H vs Q E rfl hg hr2 h⟩
end
section
variable {X : Cx} {CX : CXT} {k : Nat} {f : Addr} {fd : FuncData} {ps : List Str} {sp : Sp} {E : XK} {x : Str} {p pos : Pos} {e : Expr} {es : List Expr} {t : TA}
theorem pe_callG (F : FnOkG X.prog X.w X.K X.mg X.base CX k f fd ps sp) (gd : X.A.guards = some []) (hr : Room k X.A) (hg : Gl X x) (hm : X.mg x = some (.ref f)) (hk : PySem.W.keepIn X.K (.ref f) = true) (hb : L2.Binds X.K fd ps []) (hx : Passes CX X E)
    (ha : PA X (e :: es) t) (hdb : (x == ("__debug__" : Str)) = false := by decide) (he : starEach (e :: es) X.env = (false, eval e X.env) :: starEach es X.env := by rfl) (hpl : (backTo pos (starEach es X.env)).any (·.1) = false := by rfl) :
    PE X (.Call (.Name x p) (e :: es) [] pos) (tCall sp [] E t) := by
  refine ⟨fun pins s0 σ H Q I h => wpAny_Call_Name_kw (ld_glob I hg hm ?_ hdb)⟩
  refine PySem.W.callWith_K (h₀ := X.base) I.ok.mod.kin hk (thn (ha.run pos pins s0 σ H _ I h) fun us s1 ⟨vs, H1, I1, r, q⟩ => ⟨I1.kIn, ?_⟩) he hpl
  have q2 : sp vs H1 Q E := by
    have q3 : sp (vs ++ []) H1 Q E := q
    rwa [List.append_nil] at q3
  have hl : us.length = ps.length := by rw [← r.length]; exact F.len _ _ _ _ q2
  have b := hb s1 us I1.kIn (by rw [List.append_nil]; exact hl)
  rw [List.append_nil] at b
  refine wpAny_call (codeAny_mono (F.run X.A X.stack s1 H1 _ us vs Q E gd hr I1.env0 b r q2) fun rr s2 hq => ?_)
  match rr, hq with
  | .error e, hq => exact hx pins σ H1 s1 e s2 I1 hq
  | .ok (.ret u), hq => exact I1.after hq
  | .ok .next, hq => exact False.elim hq
  | .ok .brk, hq => exact False.elim hq
  | .ok .cont, hq => exact False.elim hq
end
end L2.Z

set_option Elab.async false
set_option linter.all false
set_option maxRecDepth 100000
set_option maxHeartbeats 4000000
namespace L2.Z
open PySem PySem.Spec PyProof.Rows LamX
/-! ### the end of a law whose promise wants that no repr is under way -/
abbrev listO (vs : List Value) : Obj := { cls := .type "list", data := .seq vs.toArray }
abbrev tabO : Obj := { cls := .none, data := .fields #[] }
theorem list_ne_tab {vs : List Value} : listO vs ≠ tabO := fun z => by
  have y : Data.seq vs.toArray _ = Data.fields #[] := congrArg Obj.data z
  cases y
/-- what is tracked when the law is called: the tables, and the script where it is not written -/
def lawH (K : PySem.W.Frag) (TA : List Addr) (a : Addr) (vs : List Value) (ns : List Int) : Hp := fun b =>
  if b ∈ TA then some (.tbl #[]) else if b = a ∧ K.lookup a = none then some (.frz (listO vs) (.lst (ns.map V.int))) else none
section
variable {K : PySem.W.Frag} {TA : List Addr} {a b : Addr} {vs : List Value} {ns : List Int} {h : Heap}
theorem lawH_tab (hb : b ∈ TA) : lawH K TA a vs ns b = some (.tbl #[]) := if_pos hb
theorem lawH_cases : lawH K TA a vs ns b = none ∨ b ∈ TA ∨ (b = a ∧ K.lookup a = none ∧ lawH K TA a vs ns b = some (.frz (listO vs) (.lst (ns.map V.int)))) := by
  unfold lawH
  by_cases h1 : b ∈ TA
  · exact .inr (.inl h1)
  · by_cases h2 : b = a ∧ K.lookup a = none
    · exact .inr (.inr ⟨h2.1, h2.2, by rw [if_neg h1, if_pos h2]⟩)
    · exact .inl (by rw [if_neg h1, if_neg h2])
/-- an object that is neither the script nor an empty table is not tracked -/
theorem lawH_none {o : Obj} (hT : ∀ c ∈ TA, h.get? c = some tabO) (ha : h.get? a = some (listO vs)) (e : h.get? b = some o) (n1 : o ≠ tabO) (n2 : o ≠ listO vs) : lawH K TA a vs ns b = none := by
  rcases lawH_cases (K := K) (TA := TA) (a := a) (b := b) (vs := vs) (ns := ns) with q | q | ⟨q, _, _⟩
  · exact q
  · exact absurd (Option.some.inj (e.symm.trans (hT b q))) n1
  · subst q
    exact absurd (Option.some.inj (e.symm.trans ha)) n2
theorem lawH_base {o : Obj} (hT : ∀ c ∈ TA, h.get? c = some tabO) (ha : h.get? a = some (listO vs)) (e : h.get? b = some o) (n1 : o ≠ tabO) (n2 : o ≠ listO vs) : (hidT h (lawH K TA a vs ns)).get? b = some o := hidT_get e (lawH_none hT ha e n1 n2)
theorem lawH_ns {m : Str → Option Value} (hT : ∀ c ∈ TA, h.get? c = some tabO) (ha : h.get? a = some (listO vs)) (n : h.Ns b m) : (hidT h (lawH K TA a vs ns)).Ns b m := by
  obtain ⟨o, es, ep, e, d, r⟩ := n
  refine ⟨o, es, ep, lawH_base hT ha e (fun z => ?_) (fun z => ?_), d, r⟩
  · rw [z] at d; cases d
  · rw [z] at d; cases d
theorem lawH_in (KX : K.In h) (hT : ∀ c ∈ TA, h.get? c = some tabO) (nT : ∀ c ∈ TA, K.lookup c = none) : K.In (hidT h (lawH K TA a vs ns)) := fun b o e => by
  refine hidT_get (KX b o e) ?_
  rcases lawH_cases (K := K) (TA := TA) (a := a) (b := b) (vs := vs) (ns := ns) with q | q | ⟨q, q2, _⟩
  · exact q
  · rw [nT b q] at e; cases e
  · subst q
    rw [q2] at e
    cases e
theorem lawH_sq (ha : h.get? a = some (listO vs)) (KX : K.In h) (aT : a ∉ TA) (hi : IntsAre vs ns) (hl : ns.length ≤ sizeLine) : SqL K (lawH K TA a vs ns) a (ns.map V.int) := by
  have rv := L2.vals_ints hi
  cases hk : K.lookup a with
  | some o =>
    have e := KX a o hk
    rw [ha] at e
    cases e
    exact .inr ⟨_, vs.toArray, _, hk, rfl, rfl, rfl, by rw [List.size_toArray, hi.length]; exact hl, by simpa using rv⟩
  | none =>
    refine .inl (.inr ⟨listO vs, ?_⟩)
    unfold lawH
    rw [if_neg aT, if_pos ⟨rfl, hk⟩]
theorem lawH_ok {P : Program} {w : World} (hT : ∀ c ∈ TA, h.get? c = some tabO) (ha : h.get? a = some (listO vs)) (hi : IntsAre vs ns) (hl : ns.length ≤ sizeLine) : HOk P w (lawH K TA a vs ns) h := fun b u e => by
  rcases lawH_cases (K := K) (TA := TA) (a := a) (b := b) (vs := vs) (ns := ns) with q | q | ⟨q, _, q3⟩
  · rw [q] at e; cases e
  · rw [lawH_tab q] at e
    cases e
    exact hT b q
  · rw [q3] at e
    cases e
    subst q
    exact ⟨ha, by rw [List.length_map]; exact hl, vs, _, L2.vals_ints hi, ha⟩
end
/-- what is known of the law's promise at the head's heap h -/
def LawAtG (l : PySem.W.OpenLaw) (w : World) (K : PySem.W.Frag) (CX : CXT) (k n : Nat) (x : Str) (mg : Str → Option Value) (fa : Addr) (h : Heap) : Prop :=
  ∃ (fd : FuncData) (cs : List (Addr × Addr)) (sp : Sp), (∀ p ∈ cs, h.get? p.2 = some tabO) ∧ (∀ p ∈ cs, K.lookup p.2 = none) ∧ (∀ p ∈ cs, PySem.W.CodeHd h p.1 p.2) ∧ (∀ (s : Shared) (u : Value), BindsTo s fd ⟨[u], []⟩ [(x, u)]) ∧
    (∀ (H : Hp) (a : Addr) (ns : List Int), ns.length ≤ n → (∀ z ∈ ns, Builtin.Int.intBits z ≤ 1048576) → (∀ p ∈ cs, H p.2 = some (.tbl #[])) → SqL K H a (ns.map V.int) → sp [.ref a] H (fun v _ => v = .bl true) fun _ _ _ => False) ∧
    ∀ base : Heap, K.In base → base.Ns mainGlobals mg → (∀ p ∈ cs, TabB base mg p.1 p.2) → FnOkG l.prog w K mg base CX k fa fd [x] sp
theorem walk_ofG {l : PySem.W.OpenLaw} {n k : Nat} {q : Program} {loose : List Str} {XP : (Str → Option Value) → Heap → Prop} {YP : World → Heap → Prop} {d : DefRec} {CX : World → CXT} {x : Str}
    (hn : l.most = some n) (hn2 : n ≤ sizeLine) (hdf : d.params.defaults = []) (hr : Room k callerA)
    (F : ∀ (w : World) (mg : Str → Option Value) (fa : Addr) (h : Heap), YP w h → h.Ns mainGlobals mg → mg d.name = some (.ref fa) → ∃ K : PySem.W.Frag, K.In h ∧ LawAtG l w K (CX w) k n x mg fa h)
    (hCX : ∀ (w : World) (H : Hp) (s : Shared) (e : Value) (s' : Shared), CX w [] H s (fun _ _ _ => False) e s' → False) :
    PySem.W.WalkO q loose XP YP l.row.toRowW d [] (fun f vs => PySem.call f vs) := by
  refine Att.attach_callB hn hdf fun w s0 s1 mg mb fa o0 pm cd doc a vs ns G Y _ _ _ hmg hobj hints hlen hbits hgens => ?_
  obtain ⟨K, KX, fd, cs, sp, tEmpty, tOut, tHd, bnd, hsp, hF⟩ := F w mg fa _ Y G.T.g hmg
  have hl : ns.length ≤ sizeLine := Nat.le_trans hlen hn2
  have hT : ∀ c ∈ cs.map (·.2), s1.heap.get? c = some tabO := fun c hc => by
    obtain ⟨p, hp, rfl⟩ := List.mem_map.mp hc
    exact tEmpty p hp
  have nT : ∀ c ∈ cs.map (·.2), K.lookup c = none := fun c hc => by
    obtain ⟨p, hp, rfl⟩ := List.mem_map.mp hc
    exact tOut p hp
  have isT : ∀ p ∈ cs, p.2 ∈ cs.map (·.2) := fun p hp => List.mem_map.mpr ⟨p, hp, rfl⟩
  have aT : a ∉ cs.map (·.2) := fun z => list_ne_tab (Option.some.inj (hobj.symm.trans (hT a z)))
  obtain ⟨H, eH⟩ : ∃ H, H = lawH K (cs.map (·.2)) a vs ns := ⟨_, rfl⟩
  have atT : ∀ p ∈ cs, H p.2 = some (.tbl #[]) := fun p hp => by rw [eH]; exact lawH_tab (isT p hp)
  have hSq : SqL K H a (ns.map V.int) := by rw [eH]; exact lawH_sq hobj KX aT hints hl
  have hOk : HOk l.prog w H s1.heap := by rw [eH]; exact lawH_ok hT hobj hints hl
  have nsB : ∀ {b : Addr} {m : Str → Option Value}, s1.heap.Ns b m → (hidT s1.heap H).Ns b m := fun {b m} z => by rw [eH]; exact lawH_ns hT hobj z
  have inB : K.In (hidT s1.heap H) := by rw [eH]; exact lawH_in KX hT nT
  have obB : ∀ {b : Addr} {o : Obj}, s1.heap.get? b = some o → o ≠ tabO → o ≠ listO vs → (hidT s1.heap H).get? b = some o := fun {b o} e n1 n2 => by rw [eH]; exact lawH_base hT hobj e n1 n2
  have noG : ∀ {m : Str → Option Value} {b : Addr} {o : Obj}, s1.heap.Ns b m → s1.heap.get? b = some o → ∃ es ep, o.data = .dict es ep := fun {m b o} ⟨o2, es, ep, e, hd, _⟩ e2 => by
    rw [e] at e2
    cases e2
    exact ⟨es, ep, hd⟩
  have mod : L2.Mod K mg (hidT s1.heap H) := ⟨inB, nsB G.T.g, ⟨mb, nsB G.T.b, G.T.builtins⟩, by
    obtain ⟨mc, z1, z2⟩ := G.T.nolimit
    exact ⟨mc, nsB z1, z2⟩⟩
  have tb : ∀ p ∈ cs, TabB (hidT s1.heap H) mg p.1 p.2 := fun p hp => by
    refine ⟨?_, ?_, fun z => ?_⟩
    · obtain ⟨o, us, file, tf, flags, tg, inF, text, tt, e1, r1, r2, rest⟩ := tHd p hp
      exact ⟨o, us, file, tf, flags, tg, inF, text, tt, obB e1 (fun z => by rw [z] at r1; cases r1) (fun z => by rw [z] at r1; exact absurd (Value.type.inj r1) (by decide)), r1, r2, rest⟩
    · obtain ⟨bm, ob, b1, b2, b3, b4, b5, b6⟩ := G.T.bmain
      have pl1 : ob ≠ tabO := fun z => by rw [z] at b6; cases b6
      have pl2 : ob ≠ listO vs := fun z => by rw [z] at b6; cases b6
      refine ⟨bm, ob, b1, b2, fun z => ?_, fun z => ?_, obB b3 pl1 pl2, b4, b5, b6⟩
      · subst z
        obtain ⟨es, ep, y⟩ := noG G.T.g b3
        rw [b6] at y
        cases y
      · subst z
        exact pl1 (Option.some.inj (b3.symm.trans (tEmpty p hp)))
    · have e := tEmpty p hp
      rw [← z] at e
      obtain ⟨es, ep, y⟩ := noG G.T.g e
      cases y
  have e0 : Env0 l.prog w K mg (hidT s1.heap H) callerA [] s1 H := ⟨rfl, mod, fun b o e => of_hidT e, Nat.le_of_eq (hidT_size _ _), trivial, fun b hb => absurd (show b ∈ ([] : List Addr) from hb) (by simp), hOk, .of_eq hgens⟩
  refine codeAny_mono ((hF _ inB (nsB G.T.g) tb).run callerA [] s1 H ⟨[.ref a], []⟩ [.ref a] [.ref a] _ _ rfl hr e0 (bnd s1 (.ref a)) (.cons rfl .nil) (hsp H a ns hlen hbits atT hSq)) fun r s' hq => ?_
  match r, hq with
  | .error e, hq => exact (hCX w H s1 e s' hq).elim
  | .ok .next, hq => exact False.elim hq
  | .ok .brk, hq => exact False.elim hq
  | .ok .cont, hq => exact False.elim hq
  | .ok (.ret u), hq =>
    obtain ⟨v, H', os, bare, un, ok2, rv, ev⟩ := hq
    have ev : v = .bl true := ev
    subst ev
    cases (show u = Value.bool true from rv)
    have grew : ∀ p ∈ cs, ∃ more : Array Value, s'.heap.get? p.2 = some { cls := .none, data := .fields more } := fun p hp => by
      obtain ⟨more, z⟩ := un.tbls p.2 #[] (atT p hp)
      exact ⟨_, ok2 p.2 _ z⟩
    have same : ∀ b o, b ∉ cs.map (·.2) → s1.heap.get? b = some o → s'.heap.get? b = some o := fun b o nb e => by
      rcases lawH_cases (K := K) (TA := cs.map (·.2)) (a := a) (b := b) (vs := vs) (ns := ns) with z | z | ⟨z, _, z3⟩
      · exact un.keep b o e (by rw [eH]; exact z) (fun y => absurd (show b ∈ ([] : List Addr) from y) (by simp)) (by simp)
      · exact absurd z nb
      · have z4 := un.frzs b _ _ (by rw [eH]; exact z3)
        obtain ⟨y, _⟩ := ok2 b _ z4
        subst z
        rw [hobj] at e
        cases e
        exact y
    refine ⟨rfl, ⟨fun b o e => ?_, fun b o e => ?_⟩, os, bare⟩
    · by_cases hb : b ∈ cs.map (·.2)
      · obtain ⟨p, hp, rfl⟩ := List.mem_map.mp hb
        obtain ⟨more, hm⟩ := grew p hp
        rw [tEmpty p hp] at e
        cases e
        exact .inr (.inl ⟨((tHd p hp).tab (tEmpty p hp)).isCodeTable, rfl, #[], more, rfl, by rw [Array.empty_append]; exact hm⟩)
      · exact .inl (same b o hb e)
    · by_cases hb : b ∈ cs.map (·.2)
      · obtain ⟨p, hp, rfl⟩ := List.mem_map.mp hb
        obtain ⟨more, hm⟩ := grew p hp
        exact ⟨_, hm⟩
      · exact ⟨o, same b o hb e⟩
end L2.Z

set_option Elab.async false
set_option linter.all false
set_option maxRecDepth 100000
set_option maxHeartbeats 4000000
namespace L2.Z
open PySem PySem.Spec PyProof.Rows LamX
/-! ### short words for defs that raise, and for lambdas handed on -/
abbrev CXR : Program → World → CXT := L2.CX
def OkkX (P : Program) (w : World) (K : PySem.W.Frag) (mg : Str → Option Value) (base : Heap) (k : Nat) (x : Str) (ps : List Str) (sp : Sp) : Prop :=
  ∃ fd, FnOk P w K mg base (L2.CX P w) k (He.ga K x) fd ps sp ∧ Binds K fd ps [] ∧ mg x = some (.ref (He.ga K x)) ∧ PySem.W.keepIn K (.ref (He.ga K x)) = true
def OkkG (P : Program) (w : World) (K : PySem.W.Frag) (mg : Str → Option Value) (base : Heap) (k : Nat) (x : Str) (ps : List Str) (sp : Sp) : Prop :=
  ∃ fd, FnOkG P w K mg base CX0 k (He.ga K x) fd ps sp ∧ Binds K fd ps [] ∧ mg x = some (.ref (He.ga K x)) ∧ PySem.W.keepIn K (.ref (He.ga K x)) = true
theorem passE0 {X : Cx} : Passes (L2.CX X.prog X.w) X E0 := fun _ _ _ _ _ _ _ h => by
  obtain ⟨_, _, _, _, _, _, _, _, _, _, _, _, z⟩ := h
  exact z.elim
/-- raise C('..') -/
def tRaise0 (C : Addr) (W : WX) : TS := fun _ σ H => W (.ref C) none σ H
theorem ps_raise0 {X : Cx} {C : Addr} {W : WX} {x m : Str} {j : Nat} {p p2 pos pos2 : Pos} (hc : X.calm = true) (tk : Takes X W) (gC : X.mg x = some (.ref C))
    (q : PySem.W.excIn X.K C He.veBase "ValueError.__new__" = true ∧ PySem.W.keepIn X.K (.ref C) = true ∧ PySem.W.subIn X.K (.ref C) (.type "BaseException") = some true ∧ PySem.W.typeIn X.K (.ref C) = some (.type "type")) (hg : Gl X x)
    (hdb : (x == ("__debug__" : Str)) = false) : PS X (.Raise (some (.Call (.Name x p) [.Constant (.str m) j p2] [] pos)) none pos2) (tRaise0 C W) :=
  ps_raise hc tk (pmk_own PySem.F.excBase_ValueError q.1 gC q.2.1 (raises_own q.2.2.1 q.2.2.2) hg hdb)
theorem z_raise1 {fn : Str} {C : Addr} {W : WX} {ta : TA} {D : Ends} {σ : L2.St} {H : Hp} : tRaise1 fn C W ta D σ H = ta σ H fun vs H1 => ∃ v, vs = [v] ∧ ∀ d, H1 d = none → W (.ref C) (some d) σ (upd H1 d (.xd [(fn, v)])) := rfl
theorem z_raise0 {C : Addr} {W : WX} {D : Ends} {σ : L2.St} {H : Hp} : tRaise0 C W D σ H = W (.ref C) none σ H := rfl
theorem codeOf_fd {K : PySem.W.Frag} {f x q : Str} {pa : Arguments} {bo : List Stmt} {sc : Scope} {fd : FuncData} {c : Addr} (F : FunD K x q pa bo sc [] [] (He.ga K f) fd) (hc : fd.code = .ref c) : (He.cT K (f, none)).1 = c := by
  obtain ⟨oc, od, dV, kV, doc, pm, an, cdv, ct, osl, rfl, lk, _⟩ := F.ex
  exact He.codeOf_eq (p := (f, none)) lk hc
theorem call_repV2 {X : Cx} {K : PySem.W.Frag} (e : X.K = K) (hg : X.A.guards = some []) (hu : X.A.units + 80 < cLine) : CallR X (.builtin "repr") (rRepV K) := by
  subst e
  exact call_repV hg hu
/-! what a head tells of a class with a field -/
def exiB (K : PySem.W.Frag) (cn fn : Str) (bmB : List Value) (newId : String) : Bool :=
  PySem.W.excInitIn K (He.ga K cn) bmB newId && PySem.W.excOver K (He.ga K cn) bmB && He.eqO (PySem.W.findIn K (.ref (He.ga K cn)) "__setattr__") (some (some (.builtin "object.__setattr__"))) &&
  He.eqO (PySem.W.findIn K (.ref (He.ga K cn)) "__getattribute__") (some (some (.builtin "BaseException.__getattribute__"))) && He.eqO (PySem.W.findIn K (.ref (He.ga K cn)) "__getattr__") (some none) && He.eqO (PySem.W.findIn K (.ref (He.ga K cn)) fn) (some none) &&
  He.eqO (PySem.W.takerIn K (He.ga K cn) fn) (some none) && He.eqO (PySem.W.findIn K (.ref (He.ga K cn)) "__init__") (some (some (.ref (He.ma K (He.ga K cn) "__init__")))) && decide (PySem.W.typeIn K (.ref (He.ma K (He.ga K cn) "__init__")) = some (.type "function")) &&
  PySem.W.isFn K (.ref (He.ma K (He.ga K cn) "__init__")) && PySem.W.keepIn K (.ref (He.ga K cn)) && decide (PySem.W.subIn K (.ref (He.ga K cn)) (.type "BaseException") = some true) && decide (PySem.W.typeIn K (.ref (He.ga K cn)) = some (.type "type")) && PySem.W.hasDictIn K (He.ga K cn)
theorem exi_ok {K : PySem.W.Frag} {mg : Str → Option Value} {cn fn qi : Str} {bmB : List Value} {newId : String} {pa : Arguments} {bo : List Stmt} {sc : Scope} {p1 p2 q1 q2 q3 q4 : Pos} (gC : mg cn = some (.ref (He.ga K cn))) (b : exiB K cn fn bmB newId = true)
    (F : ∃ fd, FunD K "__init__" qi pa bo sc [] [] (He.ma K (He.ga K cn) "__init__") fd) (hp : pa = PySem.ZExc.iA fn p1 p2) (hb : bo = PySem.ZExc.iB fn q1 q2 q3 q4) (hs : sc = PySem.ZExc.iS fn) :
    PySem.ZExc.ExI K mg cn fn qi bmB newId (He.ga K cn) (He.ma K (He.ga K cn) "__init__") := by
  subst hp hb hs
  obtain ⟨fd, F⟩ := F
  obtain ⟨oc, od, dV, kV, doc, pm, an, cdv, ct, osl, rfl, lk, hcd, hD, _⟩ := F.ex
  have hd : dV = .none := by
    rcases hD with ⟨_, e⟩ | ⟨e, _⟩
    · exact e
    · exact absurd rfl e
  subst hd
  unfold exiB at b
  simp only [Bool.and_eq_true, decide_eq_true_eq] at b
  obtain ⟨⟨⟨⟨⟨⟨⟨⟨⟨⟨⟨⟨⟨b1, b2⟩, b3⟩, b4⟩, b5⟩, b6⟩, b7⟩, b8⟩, b9⟩, b10⟩, b11⟩, b12⟩, b13⟩, b14⟩ := b
  exact ⟨gC, b1, b2, He.eqO_ok b3, He.eqO_ok b4, He.eqO_ok b5, He.eqO_ok b6, He.eqO_ok b7, He.eqO_ok b8, b9, b10, b11, b12, b13, b14, ⟨oc, od, kV, doc, pm, an, cdv, ct, osl, p1, p2, q1, q2, q3, q4, lk, hcd⟩⟩
def clsBody : Stmt → List Stmt
  | .ClassDef (body := b) .. => b
  | _ => []
theorem hu80_of {k : Nat} {A : Around} (r : Room k A) : A.units + 80 < cLine := by have := r.un; omega
section
variable {X : Cx}
/-- x(lambda: body), x as it stands behind the top -/
theorem pe_met {T : List (Addr × Str)} {TT : (XK → Hp → VK → Prop) → Hp → VK → Prop} {x a : Str} {c P : Addr} {k : Nat} {pg : Arguments} {bg : List Stmt} {sg : Scope} {fd : FuncData} {Ng : List Str}
    {params : Arguments} {body : Expr} {scope : Scope} {t : XK → TE} {p lpos pos : Pos} (F : FunD X.K x x pg bg sg [] [] (He.ga X.K x) fd) (hm : X.mg x = some (.ref (He.ga X.K x))) (hb : L2.Binds X.K fd [a] []) (Sg : FnScope Ng [a] sg) (hNg : Ng[0]? = some a) (hva : Vis sg a) (hr : Room (k + 2) X.A)
    (hG : ∀ cdv : Value, Room (k + 1) (X.A.deeper (envOfC x sg 0 (He.ga X.K x) cdv)) → GivesTo X Ng x sg (He.ga X.K x) cdv bg a (X.env.qual ++ "<lambda>") TT)
    (hg : Gl X x) (TB : TabB X.base X.mg c P) (hcode : X.env.code = .ref c) (hmT : (P, X.env.qual ++ "<lambda>") ∈ T) (hu : ∀ p ∈ T, p.1 = P → p.2 = X.env.qual ++ "<lambda>") (L : LamS X.env.scope scope) (hdef : defaultsOf params X.env = ([], []))
    (hbind : ∀ (q : Str) (cl : List (Str × Addr)) (pm cv ctv : Value), bindArgs (PySem.W.kla_fn "<lambda>" q params body scope cl pm cv ctv) ⟨[], []⟩ = pure [])
    (hbody : ∀ (A : Around) (outer : List Env) (s : Shared) (H : Hp) (E : XK) (f c' : Addr), Room k (A.deeper (lamEnv X scope s.heap.objs.size f c')) → PE (lamCx X A outer s H E scope f c') body (t E))
    (hdb : (x == ("__debug__" : Str)) = false := by decide) (hd : (a == ("__debug__" : Str)) = false := by decide) (hcd : (a == ("__classdict__" : Str)) = false := by decide) :
    PE X (.Call (.Name x p) [.Lambda params body scope lpos] [] pos) (tLam T TT t) := by
  obtain ⟨oc, od, dV, kV, doc, pm, an, cdv, ct, osl, rfl, lk, hcg, _, _⟩ := F.ex
  exact pe_lamcall hg hm F.kp lk hcg hb Sg hNg hva (hG cdv (hr.deeper _)) TB hcode hmT hu hr L hdef hbind hbody hdb hd hcd
end
end L2.Z

set_option Elab.async false
set_option linter.all false
set_option maxRecDepth 100000
set_option maxHeartbeats 4000000
namespace L2.Z
open PySem PySem.Spec PyProof.Rows LamX
theorem z_lam {T : List (Addr × Str)} {TT : (XK → Hp → VK → Prop) → Hp → VK → Prop} {t : XK → TE} {σ : L2.St} {H : Hp} {Q : VK} : tLam T TT t σ H Q = (Tabs T H ∧ ∀ H1, ExtN H H1 → Tabs T H1 → TT (fun E H' Q' => t E σ H' Q') H1 Q) := rfl
/-! ### what stays, but for the dice and the tables -/
def KN (no : List Addr) (H H' : Hp) : Prop := ∀ b o, b ∉ no → H b = some o → (∀ ps, o ≠ .tbl ps) → H' b = some o
theorem KN.refl (no : List Addr) (H : Hp) : KN no H H := fun _ _ _ h _ => h
theorem KN.trans {no : List Addr} {H H1 H2 : Hp} (a : KN no H H1) (b : KN no H1 H2) : KN no H H2 := fun c o n h t => b c o n (a c o n h t) t
theorem KN.ext {no : List Addr} {H H1 : Hp} (a : ExtN H H1) : KN no H H1 := fun c o _ h t => a c o h t
theorem KN.same {no : List Addr} {H H1 : Hp} (a : Same H H1) : KN no H H1 := fun c o _ h _ => a c o h
theorem KN.new {no : List Addr} {p : Addr} {H : Hp} {o : HO} (n : H p = none) : KN no H (upd H p o) := fun b u _ h _ => by rw [upd_ne (ne_of_none h n)]; exact h
theorem ExtN.same {H H1 : Hp} (a : Same H H1) : ExtN H H1 := fun c o h _ => a c o h
/-! plain data, none of it at no -/
mutual
def Pl (H : Hp) (no : List Addr) : PyData → V → Prop
  | .none, v => v = .non
  | .bool b, v => v = .bl b
  | .int i, v => v = .int i
  | .str x, v => v = .str x
  | .list ds, v => ∃ a xs, v = .ref a ∧ a ∉ no ∧ H a = some (.lst xs) ∧ PlAll H no ds xs
  | .tuple ds, v => ∃ a xs, v = .ref a ∧ a ∉ no ∧ H a = some (.tup xs) ∧ PlAll H no ds xs
  | .dict kvs, v => kvs = [] ∧ ∃ a, v = .ref a ∧ a ∉ no ∧ H a = some (.dK [])
def PlAll (H : Hp) (no : List Addr) : List PyData → List V → Prop
  | [], xs => xs = []
  | d :: ds, xs => ∃ y ys, xs = y :: ys ∧ Pl H no d y ∧ PlAll H no ds ys
end
mutual
theorem Pl.mono {H H' : Hp} {no : List Addr} (k : KN no H H') : ∀ (d : PyData) (v : V), Pl H no d v → Pl H' no d v
  | .none, _, h => by rw [Pl] at h ⊢; exact h
  | .bool b, _, h => by rw [Pl] at h ⊢; exact h
  | .int i, _, h => by rw [Pl] at h ⊢; exact h
  | .str x, _, h => by rw [Pl] at h ⊢; exact h
  | .list ds, _, h => by
    rw [Pl] at h ⊢
    obtain ⟨a, xs, e, n, q, r⟩ := h
    exact ⟨a, xs, e, n, k a _ n q (fun _ z => by cases z), PlAll.mono k ds xs r⟩
  | .tuple ds, _, h => by
    rw [Pl] at h ⊢
    obtain ⟨a, xs, e, n, q, r⟩ := h
    exact ⟨a, xs, e, n, k a _ n q (fun _ z => by cases z), PlAll.mono k ds xs r⟩
  | .dict kvs, _, h => by
    rw [Pl] at h ⊢
    obtain ⟨e0, a, e, n, q⟩ := h
    exact ⟨e0, a, e, n, k a _ n q (fun _ z => by cases z)⟩
theorem PlAll.mono {H H' : Hp} {no : List Addr} (k : KN no H H') : ∀ (ds : List PyData) (xs : List V), PlAll H no ds xs → PlAll H' no ds xs
  | [], _, h => by rw [PlAll] at h ⊢; exact h
  | d :: ds, _, h => by
    rw [PlAll] at h ⊢
    obtain ⟨y, ys, e, a, b⟩ := h
    exact ⟨y, ys, e, Pl.mono k d y a, PlAll.mono k ds ys b⟩
end
mutual
theorem Pl.fresh {H : Hp} {no : List Addr} {L : Addr} (n : H L = none) : ∀ (d : PyData) (v : V), Pl H no d v → Pl H (L :: no) d v
  | .none, _, h => by rw [Pl] at h ⊢; exact h
  | .bool b, _, h => by rw [Pl] at h ⊢; exact h
  | .int i, _, h => by rw [Pl] at h ⊢; exact h
  | .str x, _, h => by rw [Pl] at h ⊢; exact h
  | .list ds, _, h => by
    rw [Pl] at h ⊢
    obtain ⟨a, xs, e, m, q, r⟩ := h
    exact ⟨a, xs, e, fun z => (List.mem_cons.mp z).elim (fun y => ne_of_none q n y) m, q, PlAll.fresh n ds xs r⟩
  | .tuple ds, _, h => by
    rw [Pl] at h ⊢
    obtain ⟨a, xs, e, m, q, r⟩ := h
    exact ⟨a, xs, e, fun z => (List.mem_cons.mp z).elim (fun y => ne_of_none q n y) m, q, PlAll.fresh n ds xs r⟩
  | .dict kvs, _, h => by
    rw [Pl] at h ⊢
    obtain ⟨e0, a, e, m, q⟩ := h
    exact ⟨e0, a, e, fun z => (List.mem_cons.mp z).elim (fun y => ne_of_none q n y) m, q⟩
theorem PlAll.fresh {H : Hp} {no : List Addr} {L : Addr} (n : H L = none) : ∀ (ds : List PyData) (xs : List V), PlAll H no ds xs → PlAll H (L :: no) ds xs
  | [], _, h => by rw [PlAll] at h ⊢; exact h
  | d :: ds, _, h => by
    rw [PlAll] at h ⊢
    obtain ⟨y, ys, e, a, b⟩ := h
    exact ⟨y, ys, e, Pl.fresh n d y a, PlAll.fresh n ds ys b⟩
end
mutual
theorem Pl.perm {H : Hp} {no no' : List Addr} (n : ∀ b, b ∈ no' → b ∈ no) : ∀ {d : PyData} {v : V}, Pl H no d v → Pl H no' d v
  | .none, _, h => by rw [Pl] at h ⊢; exact h
  | .bool b, _, h => by rw [Pl] at h ⊢; exact h
  | .int i, _, h => by rw [Pl] at h ⊢; exact h
  | .str x, _, h => by rw [Pl] at h ⊢; exact h
  | .list ds, _, h => by
    rw [Pl] at h ⊢
    obtain ⟨a, xs, e, m, q, r⟩ := h
    exact ⟨a, xs, e, fun z => m (n a z), q, PlAll.perm n r⟩
  | .tuple ds, _, h => by
    rw [Pl] at h ⊢
    obtain ⟨a, xs, e, m, q, r⟩ := h
    exact ⟨a, xs, e, fun z => m (n a z), q, PlAll.perm n r⟩
  | .dict kvs, _, h => by
    rw [Pl] at h ⊢
    obtain ⟨e0, a, e, m, q⟩ := h
    exact ⟨e0, a, e, fun z => m (n a z), q⟩
theorem PlAll.perm {H : Hp} {no no' : List Addr} (n : ∀ b, b ∈ no' → b ∈ no) : ∀ {ds : List PyData} {xs : List V}, PlAll H no ds xs → PlAll H no' ds xs
  | [], _, h => by rw [PlAll] at h ⊢; exact h
  | d :: ds, _, h => by
    rw [PlAll] at h ⊢
    obtain ⟨y, ys, e, a, b⟩ := h
    exact ⟨y, ys, e, Pl.perm n a, PlAll.perm n b⟩
end
mutual
theorem Pl.dp {K : PySem.W.Frag} {H : Hp} {no : List Addr} : ∀ (d : PyData) (v : V), Pl H no d v → d.hasDict = false → Dp K H v d
  | .none, _, h, _ => by rw [Pl] at h; subst h; exact .non
  | .bool b, _, h, _ => by rw [Pl] at h; subst h; exact .bl b
  | .int i, _, h, _ => by rw [Pl] at h; subst h; exact .int i
  | .str x, _, h, _ => by rw [Pl] at h; subst h; exact .str x
  | .list ds, _, h, n => by
    rw [Pl] at h
    obtain ⟨a, xs, rfl, _, q, r⟩ := h
    exact .lst (.inl (.inl q)) (PlAll.dp ds xs r (by simpa [PyData.hasDict] using n))
  | .tuple ds, _, h, n => by
    rw [Pl] at h
    obtain ⟨a, xs, rfl, _, q, r⟩ := h
    exact .tup (.inl (.inl q)) (PlAll.dp ds xs r (by simpa [PyData.hasDict] using n))
  | .dict kvs, _, h, n => by simp [PyData.hasDict] at n
theorem PlAll.dp {K : PySem.W.Frag} {H : Hp} {no : List Addr} : ∀ (ds : List PyData) (xs : List V), PlAll H no ds xs → PyData.hasDictAll ds = false → DpAll K H xs ds
  | [], _, h, _ => by rw [PlAll] at h; subst h; exact .nil
  | d :: ds, _, h, n => by
    rw [PlAll] at h
    obtain ⟨y, ys, rfl, a, b⟩ := h
    simp only [PyData.hasDictAll, Bool.or_eq_false_iff] at n
    exact .cons (Pl.dp d y a n.1) (PlAll.dp ds ys b n.2)
end
/-- may be shown -/
def repOk (d : PyData) : Bool := d.showable && (!d.hasDict || (match d with | .dict [] => true | _ => false)) && decide (d.depth ≤ 64) && decide (d.shown.length ≤ sizeLine) && PyData.strOk d.shown
theorem Pl.rep {K : PySem.W.Frag} {H : Hp} {no : List Addr} {d : PyData} {v : V} (p : Pl H no d v) (r : repOk d = true) : RepV K H v d.shown := by
  unfold repOk at r
  simp only [Bool.and_eq_true, Bool.or_eq_true, Bool.not_eq_true', decide_eq_true_eq] at r
  obtain ⟨⟨⟨⟨r1, r2⟩, r3⟩, r4⟩, _⟩ := r
  rcases r2 with h | h
  · exact .inl ⟨d, Pl.dp d v p h, r1, h, r3, r4, rfl⟩
  · match d, h, p with
    | .dict [], _, p =>
      rw [Pl] at p
      obtain ⟨_, a, rfl, _, q⟩ := p
      exact .inr ⟨a, rfl, q, rfl⟩
theorem repOk_str {d : PyData} (r : repOk d = true) : PyData.strOk d.shown = true := by
  unfold repOk at r
  exact (Bool.and_eq_true_iff.mp r).2
/-! lists of tuples of texts -/
def TS1 (H : Hp) : List V → List (List Str) → Prop := Paired fun v ss => ∃ p, v = V.ref p ∧ H p = some (.tup (ss.map V.str)) ∧ ss.all PyData.strOk = true
def Told (H : Hp) (L : Addr) (ws : List (List Str)) : Prop := ∃ xs, H L = some (.lst xs) ∧ TS1 H xs ws
theorem TS1.mono {H H' : Hp} {xs : List V} {ws : List (List Str)} (r : TS1 H xs ws) (h : ∀ p ys, H p = some (.tup ys) → H' p = some (.tup ys)) : TS1 H' xs ws := by
  unfold TS1 at r ⊢
  induction r with
  | nil => exact .nil
  | cons a _ ih =>
    obtain ⟨p, e, q, w⟩ := a
    exact .cons ⟨p, e, h p _ q, w⟩ ih
theorem TS1.len {H : Hp} {xs : List V} {ws : List (List Str)} (r : TS1 H xs ws) : xs.length = ws.length := Paired.length r
theorem TS1.app {H : Hp} {xs ys : List V} {ws us : List (List Str)} (r : TS1 H xs ws) (q : TS1 H ys us) : TS1 H (xs ++ ys) (ws ++ us) := by
  unfold TS1 at r q ⊢
  induction r with
  | nil => exact q
  | cons a _ ih => exact .cons a ih
theorem Told.ext {H H' : Hp} {L : Addr} {ws : List (List Str)} (t : Told H L ws) (e : ExtN H H') : Told H' L ws := by
  obtain ⟨xs, h, r⟩ := t
  exact ⟨xs, e L _ h (fun _ z => by cases z), r.mono fun p ys q => e p _ q (fun _ z => by cases z)⟩
theorem Told.same {H H' : Hp} {L : Addr} {ws : List (List Str)} (t : Told H L ws) (e : Same H H') : Told H' L ws := t.ext (ExtN.same e)
/-- one more -/
theorem Told.put {H : Hp} {L p : Addr} {xs : List V} {ws : List (List Str)} {ss : List Str} (h : H L = some (.lst xs)) (r : TS1 H xs ws) (hp : H p = some (.tup (ss.map V.str))) (hw : ss.all PyData.strOk = true) : Told (upd H L (.lst (xs ++ [.ref p]))) L (ws ++ [ss]) := by
  have k : ∀ q ys, H q = some (.tup ys) → upd H L (.lst (xs ++ [.ref p])) q = some (.tup ys) := fun q ys e => by
    rw [upd_ne (fun z => by subst z; rw [h] at e; cases e)]
    exact e
  exact ⟨_, upd_same, (r.mono k).app (.cons ⟨p, rfl, k _ _ hp, hw⟩ .nil)⟩
def tsD (ws : List (List Str)) : List PyData := ws.map fun ss => .tuple (ss.map PyData.str)
theorem strs_dp {K : PySem.W.Frag} {H : Hp} : ∀ ss : List Str, DpAll K H (ss.map V.str) (ss.map PyData.str)
  | [] => .nil
  | s :: ss => .cons (.str s) (strs_dp ss)
theorem TS1.dp {K : PySem.W.Frag} {H : Hp} {xs : List V} {ws : List (List Str)} (r : TS1 H xs ws) : DpAll K H xs (tsD ws) := by
  unfold TS1 at r
  induction r with
  | nil => exact .nil
  | cons a _ ih =>
    obtain ⟨p, rfl, q, _⟩ := a
    exact .cons (.tup (.inl (.inl q)) (strs_dp _)) ih
theorem lay_strs : ∀ ss : List Str, ss.all PyData.strOk = true → PyData.canLayAll0 (ss.map PyData.str) = true
  | [], _ => by rw [List.map_nil, PyData.canLayAll0]
  | s :: ss, h => by
    simp only [List.all_cons, Bool.and_eq_true] at h
    rw [List.map_cons, PyData.canLayAll0, PyData.canLay0, h.1, lay_strs ss h.2]
    rfl
theorem depth_strs : ∀ ss : List Str, PyData.depthAll (ss.map PyData.str) = 0
  | [] => by rw [List.map_nil, PyData.depthAll]
  | s :: ss => by rw [List.map_cons, PyData.depthAll, PyData.depth, depth_strs ss]; rfl
theorem TS1.shaped {H : Hp} {xs : List V} {ws : List (List Str)} (r : TS1 H xs ws) : PyData.canLayAll0 (tsD ws) = true ∧ PyData.depthAll (tsD ws) ≤ 1 := by
  unfold TS1 at r
  unfold tsD
  induction r with
  | nil => exact ⟨by rw [List.map_nil, PyData.canLayAll0], by rw [List.map_nil, PyData.depthAll]; omega⟩
  | cons a _ ih =>
    obtain ⟨p, rfl, q, w⟩ := a
    refine ⟨by rw [List.map_cons, PyData.canLayAll0, PyData.canLay0, lay_strs _ w, ih.1]; rfl, ?_⟩
    rw [List.map_cons, PyData.depthAll, PyData.depth, depth_strs]
    exact Nat.max_le.mpr ⟨by omega, ih.2⟩
theorem Told.shaped {H : Hp} {L : Addr} {ws : List (List Str)} (t : Told H L ws) : SeqAt.shaped (.list (tsD ws)) = true := by
  obtain ⟨xs, _, r⟩ := t
  obtain ⟨a, b⟩ := r.shaped
  unfold SeqAt.shaped
  rw [PyData.canLay0, PyData.depth, a]
  simp
  omega
theorem Told.dp {K : PySem.W.Frag} {H : Hp} {L : Addr} {ws : List (List Str)} (t : Told H L ws) : Dp K H (.ref L) (.list (tsD ws)) := by
  obtain ⟨xs, h, r⟩ := t
  exact .lst (.inl (.inl h)) r.dp
theorem KN.put {no : List Addr} {L : Addr} {H : Hp} {o : HO} (h : L ∈ no) : KN no H (upd H L o) := fun b u n e _ => by
  have hb : b ≠ L := fun z => by
    subst z
    exact n h
  rw [upd_ne hb]
  exact e
theorem KN.less {no no' : List Addr} {H H' : Hp} (k : KN no H H') (h : ∀ b, b ∈ no → b ∈ no') : KN no' H H' := fun b o n e t => k b o (fun z => n (h b z)) e t
theorem KN.drop {no : List Addr} {L : Addr} {H0 H H' : Hp} (k0 : KN no H0 H) (n : H0 L = none) (k : KN (L :: no) H H') : KN no H0 H' := fun b o m e t => k b o (fun z => (List.mem_cons.mp z).elim (fun y => ne_of_none e n y) m) (k0 b o m e t) t
theorem Tabs.keep {T : List (Addr × Str)} {D : Addr} {H H' : Hp} {xs : List V} (t : Tabs T H) (hD : H D = some (.lst xs)) (k : ∀ b o, b ≠ D → H b = some o → H' b = some o) : Tabs T H' := fun p hp => by
  obtain ⟨ps, h1, h2, h3⟩ := t p hp
  have ne : ∀ {b : Addr} {o : HO}, H b = some o → o ≠ .lst xs → b ≠ D := fun {b o} e n z => by
    subst z
    rw [hD] at e
    exact n (Option.some.inj e).symm
  refine ⟨ps, k _ _ (ne h1 (fun z => by cases z)) h1, h2, fun pos cv hc => ?_⟩
  obtain ⟨c, e1, e2⟩ := h3 pos cv hc
  refine ⟨c, e1, k _ _ (ne e2 (fun z => ?_)) e2⟩
  unfold CodeO at z
  cases z
end L2.Z

set_option Elab.async false
set_option linter.all false
set_option maxRecDepth 100000
set_option maxHeartbeats 4000000
namespace L2.Z
open PySem PySem.Spec PyProof.Rows LamX
/-! ### a local that holds one of several defs is called -/
def tCallS (i : Nat) (S : Addr → Sp → Prop) (E : XK) (t : TA) : TE := fun σ H Q => ∃ f sp, σ[i]? = some (some (.ref f)) ∧ S f sp ∧ t σ H fun vs H1 => sp vs H1 Q E
theorem pe_callS {X : Cx} {CX : CXT} {i : Nat} {x : Str} {p pos : Pos} {e : Expr} {es : List Expr} {t : TA} {E : XK} {S : Addr → Sp → Prop}
    (A : ∀ f sp, S f sp → ∃ (k : Nat) (fd : FuncData) (ps : List Str), Room k X.A ∧ FnOk X.prog X.w X.K X.mg X.base CX k f fd ps sp ∧ PySem.W.keepIn X.K (.ref f) = true ∧ L2.Binds X.K fd ps [])
    (hN : X.N[i]? = some x) (hv : Vis X.env.scope x) (hx : Passes CX X E) (ha : PA X (e :: es) t)
    (hdb : (x == ("__debug__" : Str)) = false := by decide) (hcd : (x == ("__classdict__" : Str)) = false := by decide)
    (he : starEach (e :: es) X.env = (false, eval e X.env) :: starEach es X.env := by rfl) (hpl : (backTo pos (starEach es X.env)).any (·.1) = false := by rfl) : PE X (.Call (.Name x p) (e :: es) [] pos) (tCallS i S E t) := by
  refine ⟨fun pins s σ H Q I h => ?_⟩
  obtain ⟨f, sp, hs, hS, ht⟩ := h
  obtain ⟨k, fd, ps, hr, F, hk, hb⟩ := A f sp hS
  refine wpAny_Call_Name_kw (thn ((pe_var (pos := p) hN hv hdb hcd).run pins s σ H (fun v H1 => v = .ref f ∧ H1 = H) I ⟨.ref f, hs, rfl, rfl⟩) fun u s1 ⟨v, H1, I1, r1, q1⟩ => ?_)
  obtain ⟨rfl, rfl⟩ := q1
  cases r1
  refine PySem.W.callWith_K (h₀ := X.base) I.ok.mod.kin hk (thn (ha.run pos pins s1 σ _ _ I1 ht) fun us s2 ⟨vs, H2, I2, r, q⟩ => ⟨I2.kIn, ?_⟩) he hpl
  have q2 : sp (vs ++ []) H2 Q E := by
    rw [List.append_nil]; exact q
  exact run_fn F hr hb .nil hx I2 r q2
theorem z_callS {i : Nat} {S : Addr → Sp → Prop} {E : XK} {t : TA} {σ : L2.St} {H : Hp} {Q : VK} : tCallS i S E t σ H Q = tVar i σ H (fun v _ => ∃ f sp, v = .ref f ∧ S f sp ∧ t σ H fun vs H1 => sp vs H1 Q E) :=
  propext ⟨fun ⟨f, sp, h, r⟩ => ⟨_, h, f, sp, rfl, r⟩, fun ⟨v, h, f, sp, e, r⟩ => ⟨f, sp, by rw [← e]; exact h, r⟩⟩
def rAddS : V → V → Hp → VK → Prop := fun x y H Q => ∃ i j, x = .str i ∧ y = .str j ∧ i.length + j.length ≤ sizeLine ∧ Q (.str (i ++ j)) H
end L2.Z

set_option Elab.async false
set_option linter.all false
set_option maxRecDepth 100000
set_option maxHeartbeats 2000000
namespace L2.Z
open PySem PySem.Spec PyProof.Rows
/-- how many ints a set comprehension makes; F stands for the set with these members and so many -/
def tLenSc (wi : TI) (g : TG) (tt : TT) (te : TE) (vs : List Nat) : TE := fun σ H Q =>
  wi σ H fun J H1 => ∀ (D : Addr) (F : (Int → Bool) → Nat → HO), H1 D = none →
    ∃ W : Nat → Nat → Hp → Prop, (∃ m, W 0 m (upd H1 D (F (fun _ => false) 0))) ∧
      ∀ i m H2, W i m H2 → (J.stop i H2 ∧ ∃ S n, H2 D = some (F S n) ∧ Q (.int (n : Int)) H2) ∨
        (J.go i H2 ∧ ∃ N : Hp → Prop, (∀ H', N H' → ∃ m', m' < m ∧ W (i + 1) m' H') ∧
          ∀ x H3, J.yld i H2 x H3 → g x (wipe σ vs) H3 fun σ4 H4 => wipe σ4 vs = wipe σ vs ∧
            tt σ4 H4 fun b H5 => if b = true then te σ4 H5 fun y H6 => ∃ (c : Int) (S : Int → Bool) (n : Nat), y = .int c ∧ H6 D = some (F S n) ∧ n + 1 < scanBound ∧
              N (upd H6 D (F (fun k => S k || decide (k = c)) (if S c = true then n else n + 1))) else N H5)
def LenW (J : It) (H1 : Hp) (g : TG) (tt : TT) (te : TE) (vs : List Nat) (σ : St) (Q : VK) : Prop := tLenSc (fun _ _ R => R J H1) g tt te vs σ H1 Q
theorem z_lenSc {wi : TI} {g : TG} {tt : TT} {te : TE} {vs : List Nat} {σ : St} {H : Hp} {Q : VK} : tLenSc wi g tt te vs σ H Q = wi σ H fun J H1 => LenW J H1 g tt te vs σ Q := rfl
/-- over a tuple, all members the same int -/
theorem len_one {K : PySem.W.Frag} {a : Addr} {xs : List V} {g : TG} {te : TE} {vs : List Nat} {σ : St} {H1 : Hp} {Q : VK} {C0 : Int} (hT : H1 a = some (.tup xs)) (h1 : 1 ≤ xs.length)
    (turn : ∀ (i : Nat) (x : V) (H' : Hp), xs[i]? = some x → Same H1 H' → ∀ (Qo : VK) (N : Hp → Prop), Qo (.int C0) H' → g x (wipe σ vs) H' fun σ2 H2 => wipe σ2 vs = wipe σ vs ∧ tYes σ2 H2 fun b H3 => if b = true then te σ2 H3 Qo else N H3)
    (fin : ∀ H', Same H1 H' → Q (.int 1) H') : LenW (Itt K a) H1 g tYes te vs σ Q := by
  intro D F hD
  have sq : ∀ {H : Hp}, H a = some (.tup xs) → SqT K H a xs := fun h => .inl (.inl h)
  refine ⟨fun i m H => m = xs.length - i ∧ i ≤ xs.length ∧ Same H1 H ∧ ∃ S n, H D = some (F S n) ∧ (i = 0 → n = 0 ∧ S C0 = false) ∧ (0 < i → n = 1 ∧ S C0 = true), ⟨xs.length, by simp, Nat.zero_le _, fun b u h => by rw [upd_ne (ne_of_none h hD)]; exact h, _, _, upd_same, fun _ => ⟨rfl, rfl⟩, fun h => absurd h (by omega)⟩, ?_⟩
  rintro i m H2 ⟨rfl, hi, s, S, n, hS, h0, hp⟩
  by_cases hlt : i < xs.length
  · refine .inr ⟨⟨xs, xs[i], sq (s _ _ hT), by simp [hlt]⟩, fun H' => Same H1 H' ∧ ∃ S n, H' D = some (F S n) ∧ n = 1 ∧ S C0 = true, fun H' ⟨s', S', n', e, e1, e2⟩ => ⟨xs.length - (i + 1), by omega, rfl, hlt, s', S', n', e, fun h => absurd h (by omega), fun _ => ⟨e1, e2⟩⟩, fun x H3 y => ?_⟩
    obtain ⟨e, y⟩ := y
    subst e
    have n1 : n + 1 < scanBound := by
      rcases Nat.eq_zero_or_pos i with e | e
      · rw [(h0 e).1]; decide
      · rw [(hp e).1]; decide
    refine turn i x _ (y xs (sq (s _ _ hT))) s (fun y H6 => ∃ (c : Int) (S : Int → Bool) (n : Nat), y = .int c ∧ H6 D = some (F S n) ∧ n + 1 < scanBound ∧ (Same H1 (upd H6 D (F (fun k => S k || decide (k = c)) (if S c = true then n else n + 1))) ∧ ∃ S' n', upd H6 D (F (fun k => S k || decide (k = c)) (if S c = true then n else n + 1)) D = some (F S' n') ∧ n' = 1 ∧ S' C0 = true)) _
      ⟨C0, S, n, rfl, hS, n1, same_mutD s hD, _, _, upd_same, by
        rcases Nat.eq_zero_or_pos i with e | e
        · rw [if_neg (by rw [(h0 e).2]; decide), (h0 e).1]
        · rw [if_pos (hp e).2, (hp e).1], by simp⟩
  · obtain rfl : i = xs.length := by omega
    obtain ⟨rfl, _⟩ := hp (by omega)
    exact .inl ⟨⟨xs, sq (s _ _ hT), Nat.le_refl _⟩, S, 1, hS, fin H2 s⟩
end L2.Z

set_option Elab.async false
set_option linter.all false
set_option maxRecDepth 100000
set_option maxHeartbeats 2000000
namespace L2.Z
open PySem PySem.Spec PyProof.Rows
/-- the new set of a comprehension, empty -/
abbrev emptyI (w : World) : Obj := { cls := .type "set", dict := none, data := .set #[] 0 (.fresh 0 0 (!w.params.followText "set-order")) }
theorem addI {X : Cx} {pins : List (Addr × Obj)} {σ : L2.St} {H : Hp} {z : Shared} {EE : Value → Shared → Prop} {D : Addr} {S : Int → Bool} {n : Nat} {y : Int} {v : Value} {QQ : Value → Shared → Prop} (J : Inv X pins σ H z) (rv : RelV (.int y) v) (hD : H D = some (SetO X.w D S n)) (few : n + 1 < scanBound)
    (go : ∀ z', Inv X pins σ (upd H D (SetO X.w D (fun k => S k || decide (k = y)) (if S y = true then n else n + 1))) z' → ∀ u, QQ u z') : wpAny (model X.prog X.w) X.A (call (.builtin "set.add") [.ref D, v]) QQ EE z := by
  obtain ⟨tk, rfl⟩ := rv
  refine setR_add (setO_get J hD) few fun h' sb new => go _ ?_ _
  obtain ⟨o, q1, q2, q3, ho, _⟩ := new
  exact J.write (e := D) (t' := z.toks + 1) (by rw [hD]; trivial) (.inl rfl) (fun b u hb e => (sb.2 b hb).trans e) ⟨o, ho⟩ (setO_new ⟨o, q1, q2, q3, ho, by assumption⟩)
theorem lenSc_core {X : Cx} {pins : List (Addr × Obj)} {s : Shared} {σ : L2.St} {H : Hp} {Q : VK} {elt tg iter : Expr} {ifs : List Expr} {scope : Scope} {own : List (PySem.Str × Nat)} {pos p2 : Pos} {wi : TI} {g : TG} {tt : TT} {te : TE} {Qf : Value → Shared → Prop} (cm : X.calm = true) (nd : X.N.Nodup) (J0 : Inv X pins σ H s) (pit : PI X tg iter wi) (bk : BlkOk X.N X.env.scope scope own)
    (pgs : ∀ (s : Shared) (H : Hp) (C : Addr) (cl : List (PySem.Str × Addr)) (fp : List Addr), PG (X.blk s H scope (compEnvC scope cl C X.env) fp) tg g) (pts : ∀ (s : Shared) (H : Hp) (C : Addr) (cl : List (PySem.Str × Addr)) (fp : List Addr), PTs (X.blk s H scope (compEnvC scope cl C X.env) fp) ifs tt)
    (pes : ∀ (s : Shared) (H : Hp) (C : Addr) (cl : List (PySem.Str × Addr)) (fp : List Addr), PE (X.blk s H scope (compEnvC scope cl C X.env) fp) elt te) (nofold : ∀ x, foldedSetIterable iter X.env x = pure x) (hq : tLenSc wi g tt te (own.map (·.2)) σ H Q)
    (out : ∀ D C z m H' S n, Inv X pins σ H' z → H' D = some (SetO X.w D S n) → Q (.int (n : Int)) H' → z.heap.Ns C m → FpOk X pins H' C → compPost (model X.prog X.w) X.A X.xe none Qf (.ref D) C (.ok .next) z) :
    wpAny (model X.prog X.w) X.A (comprehension (.SetComp elt [⟨tg, iter, ifs, 0⟩] scope pos) scope X.env p2 (newSet (.type "set")) false (eval iter X.env) none) Qf X.xe s := by
  have known : ∀ y ∈ scope.names, y.2 = .free → ∃ c, X.env.cells.lookup y.1 = some c := fun y hy e => (bk.free y hy e).elim (fun k => J0.ok.has _ (.inl k)) fun k => J0.ok.has _ (.inr k)
  refine wpAny_comprehension_free (use := none) rfl nofold (closure_ok known) bk.kind (fun y hy e => by rw [bk.uniq y hy, e]) ?_
  refine thn (pit.run pins s σ H _ J0 hq) fun v1 z1 k1 => thn k1 fun v2 z2 k2 => ?_
  obtain ⟨it, fp, tn, J, H2, rfl, J2, T, at2, fr2, q⟩ := k2
  refine PpSet.newSet_ok (newEnv_comp ?_)
  obtain ⟨D, eD⟩ : ∃ D, z2.heap.objs.size = D := ⟨_, rfl⟩
  have nD : H2 D = none := J2.hok.fresh (Nat.le_of_eq eD)
  obtain ⟨W, ⟨m0, w0⟩, turn⟩ := q D (SetO X.w D) nD
  rw [eD]
  obtain ⟨z3, e3⟩ : ∃ z3 : Shared, { z2 with heap := z2.heap.push (emptyI X.w) } = z3 := ⟨_, rfl⟩
  have hz3 : z3.heap = z2.heap.push (emptyI X.w) := by rw [← e3]
  have J3 : Inv X pins σ (upd H2 D (SetO X.w D (fun _ => false) 0)) z3 := by
    rw [← e3]
    refine J2.laid (t' := z2.toks) (fun b o e => Heap.get?_push_of_some _ e) (Nat.le_of_eq eD) ?_
    subst eD
    exact setO_new (setR_fresh X.w)
  have below : ∀ b ∈ fp, b < z2.heap.objs.size := fun b hb => Heap.lt_size (T.obj _ _ at2 b hb).choose_spec.1
  obtain ⟨H3, eH3⟩ : ∃ H3, upd H2 D (SetO X.w D (fun _ => false) 0) = H3 := ⟨_, rfl⟩
  rw [eH3] at J3 w0
  have fr3 : ∀ b ∈ fp, FpOk X pins H3 b ∧ b < z3.heap.objs.size := fun b hb => by
    have lt := below b hb
    refine ⟨⟨?_, (fr2 b hb).2⟩, by rw [hz3, Heap.size_push]; exact Nat.lt_succ_of_lt lt⟩
    rw [← eH3, upd_ne (Nat.ne_of_lt (by rw [← eD]; exact lt))]
    exact (fr2 b hb).1
  have at3 : tn 0 z3.heap := T.keep _ _ _ at2 fun b _ o e => hz3 ▸ Heap.get?_push_of_some _ e
  have J4 := block_start J3 bk nd fr3
  rw [e3]
  have pg := pgs z3 H3 z3.heap.objs.size (cellsFrom (z3.heap.objs.size + 1) scope.names (cloFrom X.env.cells scope.names [])) fp
  have pt := pts z3 H3 z3.heap.objs.size (cellsFrom (z3.heap.objs.size + 1) scope.names (cloFrom X.env.cells scope.names [])) fp
  have pe := pes z3 H3 z3.heap.objs.size (cellsFrom (z3.heap.objs.size + 1) scope.names (cloFrom X.env.cells scope.names [])) fp
  obtain ⟨ce, ece⟩ : ∃ ce, compEnvC scope (cellsFrom (z3.heap.objs.size + 1) scope.names (cloFrom X.env.cells scope.names [])) z3.heap.objs.size X.env = ce := ⟨_, rfl⟩
  obtain ⟨z4, ez4⟩ : ∃ z4 : Shared, { z3 with heap := pushCells (z3.heap.push { cls := .type "dict", data := .dict #[] }) scope.names } = z4 := ⟨_, rfl⟩
  show codeAny _ _ (.compStart _ 0 (.ref it) (.ref D) (compEnvC scope (cellsFrom (z3.heap.objs.size + 1) scope.names (cloFrom X.env.cells scope.names [])) z3.heap.objs.size X.env)) (compPost _ _ _ none Qf (.ref D) z3.heap.objs.size) { z3 with heap := pushCells (z3.heap.push { cls := .type "dict", data := .dict #[] }) scope.names }
  rw [ece] at J4 pg pt pe ⊢
  rw [ez4] at J4 ⊢
  have home : ce.locals = z3.heap.objs.size := by rw [← ece]; rfl
  have at4 : tn 0 z4.heap := T.keep _ _ _ at3 fun b _ o e => ez4 ▸ pushCells_keeps _ _ _ _ (Heap.get?_push_of_some _ e)
  have still : ∀ {σ' : L2.St} {H' : Hp} {z : Shared}, Inv (X.blk z3 H3 scope ce fp) [] σ' H' z → (∀ b ∈ fp, H' b = none) → ∀ b ∈ fp, FpOk (X.blk z3 H3 scope ce fp) [] H' b := fun {σ' H' z} K free b hb =>
    ⟨free b hb, (K.ok.exf b hb).1, K.ok.exfs b hb, .inl hb, fun x c => (K.ok.exf b hb).2 x c, fun p hp => (List.not_mem_nil (show p ∈ ([] : List (Addr × Obj)) from by simpa using hp)).elim⟩
  suffices lp : codeAny (model X.prog X.w) X.A (.compLoop (.SetComp elt [⟨tg, iter, ifs, 0⟩] scope pos) 0 (.ref it) (.ref D) ce) (compPost (model X.prog X.w) X.A X.xe none Qf (.ref D) z3.heap.objs.size) z4 by
    exact PpSet.codeAny_compStart_set lp (T.self X.A 0 _ _ _ at4 lp)
  refine PpSet.compLoopS_any (fun n z => ∃ i H', Inv (X.blk z3 H3 scope ce fp) [] (wipe σ (own.map (·.2))) H' z ∧ tn i z.heap ∧ (∀ b ∈ fp, H' b = none) ∧ W i n H') ?_ m0 ⟨0, H3, J4, at4, fun b hb => (fr3 b hb).1.1, w0⟩
  rintro n z5 ⟨i, H5, J5, at5, free5, w5⟩
  rcases turn i n H5 w5 with ⟨stop, S, k, hS, qq⟩ | ⟨more, Nx, down, step⟩
  · refine thnF (T.done (X.blk z3 H3 scope ce fp) rfl rfl rfl cm i [] z5 _ H5 (fun _ _ => False) J5 (still J5 free5) at5 stop) fun r z6 ⟨er, J6⟩ => ?_
    subst er
    have J7 : Inv X pins σ H5 z6 := J3.call' (ch := fp) J6.os J6.base J6.hok J6.bare fun b hb => ⟨(fr3 b hb).1.2.2.2.1, (fr3 b hb).1.2.1, (fr3 b hb).1.2.2.2.2.1, (fr3 b hb).1.2.2.2.2.2⟩
    have gone : H5 ce.locals = none := J6.free
    obtain ⟨m, hm, _⟩ := J6.loc
    replace hm : z6.heap.Ns ce.locals m := hm
    rw [home] at gone hm
    exact out D _ z6 m H5 S k J7 hS qq hm (J3.fpOk (Nat.le_refl _) gone)
  · refine thnF (T.item (X.blk z3 H3 scope ce fp) rfl rfl rfl cm i [] z5 _ H5 (fun _ _ => False) J5 (still J5 free5) at5 more) fun r z6 ⟨u, er, k6⟩ => ?_
    subst er
    refine thnF k6 fun _ z7 ⟨x, H7, J7, r7, y7, at7, free7⟩ => ?_
    refine thnF (pg.run _ z7 _ H7 x u _ (J7.pinned (still J7 free7) (T.obj _ _ at7)) r7 (step x H7 y7)) fun _ z8 ⟨σ8, H8, J8, same8, k8⟩ => ?_
    refine thnF (pt.run _ z8 σ8 H8 _ J8 k8) fun b z9 ⟨H9, J9, k9⟩ => ?_
    have again : ∀ {z : Shared} {H' : Hp}, Inv (X.blk z3 H3 scope ce fp) ([] ++ pinsAt fp z7.heap) σ8 H' z → Nx H' → ∃ m, m < n ∧ ∃ i H', Inv (X.blk z3 H3 scope ce fp) [] (wipe σ (own.map (·.2))) H' z ∧ tn i z.heap ∧ (∀ b ∈ fp, H' b = none) ∧ W i m H' := fun {z H'} K nx => by
      obtain ⟨m', lt, w'⟩ := down H' nx
      have held : ∀ b ∈ fp, ∀ o, z7.heap.get? b = some o → z.heap.get? b = some o ∧ H' b = none := fun b hb o e => by
        have := K.pin (b, o) (List.mem_append_right _ (List.mem_append_right _ (mem_pinsAt hb e)))
        exact ⟨this.1, this.2.1⟩
      refine ⟨m', lt, i + 1, H', (K.unpinned (pins := [])).weak (by rw [← same8, wipe_length]) (fun j v e => ?_), T.keep _ _ _ at7 fun b hb o e => (held b hb o e).1, fun b hb => ?_, w'⟩
      · rw [← same8] at e; exact (wipe_some e).1
      · obtain ⟨o, e, _⟩ := T.obj _ _ at7 b hb
        exact (held b hb o e).2
    cases b with
    | false =>
      simp only [Bool.false_eq_true, if_false] at k9 ⊢
      exact again J9 k9
    | true =>
      simp only [if_true] at k9 ⊢
      refine thnF (pe.run _ z9 σ8 H9 _ J9 k9) fun v z10 ⟨yv, H10, J10, r10, c, S, k, ey, hS, few, nx⟩ => ?_
      subst ey
      exact addI (X := X.blk z3 H3 scope ce fp) J10 r10 hS few fun z11 J11 _ => again J11 nx
theorem pe_lenSc {X : Cx} {elt tg iter : Expr} {ifs : List Expr} {scope : Scope} {own : List (PySem.Str × Nat)} {pos p cpos : Pos} {wi : TI} {g : TG} {tt : TT} {te : TE} (gl : Gl X "len") (mm : X.mg "len" = none) (_bt : True) (cm : X.calm = true) (nd : X.N.Nodup) (pit : PI X tg iter wi) (bk : BlkOk X.N X.env.scope scope own)
    (pgs : ∀ (s : Shared) (H : Hp) (C : Addr) (cl : List (PySem.Str × Addr)) (fp : List Addr), PG (X.blk s H scope (compEnvC scope cl C X.env) fp) tg g) (pts : ∀ (s : Shared) (H : Hp) (C : Addr) (cl : List (PySem.Str × Addr)) (fp : List Addr), PTs (X.blk s H scope (compEnvC scope cl C X.env) fp) ifs tt)
    (pes : ∀ (s : Shared) (H : Hp) (C : Addr) (cl : List (PySem.Str × Addr)) (fp : List Addr), PE (X.blk s H scope (compEnvC scope cl C X.env) fp) elt te) (nofold : ∀ x, foldedSetIterable iter X.env x = pure x := by intro _; rfl) :
    PE X (.Call (.Name "len" p) [.SetComp elt [⟨tg, iter, ifs, 0⟩] scope pos] [] cpos) (tLenSc wi g tt te (own.map (·.2))) := by
  refine ⟨fun pins s σ H Q I hq => Call_ (ld_blt I gl mm boot_len ?_)⟩
  refine PyProof.Rows.callWith_builtin1 (PyProof.Rows.args_cons ?_ rfl) rfl rfl
  rw [PpSet.eval_SetComp]
  refine lenSc_core cm nd I pit bk pgs pts pes nofold hq fun D C z m H' S n J hS q hm f => ⟨m, hm, fun h'' sb => ?_⟩
  obtain ⟨f0, f1, f2, f3, f4, f5⟩ := f
  have J2 : Inv X pins σ H' { z with heap := h'' } := J.turned (t' := z.toks) (fun b o hb e => (sb.2 b hb).trans e) f0 f1 f3 f4 f5
  refine PyProof.Rows.args_nil ?_
  have R := setO_get J2 hS
  obtain ⟨o, es, ep, t, ho, hex, hd, _, _, _, hsz, hf, hn, _⟩ := R
  subst hn
  exact call_len_set ho hex hd hf (by unfold scanBound at hsz; omega) ⟨.int (es.size : Int), H', J2.tok _, ⟨_, rfl⟩, q⟩
end L2.Z

set_option Elab.async false
set_option linter.all false
set_option maxRecDepth 100000
set_option maxHeartbeats 2000000
namespace L2.Z
open PySem PySem.Spec PyProof.Rows
/-! zip of a list and a tuple, and of a tuple and a list -/
def SqB : Bool → PySem.W.Frag → Hp → Addr → List V → Prop
  | true => SqL
  | false => SqT
def IterB : Bool → Heap → Addr → Addr → Nat → Prop
  | true => fun h it a i => h.IsListIter it a i
  | false => fun h it a i => h.IsTupleIter it a i
def SeqB : Bool → Heap → Addr → Array Value → Prop
  | true => fun h a its => h.IsList a its
  | false => fun h a its => h.IsTuple a its
theorem IterB.live {b : Bool} {h : Heap} {it a : Addr} {i : Nat} (x : IterB b h it a i) : ∃ o, h.get? it = some o ∧ ∀ v, o.data ≠ .seq v ∧ True := by
  cases b <;> (obtain ⟨o, e, _, d⟩ := x; exact ⟨o, e, fun v => ⟨fun q => (by rw [d] at q; cases q), trivial⟩⟩)
theorem drawsB {P : Program} {w : World} {A : Around} {it a : Addr} (b : Bool) (hh : A.handled = none) (ne : a ≠ it) (its : Array Value) : Draws P w A it [it, a] its.size (fun i v => its[i]? = some v) (fun i h => IterB b h it a i ∧ SeqB b h a its) := by
  cases b
  · exact Draws.tuple hh it a ne its
  · exact Draws.list hh it a ne its
theorem seqB {X : Cx} {pins : List (Addr × Obj)} {σ : L2.St} {H : Hp} {s : Shared} {a : Addr} {xs : List V} (b : Bool) (J : Inv X pins σ H s) (q : SqB b X.K H a xs) : ∃ its : List Value, Vals xs its ∧ SeqB b s.heap a its.toArray ∧ a < s.heap.objs.size := by
  cases b
  · obtain ⟨its, rv, p, _⟩ := J.tuple q
    obtain ⟨o, ho, _⟩ := id p
    exact ⟨its, rv, p, Heap.lt_size ho⟩
  · obtain ⟨its, rv, p, _⟩ := J.list q
    exact ⟨its, rv, p.isList, p.lt⟩
theorem injB {X : Cx} {pins : List (Addr × Obj)} {σ : L2.St} {H : Hp} {s : Shared} {a : Addr} {xs ys : List V} (b : Bool) (J : Inv X pins σ H s) (q : SqB b X.K H a xs) (q2 : SqB b X.K H a ys) : xs = ys := by
  cases b
  · exact J.tuple_inj q q2
  · exact J.list_inj q q2
def ItzB (b1 b2 : Bool) (K : PySem.W.Frag) (a b : Addr) : It where
  go i H := ∃ (xs ys : List V) (x y : V), SqB b1 K H a xs ∧ SqB b2 K H b ys ∧ xs[i]? = some x ∧ ys[i]? = some y
  yld i H v H' := ∃ T x y, v = .ref T ∧ H T = none ∧ H' = upd H T (.tup [x, y]) ∧ (∀ xs, SqB b1 K H a xs → xs[i]? = some x) ∧ ∀ ys, SqB b2 K H b ys → ys[i]? = some y
  stop i H := ∃ xs ys : List V, SqB b1 K H a xs ∧ SqB b2 K H b ys ∧ xs.length ≥ i ∧ ys.length ≥ i ∧ (xs.length = i ∨ ys.length = i)
structure Zp5 (z TI TO i1 i2 a b : Addr) : Prop where
  q1 : TI ≠ z
  q2 : TO ≠ z
  q3 : TI ≠ TO
  q4 : TI ≠ i1
  q5 : TI ≠ i2
  q6 : z ≠ i1
  q7 : z ≠ a
  q8 : TO ≠ i1
  q9 : TO ≠ a
  q10 : z ≠ i2
  q11 : z ≠ b
  q12 : TO ≠ i2
  q13 : TO ≠ b
  q14 : i1 ≠ i2
  q15 : i1 ≠ b
  q16 : i2 ≠ a
  q17 : a ≠ i1
  q18 : b ≠ i2
theorem Zp5.sep {z TI TO i1 i2 a b : Addr} (D : Zp5 z TI TO i1 i2 a b) : ZipSep2 z TI TO i1 i2 [i1, a] [i2, b] :=
  ⟨D.q1, D.q2, D.q3, D.q4, List.mem_cons_self, by simp [D.q6, D.q7], by simp [D.q8, D.q9], D.q5, List.mem_cons_self, by simp [D.q10, D.q11], by simp [D.q12, D.q13], by simp [D.q14, D.q15], by simp [D.q14.symm, D.q16]⟩
theorem turn_zipB {P : Program} {w : World} {K : PySem.W.Frag} {elts : List Expr} {kk : Nat} {tpos : Pos} (b1 b2 : Bool) {z TI TO i1 i2 a b : Addr} (D : Zp5 z TI TO i1 i2 a b) : Turn P w K (.Tuple elts kk tpos) (ItzB b1 b2 K a b) [z, TI, TO, i1, i2] z
    (fun i h => IsZip h z TI TO .none ∧ IsPair h TI (.ref i1) (.ref i2) ∧ (∃ x y, IsPair h TO x y) ∧ IterB b1 h i1 a i ∧ IterB b2 h i2 b i) where
  mem := List.mem_cons_self
  obj := fun i h ⟨hz, hI, ⟨x, y, hO⟩, s1, s2⟩ c hc => by
    simp only [List.mem_cons, List.not_mem_nil, or_false] at hc
    rcases hc with e | e | e | e | e <;> subst e
    · exact ⟨_, hz, fun v q => nomatch q⟩
    · exact ⟨_, hI, fun v q => nomatch q⟩
    · exact ⟨_, hO, fun v q => nomatch q⟩
    · cases b1 <;> (obtain ⟨o, e, _, d⟩ := s1; exact ⟨o, e, fun v q => by rw [d] at q; cases q⟩)
    · cases b2 <;> (obtain ⟨o, e, _, d⟩ := s2; exact ⟨o, e, fun v q => by rw [d] at q; cases q⟩)
  keep := fun i h h' ⟨hz, hI, ⟨x, y, hO⟩, s1, s2⟩ k => by
    refine ⟨k z (by simp) _ hz, k TI (by simp) _ hI, ⟨x, y, k TO (by simp) _ hO⟩, ?_, ?_⟩
    · cases b1 <;> exact s1.at fun o q => k i1 (by simp) o q
    · cases b2 <;> exact s2.at fun o q => k i2 (by simp) o q
  item := by
    intro X eP ew eK cm i pins s σ H EE I free ⟨hz, hI, ⟨x0, y0, hO⟩, s1, s2⟩ ⟨xs, ys, x, y, qx, qy, hx, hy⟩
    subst eP ew eK
    obtain ⟨l1, v1, p1, _⟩ := seqB b1 I qx
    obtain ⟨l2, v2, p2, _⟩ := seqB b2 I qy
    obtain ⟨u, hu, ru⟩ := v1.get hx
    obtain ⟨v, hv, rv⟩ := v2.get hy
    have zl : z < s.heap.objs.size := Heap.lt_size hz
    have g1 : i < l1.toArray.size := by simpa using (List.getElem?_eq_some_iff.mp hu).1
    have g2 : i < l2.toArray.size := by simpa using (List.getElem?_eq_some_iff.mp hv).1
    have hd := I.ok.hd cm
    refine wpAny_pyNext_zipD2_item D.sep (drawsB (A := X.A.in1) b1 hd D.q17 l1.toArray) (drawsB (A := X.A.in1) b2 hd D.q18 l2.toArray) hz hI hO ⟨s1, p1⟩ ⟨s2, p2⟩ g1 g2 fun c1 c2 h' tk e1 e2 z' O' t1 t2 hT _ hk => ?_
    obtain rfl : c1 = u := Option.some.inj (e1.symm.trans (by simpa using hu))
    obtain rfl : c2 = v := Option.some.inj (e2.symm.trans (by simpa using hv))
    refine ⟨_, rfl, wpAny_letOwnedTupleGo_zip (s := { s with heap := h', toks := tk }) z' fun h2 z2 sb => ?_⟩
    have kept : ∀ c o, c ∉ [z, TI, TO, i1, i2] → s.heap.get? c = some o → h2.get? c = some o := fun c o nc q => by
      simp only [List.mem_cons, List.not_mem_nil, or_false, not_or] at nc
      exact (sb.2 c nc.1).trans (hk c o nc.1 nc.2.2.1 nc.2.2.2.1 nc.2.2.2.2 q)
    have there : h2.get? s.heap.objs.size = some { cls := .type "tuple", data := .seq #[c1, c2] } := (sb.2 _ (Nat.ne_of_gt zl)).trans hT
    have J : Inv X pins σ (upd H s.heap.objs.size (.tup [x, y])) { s with heap := h2, toks := tk } :=
      I.turnedNew (ch := [z, TI, TO, i1, i2]) kept free (Nat.le_refl _) ⟨by show 2 ≤ sizeLine; decide, [c1, c2], .cons ru (.cons rv .nil), ⟨_, there, rfl, _, rfl⟩⟩
    refine ⟨.ref s.heap.objs.size, _, J, rfl, ⟨_, x, y, rfl, I.hok.fresh (Nat.le_refl _), rfl, fun l hl => injB b1 I hl qx ▸ hx, fun l hl => injB b2 I hl qy ▸ hy⟩, ⟨z2, (sb.2 _ D.q1).trans (hk _ _ D.q1 D.q3 D.q4 D.q5 hI), ⟨c1, c2, (sb.2 _ D.q2).trans O'⟩, ?_, ?_⟩, fun c hc => ?_⟩
    · have := t1.1
      cases b1 <;> exact this.at fun o q => (sb.2 _ D.q6.symm).trans q
    · have := t2.1
      cases b2 <;> exact this.at fun o q => (sb.2 _ D.q10.symm).trans q
    · have lt : c < s.heap.objs.size := by
        simp only [List.mem_cons, List.not_mem_nil, or_false] at hc
        rcases hc with e | e | e | e | e <;> subst e
        · exact zl
        · exact Heap.lt_size hI
        · exact Heap.lt_size hO
        · cases b1 <;> (obtain ⟨o, e, _⟩ := s1; exact Heap.lt_size e)
        · cases b2 <;> (obtain ⟨o, e, _⟩ := s2; exact Heap.lt_size e)
      rw [upd_ne (Nat.ne_of_lt lt)]
      exact (free c hc).1
  done := by
    intro X eP ew eK cm i pins s σ H EE I free ⟨hz, hI, ⟨x0, y0, hO⟩, s1, s2⟩ ⟨xs, ys, qx, qy, le1, le2, stop⟩
    subst eP ew eK
    obtain ⟨l1, v1, p1, _⟩ := seqB b1 I qx
    obtain ⟨l2, v2, p2, _⟩ := seqB b2 I qy
    have e1 := v1.length
    have e2 := v2.length
    have hd := I.ok.hd cm
    refine wpAny_pyNext_zipD2_end D.sep (drawsB (A := X.A.in1) b1 hd D.q17 l1.toArray) (drawsB (A := X.A.in1) b2 hd D.q18 l2.toArray) hz hI hO ⟨s1, p1⟩ ⟨s2, p2⟩ (by simp; omega) (by simp; omega) (by simp; omega) fun h' tk hk => ?_
    refine ⟨rfl, I.turnedL (t' := tk) (ch := [z, TI, TO, i1, i2]) (fun c o nc q => ?_) free⟩
    simp only [List.mem_cons, List.not_mem_nil, or_false, not_or] at nc
    exact hk c o nc.1 nc.2.2.1 nc.2.2.2.1 nc.2.2.2.2 q
  self := fun _ _ _ _ _ st h => wpAny_pyIter_zip st.1 h
def begO (b : Bool) (a : Addr) : Obj := { cls := .type (if b then "list_iterator" else "tuple_iterator"), data := .fields #[.ref a, .int 0 0] }
theorem beginsB (b : Bool) (a : Addr) (its : Array Value) : Begins (.ref a) (begO b a) fun h => SeqB b h a its := by
  cases b
  · exact begins_tuple a its
  · exact begins_list a its
def iZipX (K : PySem.W.Frag) (ta : TA) : TI := fun σ H R => ta σ H fun vs H1 => ∃ b1 b2 a b xs ys, vs = [.ref a, .ref b] ∧ SqB b1 K H1 a xs ∧ SqB b2 K H1 b ys ∧ R (ItzB b1 b2 K a b) H1
theorem pi_zipX {X : Cx} {e e2 : Expr} {ta : TA} {p pos tpos : Pos} {elts : List Expr} {kk : Nat} (gl : Gl X "zip") (mm : X.mg "zip" = none) (ha : PA X [e, e2] ta) (hs : starEach [e, e2] X.env = (false, eval e X.env) :: starEach [e2] X.env := by rfl) (pl : (backTo pos (starEach [e2] X.env)).any (·.1) = false := by rfl) :
    PI X (.Tuple elts kk tpos) (.Call (.Name "zip" p) [e, e2] [] pos) (iZipX X.K ta) := by
  refine ⟨fun pins s σ H R I h => Call_ (ld_blt I gl mm boot_zip (callWith_type1 (thn (ha.run pos pins s σ H _ I h) fun us s1 ⟨vs, H1, J, rs, b1, b2, a, b, xs, ys, ev, qx, qy, q⟩ => ?_) hs pl))⟩
  subst ev
  obtain _ | ⟨ra, _ | ⟨rb, rn⟩⟩ := rs
  cases rn
  cases ra
  cases rb
  obtain ⟨l1, v1, p1, m1⟩ := seqB b1 J qx
  obtain ⟨l2, v2, p2, m2⟩ := seqB b2 J qy
  have n1 : a ≠ s1.heap.objs.size := Nat.ne_of_lt m1
  refine zip_begins2 (beginsB b1 a l1.toArray) (beginsB b2 b l2.toArray) p1 p2 fun h' hz hI hO g1 g2 _ hk => wpAny_pyIter_zip hz ?_
  refine ⟨s1.heap.objs.size + 4, [s1.heap.objs.size + 4, s1.heap.objs.size + 2, s1.heap.objs.size + 3, s1.heap.objs.size, s1.heap.objs.size + 1], _, _, H1, rfl, J.kept (t' := s1.toks) hk, turn_zipB b1 b2 ?_, ⟨hz, hI, ⟨_, _, hO⟩, ?_, ?_⟩, fun c hc => ?_, q⟩
  · generalize s1.heap.objs.size = n at *
    constructor <;> first
      | (apply Nat.ne_of_gt; omega)
      | (apply Nat.ne_of_lt; omega)
      | (apply Nat.ne_of_gt; exact Nat.lt_add_right _ m1)
      | (apply Nat.ne_of_gt; exact Nat.lt_add_right _ m2)
      | (apply Nat.ne_of_lt; exact Nat.lt_add_right _ m1)
      | (apply Nat.ne_of_lt; exact Nat.lt_add_right _ m2)
      | exact Nat.ne_of_lt m1
      | exact Nat.ne_of_lt m2
      | exact Nat.ne_of_gt m1
      | exact Nat.ne_of_gt m2
  · cases b1 <;> exact ⟨_, g1, rfl, rfl⟩
  · cases b2 <;> exact ⟨_, g2, rfl, rfl⟩
  · have ge : s1.heap.objs.size ≤ c := by
      simp only [List.mem_cons, List.not_mem_nil, or_false] at hc
      rcases hc with e | e | e | e | e <;> subst e
      · exact Nat.le_add_right _ _
      · exact Nat.le_add_right _ _
      · exact Nat.le_add_right _ _
      · exact Nat.le_refl _
      · exact Nat.le_add_right _ _
    exact J.fpOk ge (J.hok.fresh ge)
theorem z_izipX {K : PySem.W.Frag} {σ : L2.St} {H : Hp} {tl : TA} {R : It → Hp → Prop} : iZipX K tl σ H R = tl σ H fun vs H1 => ∃ b1 b2 a b xs ys, vs = [.ref a, .ref b] ∧ SqB b1 K H1 a xs ∧ SqB b2 K H1 b ys ∧ R (ItzB b1 b2 K a b) H1 := rfl
/-- a loop over them -/
theorem for_zB {K : PySem.W.Frag} {b1 b2 : Bool} {a b : Addr} {xs ys : List V} {g : TG} {tb : TS} {D : Ends} {σ : L2.St} {H : Hp} {n : Nat} (hn : n = min xs.length ys.length) (Pv : Nat → L2.St → Hp → Prop) (h0 : Pv 0 σ H) (hl : ∀ i σ H, Pv i σ H → SqB b1 K H a xs ∧ SqB b2 K H b ys)
    (hs : ∀ (i : Nat) (x y : V) (T : Addr) (σ : L2.St) (H : Hp), xs[i]? = some x → ys[i]? = some y → Pv i σ H → H T = none → ∀ N : L2.St → Hp → Prop, (∀ σ' H', Pv (i + 1) σ' H' → N σ' H') → g (.ref T) σ (upd H T (.tup [x, y])) fun σ2 H2 => tb { D with nx := N, ct := N, bk := D.nx } σ2 H2) (hd : ∀ σ H, Pv n σ H → D.nx σ H) : ForW (ItzB b1 b2 K a b) H g tb D σ := by
  refine ⟨fun k m σ H => m + k = n ∧ Pv k σ H, ⟨n, by omega, h0⟩, ?_⟩
  rintro i m σ H ⟨em, p⟩
  obtain ⟨qx, qy⟩ := hl i σ H p
  by_cases hlt : i < n
  · have l1 : i < xs.length := by omega
    have l2 : i < ys.length := by omega
    refine .inr ⟨⟨xs, ys, _, _, qx, qy, List.getElem?_eq_getElem l1, List.getElem?_eq_getElem l2⟩, Pv (i + 1), fun σ' H' p' => ⟨n - (i + 1), by omega, by omega, p'⟩, fun v H' y => ?_⟩
    obtain ⟨T, x', y', rfl, hT, rfl, f1, f2⟩ := y
    exact hs i x' y' T σ H (f1 xs qx) (f2 ys qy) p hT _ fun _ _ h => h
  · obtain rfl : i = n := by omega
    exact .inl ⟨⟨xs, ys, qx, qy, by omega, by omega, by omega⟩, hd σ H p⟩
theorem sqB_same {b : Bool} {K : PySem.W.Frag} {H : Hp} {a : Addr} {xs : List V} (h : H a = some (if b then .lst xs else .tup xs)) : SqB b K H a xs := by
  cases b
  · exact .inl (.inl h)
  · exact .inl (.inl h)
/-- a comprehension over them, with an invariant of one's own -/
theorem comp_zB {K : PySem.W.Frag} {b1 b2 : Bool} {a b : Addr} {xs ys : List V} {g : TG} {tt : TT} {te : TE} {vs : List Nat} {σ : L2.St} {H1 : Hp} {Q : VK} {n : Nat} (hn : n = min xs.length ys.length) (Pv : Addr → Nat → Hp → Prop) (h0 : ∀ D, H1 D = none → Pv D 0 (upd H1 D (.lst []))) (hl : ∀ D i H, Pv D i H → SqB b1 K H a xs ∧ SqB b2 K H b ys)
    (turn : ∀ D i x y T H', H1 D = none → xs[i]? = some x → ys[i]? = some y → Pv D i H' → H' T = none → g (.ref T) (wipe σ vs) (upd H' T (.tup [x, y])) fun σ2 H2 => wipe σ2 vs = wipe σ vs ∧ tt σ2 H2 fun b H3 => if b = true then te σ2 H3 fun y H4 => OutOf D (Pv D (i + 1)) (some y) H4 else Pv D (i + 1) H3)
    (fin : ∀ D H', H1 D = none → Pv D n H' → Q (.ref D) H') : LcW (ItzB b1 b2 K a b) H1 g tt te vs σ Q := fun D hD => by
  refine ⟨fun i m H => m + i = n ∧ Pv D i H, ⟨n, by omega, h0 D hD⟩, ?_⟩
  rintro i m H ⟨em, p⟩
  obtain ⟨qx, qy⟩ := hl D i H p
  by_cases hlt : i < n
  · have l1 : i < xs.length := by omega
    have l2 : i < ys.length := by omega
    refine .inr ⟨⟨xs, ys, _, _, qx, qy, List.getElem?_eq_getElem l1, List.getElem?_eq_getElem l2⟩, Pv D (i + 1), fun H' p' => ⟨n - (i + 1), by omega, by omega, p'⟩, fun v H' y => ?_⟩
    obtain ⟨T, x', y', rfl, hT, rfl, f1, f2⟩ := y
    exact turn D i x' y' T H hD (f1 xs qx) (f2 ys qy) p hT
  · obtain rfl : i = n := by omega
    exact .inl ⟨⟨xs, ys, qx, qy, by omega, by omega, by omega⟩, fin D H hD p⟩
end L2.Z

set_option Elab.async false
set_option linter.all false
set_option maxRecDepth 100000
set_option maxHeartbeats 2000000
namespace L2.Z
open PySem PySem.Spec PyProof.Rows
/-! going through a list or a tuple -/
def ItB (b : Bool) (K : PySem.W.Frag) (a : Addr) : It := match b with
  | true => Itl K a
  | false => Itt K a
def iSeqB (K : PySem.W.Frag) (tl : TE) : TI := fun σ H R => tl σ H fun x H1 => ∃ (a : Addr) (b : Bool), x = .ref a ∧ (∃ xs, SqB b K H1 a xs) ∧ R (ItB b K a) H1
theorem pi_seqB {X : Cx} {tg l : Expr} {tl : TE} (hl : PE X l tl) : PI X tg l (iSeqB X.K tl) := by
  refine ⟨fun pins s σ H R I h => thn (hl.run pins s σ H _ I h) fun v s1 ⟨x, H1, J, r, a, b, e, ⟨xs, hq⟩, q⟩ => ?_⟩
  subst e
  cases r
  have room : ∀ z ∈ [s1.heap.objs.size], _ := fun z hz => by
    obtain rfl := List.mem_singleton.mp hz
    exact J.fpOk (Nat.le_refl _) (J.hok.fresh (Nat.le_refl _))
  cases b with
  | true =>
    obtain ⟨its, rv, p, _⟩ := J.list hq
    exact wpAny_pyIter_list p.isList ⟨s1.heap.objs.size, [s1.heap.objs.size], _, _, H1, rfl, J.kept (t' := s1.toks) fun z o e => Heap.get?_push_of_some _ e, turn_list a _, ⟨_, Heap.get?_push_size _ rfl, rfl, rfl⟩, room, q⟩
  | false =>
    obtain ⟨its, rv, p, _⟩ := J.tuple hq
    have p2 : s1.heap.IsTuple a its.toArray := p
    exact wpAny_pyIter_tuple p2 ⟨s1.heap.objs.size, [s1.heap.objs.size], _, _, H1, rfl, J.kept (t' := s1.toks) fun z o e => Heap.get?_push_of_some _ e, turn_tuple a _, ⟨_, Heap.get?_push_size _ rfl, rfl, rfl⟩, room, q⟩
theorem z_iseqB {K : PySem.W.Frag} {tl : TE} {σ : L2.St} {H : Hp} {R : It → Hp → Prop} : iSeqB K tl σ H R = tl σ H fun x H1 => ∃ (a : Addr) (b : Bool), x = .ref a ∧ (∃ xs, SqB b K H1 a xs) ∧ R (ItB b K a) H1 := rfl
end L2.Z
/-! Determinants of whole rows by their first row; exact division when rows are cleared without fractions. -/
namespace Lin
set_option autoImplicit false
set_option linter.unusedSimpArgs false

abbrev Row := Nat → Int

/-- the sum over the columns of `C`: sign, entry, and what `f` says of the columns that stay -/
def ex (f : List Nat → Int) (r : Row) : Int → List Nat → List Nat → Int
  | _, _, [] => 0
  | s, P, c :: C => s * r c * f (P ++ C) + ex f r (-s) (P ++ [c]) C

def det : List Row → List Nat → Int
  | [], [] => 1
  | [], _ :: _ => 0
  | r :: R, C => ex (det R) r 1 [] C

theorem ex_neg (f : List Nat → Int) (r : Row) : ∀ (C : List Nat) (s : Int) (P : List Nat), ex f r (-s) P C = - ex f r s P C
  | [], _, _ => by simp [ex]
  | c :: C, s, P => by
      simp only [ex, ex_neg f r C (-s) (P ++ [c])]
      grind

theorem ex_swap_pre (f : List Nat → Int) (r : Row) (a b : Nat)
    (hf : ∀ P S, f (P ++ a :: b :: S) = - f (P ++ b :: a :: S)) :
    ∀ (C : List Nat) (s : Int) (P Q : List Nat), ex f r s (P ++ a :: b :: Q) C = - ex f r s (P ++ b :: a :: Q) C
  | [], _, _, _ => by simp [ex]
  | c :: C, s, P, Q => by
      have h1 := ex_swap_pre f r a b hf C (-s) P (Q ++ [c])
      have h2 := hf P (Q ++ C)
      simp only [ex, List.append_assoc, List.cons_append] at *
      rw [h1, h2]; grind

theorem ex_swap (f : List Nat → Int) (r : Row) (a b : Nat)
    (hf : ∀ P S, f (P ++ a :: b :: S) = - f (P ++ b :: a :: S)) :
    ∀ (A : List Nat) (S : List Nat) (s : Int) (P : List Nat), ex f r s P (A ++ a :: b :: S) = - ex f r s P (A ++ b :: a :: S)
  | [], S, s, P => by
      have h := ex_swap_pre f r a b hf S (- -s) P []
      simp only [ex, List.nil_append, List.append_assoc, List.cons_append] at *
      rw [h]; grind
  | c :: A, S, s, P => by
      have h := ex_swap f r a b hf A S (-s) (P ++ [c])
      have h2 := hf (P ++ A) S
      simp only [ex, List.cons_append, List.append_assoc] at *
      rw [h, h2]; grind

theorem det_swap : ∀ (R : List Row) (P S : List Nat) (a b : Nat),
    det R (P ++ a :: b :: S) = - det R (P ++ b :: a :: S)
  | [], P, S, a, b => by cases P <;> simp [det]
  | r :: R, P, S, a, b => by
      simp only [det]
      exact ex_swap (det R) r a b (fun P S => det_swap R P S a b) P S 1 []

theorem det_two (R : List Row) (P S : List Nat) (a : Nat) : det R (P ++ a :: a :: S) = 0 := by
  have h := det_swap R P S a a; omega

theorem det_same (R : List Row) (a : Nat) : ∀ (S P : List Nat), det R (P ++ a :: (S ++ [a])) = 0
  | [], P => by simpa using det_two R P [] a
  | s :: S, P => by
      have h := det_swap R P (S ++ [a]) a s
      have h2 := det_same R a S (P ++ [s])
      simp only [List.append_assoc, List.cons_append, List.nil_append] at *
      rw [h, h2]; rfl

theorem det_mem (R : List Row) (C : List Nat) (a : Nat) (h : a ∈ C) : det R (C ++ [a]) = 0 := by
  obtain ⟨P, S, rfl⟩ := List.append_of_mem h
  simpa using det_same R a S P

/-- whole multiples of rows, added up at a column -/
def mix : List Int → List Row → Nat → Int
  | t :: T, r :: R, c => t * r c + mix T R c
  | _, _, _ => 0

theorem mix_add : ∀ (R : List Row) (T U : List Int), T.length = R.length → U.length = R.length →
    ∃ V : List Int, V.length = R.length ∧ ∀ c, mix V R c = mix T R c + mix U R c
  | [], T, U, _, _ => ⟨[], rfl, fun c => by cases T <;> cases U <;> simp_all [mix]⟩
  | r :: R, t :: T, u :: U, hT, hU => by
      obtain ⟨V, hV, h⟩ := mix_add R T U (by simpa using hT) (by simpa using hU)
      exact ⟨(t + u) :: V, by simp [hV], fun c => by simp only [mix, h]; grind⟩

theorem mix_mul (k : Int) : ∀ (R : List Row) (T : List Int), T.length = R.length →
    ∃ V : List Int, V.length = R.length ∧ ∀ c, mix V R c = k * mix T R c
  | [], T, _ => ⟨[], rfl, fun c => by cases T <;> simp_all [mix]⟩
  | r :: R, t :: T, hT => by
      obtain ⟨V, hV, h⟩ := mix_mul k R T (by simpa using hT)
      exact ⟨(k * t) :: V, by simp [hV], fun c => by simp only [mix, h]; grind⟩

theorem mix_zero : ∀ (R : List Row), ∃ V : List Int, V.length = R.length ∧ ∀ c, mix V R c = 0
  | [] => ⟨[], rfl, fun c => rfl⟩
  | r :: R => by
      obtain ⟨V, hV, h⟩ := mix_zero R
      exact ⟨0 :: V, by simp [hV], fun c => by simp [mix, h]⟩

theorem mix_mem : ∀ (R : List Row) (r : Row), r ∈ R → ∃ V : List Int, V.length = R.length ∧ ∀ c, mix V R c = r c
  | x :: R, r, h => by
      rcases List.mem_cons.1 h with rfl | h
      · obtain ⟨V, hV, h⟩ := mix_zero R
        exact ⟨1 :: V, by simp [hV], fun c => by simp [mix, h]⟩
      · obtain ⟨V, hV, h⟩ := mix_mem R r h
        exact ⟨0 :: V, by simp [hV], fun c => by simp [mix, h]⟩

/-- what the minors say of the columns ahead, and one column c at the end -/
theorem ex_last (f g : List Nat → Int) (r : Row) (R : List Row)
    (hf : ∀ C, ∃ T : List Int, T.length = R.length ∧ ∀ c, f (C ++ [c]) = mix T R c) :
    ∀ (C : List Nat) (s : Int) (P : List Nat),
      ∃ T : List Int, T.length = R.length ∧ ∃ t : Int, ∀ c, ex f r s P (C ++ [c]) = t * r c + mix T R c
  | [], s, P => by
      obtain ⟨T, hT, h⟩ := mix_zero R
      exact ⟨T, hT, s * f P, fun c => by simp only [List.nil_append, ex, h, List.append_nil]; grind⟩
  | x :: C, s, P => by
      obtain ⟨T, hT, t, h⟩ := ex_last f g r R hf C (-s) (P ++ [x])
      obtain ⟨U, hU, h2⟩ := hf (P ++ C)
      obtain ⟨U', hU', h2'⟩ := mix_mul (s * r x) R U hU
      obtain ⟨V, hV, h3⟩ := mix_add R T U' hT hU'
      refine ⟨V, hV, t, fun c => ?_⟩
      have h4 := h2 c
      simp only [List.append_assoc] at h4
      simp only [List.cons_append, ex, h, h3, h2', h4]; grind

theorem ex_lastx (f g : List Nat → Int) (r x : Row) (R : List Row)
    (hf : ∀ C, ∃ T : List Int, T.length = R.length ∧ ∀ c, f (C ++ [c]) = g C * x c + mix T R c) :
    ∀ (C : List Nat) (s : Int) (P : List Nat),
      ∃ T : List Int, T.length = R.length ∧ ∃ t : Int, ∀ c, ex f r s P (C ++ [c]) = t * r c + ex g r s P C * x c + mix T R c
  | [], s, P => by
      obtain ⟨T, hT, h⟩ := mix_zero R
      exact ⟨T, hT, s * f P, fun c => by simp only [List.nil_append, ex, h, List.append_nil]; grind⟩
  | y :: C, s, P => by
      obtain ⟨T, hT, t, h⟩ := ex_lastx f g r x R hf C (-s) (P ++ [y])
      obtain ⟨U, hU, h2⟩ := hf (P ++ C)
      obtain ⟨U', hU', h2'⟩ := mix_mul (s * r y) R U hU
      obtain ⟨V, hV, h3⟩ := mix_add R T U' hT hU'
      refine ⟨V, hV, t, fun c => ?_⟩
      have h4 := h2 c
      simp only [List.append_assoc] at h4
      simp only [List.cons_append, ex, h, h3, h2', h4]; grind

/-- the last row and the last column: the determinant ahead, times the entry, and whole multiples of the rows ahead -/
theorem det_last (x : Row) : ∀ (R : List Row) (C : List Nat),
    ∃ T : List Int, T.length = R.length ∧ ∀ c, det (R ++ [x]) (C ++ [c]) = det R C * x c + mix T R c
  | [], [] => ⟨[], rfl, fun c => by simp [det, ex, mix]⟩
  | [], c' :: C => by
      refine ⟨[], rfl, fun c => ?_⟩
      have h : ∀ (D : List Nat) (s : Int) (P : List Nat), (P ≠ [] ∨ 2 ≤ D.length) → ex (det []) x s P D = 0 := by
        intro D
        induction D with
        | nil => intros; rfl
        | cons d D ih =>
          intro s P hP
          have h1 : det [] (P ++ D) = 0 := by
            rcases P with _ | ⟨p, P⟩
            · rcases D with _ | ⟨e, D⟩
              · simp at hP
              · rfl
            · rfl
          simp only [ex, h1, ih (-s) (P ++ [d]) (Or.inl (by simp))]; simp
      have h1 := h (c' :: C ++ [c]) 1 [] (Or.inr (by simp))
      simp only [List.nil_append, det, h1, mix]; simp
  | r :: R, C => by
      obtain ⟨T, hT, t, h⟩ := ex_lastx (det (R ++ [x])) (det R) r x R (fun C => det_last x R C) C 1 []
      exact ⟨t :: T, by simp [hT], fun c => by simp only [List.cons_append, det, h, mix]; grind⟩


/-! rows cleared without fractions -/

def InSpan (R : List Row) (f : Row) : Prop := ∃ T : List Int, T.length = R.length ∧ ∀ c, f c = mix T R c

theorem InSpan.add {R : List Row} {f g : Row} (hf : InSpan R f) (hg : InSpan R g) : InSpan R (fun j => f j + g j) := by
  obtain ⟨T, hT, h⟩ := hf
  obtain ⟨U, hU, h2⟩ := hg
  obtain ⟨V, hV, h3⟩ := mix_add R T U hT hU
  exact ⟨V, hV, fun c => by show f c + g c = _; rw [h, h2, h3]⟩

theorem InSpan.mul {R : List Row} {f : Row} (k : Int) (hf : InSpan R f) : InSpan R (fun j => k * f j) := by
  obtain ⟨T, hT, h⟩ := hf
  obtain ⟨V, hV, h3⟩ := mix_mul k R T hT
  exact ⟨V, hV, fun c => by show k * f c = _; rw [h, h3]⟩

theorem InSpan.mem {R : List Row} {r : Row} (h : r ∈ R) : InSpan R r := by
  obtain ⟨V, hV, h3⟩ := mix_mem R r h
  exact ⟨V, hV, fun c => (h3 c).symm⟩

theorem mix_append : ∀ (R : List Row) (T : List Int) (r : Row) (t : Int), T.length = R.length →
    ∀ c, mix (T ++ [t]) (R ++ [r]) c = mix T R c + t * r c
  | [], [], r, t, _, c => by simp [mix]
  | x :: R, u :: T, r, t, h, c => by
      have h2 := mix_append R T r t (by simpa using h) c
      simp only [List.cons_append, mix, h2]; grind

theorem InSpan.push {R : List Row} {f : Row} (r : Row) (hf : InSpan R f) : InSpan (R ++ [r]) f := by
  obtain ⟨T, hT, h⟩ := hf
  exact ⟨T ++ [0], by simp [hT], fun c => by rw [mix_append R T r 0 hT, h]; simp⟩

theorem InSpan.pop {R : List Row} {f r : Row} (hf : InSpan (R ++ [r]) f) :
    ∃ t : Int, ∃ g : Row, InSpan R g ∧ ∀ j, f j = g j + t * r j := by
  obtain ⟨T, hT, h⟩ := hf
  rcases List.eq_nil_or_concat T with rfl | ⟨U, t, rfl⟩
  · simp at hT
  · have hU : U.length = R.length := by simpa using hT
    refine ⟨t, fun j => mix U R j, ⟨U, hU, fun _ => rfl⟩, fun j => ?_⟩
    rw [h, List.concat_eq_append, mix_append R U r t hU]

def low (R : List Row) (C : List Nat) (x : Row) : Row := fun j => det (R ++ [x]) (C ++ [j])
def unitAt (c : Nat) : Row := fun j => if j = c then 1 else 0
def upp (R : List Row) (C : List Nat) (c : Nat) : Row := fun j => det R C * unitAt c j - low R C (unitAt c) j

theorem low_mem (R : List Row) (C : List Nat) (x : Row) (c : Nat) (h : c ∈ C) : low R C x c = 0 := det_mem _ _ _ h

theorem low_span (R : List Row) (C : List Nat) (x : Row) : InSpan R (fun j => low R C x j - det R C * x j) := by
  obtain ⟨T, hT, h⟩ := det_last x R C
  exact ⟨T, hT, fun c => by simp only [low, h]; grind⟩

theorem upp_span (R : List Row) (C : List Nat) (c : Nat) : InSpan R (upp R C c) := by
  obtain ⟨T, hT, h⟩ := (low_span R C (unitAt c)).mul (-1)
  exact ⟨T, hT, fun j => by rw [← h]; simp only [upp]; grind⟩

theorem upp_self (R : List Row) (C : List Nat) (c : Nat) (h : c ∈ C) : upp R C c c = det R C := by
  simp only [upp, low_mem R C _ c h, unitAt, if_pos]; grind

theorem upp_other (R : List Row) (C : List Nat) (c j : Nat) (h : j ∈ C) (hn : j ≠ c) : upp R C c j = 0 := by
  simp only [upp, low_mem R C _ j h, unitAt, if_neg hn]; grind

/-- rows whose part at the columns can be undone -/
structure Good (R : List Row) (C : List Nat) : Prop where
  len : C.length = R.length
  ne : det R C ≠ 0
  none : ∀ f, InSpan R f → (∀ c ∈ C, f c = 0) → ∀ j, f j = 0

theorem Good.nil : Good [] [] where
  len := rfl
  ne := by simp [det]
  none := by
    rintro f ⟨T, hT, h⟩ _ j
    rw [h]; cases T <;> simp_all [mix]

theorem det_push (R : List Row) (C : List Nat) (r : Row) (q : Nat) : det (R ++ [r]) (C ++ [q]) = low R C r q := rfl

theorem Good.push {R : List Row} {C : List Nat} (hG : Good R C) {r : Row} {q : Nat} (hp : low R C r q ≠ 0) :
    Good (R ++ [r]) (C ++ [q]) where
  len := by simp [hG.len]
  ne := hp
  none := by
    intro f hf hz j
    obtain ⟨t, g, hg, hfg⟩ := hf.pop
    have hs := ((hg.mul (det R C)).add ((low_span R C r).mul (-t)))
    have hz2 := hG.none _ hs (fun c hc => by
      have h1 := hz c (by simp [hc])
      have h2 := low_mem R C r c hc
      rw [hfg] at h1
      rw [h2]
      have h3 : det R C * (g c + t * r c) = 0 := by rw [h1]; simp
      grind)
    have h1 : ∀ j, det R C * f j = t * low R C r j := fun j => by
      have h := hz2 j
      rw [hfg]; grind
    have h2 := h1 q
    rw [hz q (by simp)] at h2
    have h3 : t = 0 := by
      have h4 : t * low R C r q = 0 := by rw [← h2]; simp
      rcases Int.mul_eq_zero.1 h4 with h | h
      · exact h
      · exact absurd h hp
    have h4 := h1 j
    rw [h3, Int.zero_mul] at h4
    rcases Int.mul_eq_zero.1 h4 with h | h
    · exact absurd h hG.ne
    · exact h

theorem Good.eq {R : List Row} {C : List Nat} (hG : Good R C) {f g : Row} (hf : InSpan R f) (hg : InSpan R g)
    (h : ∀ c ∈ C, f c = g c) (j : Nat) : f j = g j := by
  have h2 := hG.none _ (hf.add (hg.mul (-1))) (fun c hc => by rw [h c hc]; grind) j
  omega

theorem Good.low_step {R : List Row} {C : List Nat} (hG : Good R C) {r : Row} {q : Nat} (hp : low R C r q ≠ 0) (x : Row) (j : Nat) :
    low R C r q * low R C x j - low R C x q * low R C r j = det R C * low (R ++ [r]) (C ++ [q]) x j := by
  have hG2 := hG.push hp
  have h1 : InSpan (R ++ [r]) (fun j => low R C r q * low R C x j - low R C x q * low R C r j - det R C * low (R ++ [r]) (C ++ [q]) x j) := by
    have a := ((low_span R C x).push r).mul (low R C r q)
    have b := ((low_span R C r).push r).mul (- low R C x q)
    have c := (low_span (R ++ [r]) (C ++ [q]) x).mul (- det R C)
    have e := (InSpan.mem (R := R ++ [r]) (r := r) (by simp)).mul (- low R C x q * det R C)
    obtain ⟨T, hT, h⟩ := ((a.add b).add c).add e
    refine ⟨T, hT, fun j => ?_⟩
    rw [← h, det_push]; simp only []; grind
  have h2 := hG2.none _ h1 (fun c hc => by
    rw [low_mem (R ++ [r]) (C ++ [q]) x c hc]
    rcases List.mem_append.1 hc with h | h
    · rw [low_mem R C x c h, low_mem R C r c h]; grind
    · rw [List.mem_singleton.1 h]; grind) j
  omega

theorem Good.not_mem {R : List Row} {C : List Nat} {r : Row} {q : Nat} (hp : low R C r q ≠ 0) {c : Nat} (hc : c ∈ C) : c ≠ q := by
  rintro rfl
  exact hp (low_mem R C r c hc)

theorem Good.upp_step {R : List Row} {C : List Nat} (hG : Good R C) {r : Row} {q : Nat} (hp : low R C r q ≠ 0) {c : Nat} (hc : c ∈ C) (j : Nat) :
    low R C r q * upp R C c j - upp R C c q * low R C r j = det R C * upp (R ++ [r]) (C ++ [q]) c j := by
  have hG2 := hG.push hp
  have hcq : c ≠ q := Good.not_mem hp hc
  have h1 : InSpan (R ++ [r]) (fun j => low R C r q * upp R C c j - upp R C c q * low R C r j - det R C * upp (R ++ [r]) (C ++ [q]) c j) := by
    have a := ((upp_span R C c).push r).mul (low R C r q)
    have b := ((low_span R C r).push r).mul (- upp R C c q)
    have d := (upp_span (R ++ [r]) (C ++ [q]) c).mul (- det R C)
    have e := (InSpan.mem (R := R ++ [r]) (r := r) (by simp)).mul (- upp R C c q * det R C)
    obtain ⟨T, hT, h⟩ := ((a.add b).add d).add e
    refine ⟨T, hT, fun j => ?_⟩
    rw [← h]; simp only []; grind
  have h2 := hG2.none _ h1 (fun c' hc' => by
    rcases List.mem_append.1 hc' with h | h
    · rw [low_mem R C r c' h]
      by_cases he : c' = c
      · subst he
        rw [upp_self R C c' h, upp_self (R ++ [r]) (C ++ [q]) c' hc', det_push]; grind
      · rw [upp_other R C c c' h he, upp_other (R ++ [r]) (C ++ [q]) c c' hc' he]; grind
    · rw [List.mem_singleton.1 h, upp_other (R ++ [r]) (C ++ [q]) c q (by simp) (Ne.symm hcq)]; grind) j
  omega

theorem Good.upp_new {R : List Row} {C : List Nat} (hG : Good R C) {r : Row} {q : Nat} (hp : low R C r q ≠ 0) (j : Nat) :
    upp (R ++ [r]) (C ++ [q]) q j = low R C r j := by
  have hG2 := hG.push hp
  have h1 : InSpan (R ++ [r]) (low R C r) := by
    have e := (InSpan.mem (R := R ++ [r]) (r := r) (by simp)).mul (det R C)
    obtain ⟨T, hT, h⟩ := ((low_span R C r).push r).add e
    exact ⟨T, hT, fun j => by rw [← h]; simp only []; grind⟩
  refine hG2.eq (upp_span _ _ q) h1 (fun c hc => ?_) j
  rcases List.mem_append.1 hc with h | h
  · rw [low_mem R C r c h, upp_other (R ++ [r]) (C ++ [q]) q c hc (Good.not_mem hp h)]
  · rw [List.mem_singleton.1 h, upp_self (R ++ [r]) (C ++ [q]) q (by simp), det_push]

end Lin
/-! Rows over a field: sums over lists, reduced rows, the rank of a table and of the turned table. -/
namespace Lin
set_option autoImplicit false
set_option linter.unusedSimpArgs false
section
variable {F : Type} [Lean.Grind.CommRing F]

def sm : List Nat → (Nat → F) → F
  | [], _ => 0
  | i :: L, f => f i + sm L f

theorem sm_congr {f g : Nat → F} : ∀ (L : List Nat), (∀ i ∈ L, f i = g i) → sm L f = sm L g
  | [], _ => rfl
  | i :: L, h => by
      simp only [sm, h i (by simp), sm_congr L (fun j hj => h j (by simp [hj]))]

theorem sm_zero {f : Nat → F} : ∀ (L : List Nat), (∀ i ∈ L, f i = 0) → sm L f = 0
  | [], _ => rfl
  | i :: L, h => by
      simp only [sm, h i (by simp), sm_zero L (fun j hj => h j (by simp [hj]))]; grind

theorem sm_add (f g : Nat → F) : ∀ L : List Nat, sm L (fun i => f i + g i) = sm L f + sm L g
  | [] => by simp only [sm]; grind
  | i :: L => by simp only [sm, sm_add f g L]; grind

theorem sm_mul (k : F) (f : Nat → F) : ∀ L : List Nat, sm L (fun i => k * f i) = k * sm L f
  | [] => by simp only [sm]; grind
  | i :: L => by simp only [sm, sm_mul k f L]; grind

theorem sm_swap (f : Nat → Nat → F) (M : List Nat) : ∀ L : List Nat, sm L (fun i => sm M (f i)) = sm M (fun j => sm L (fun i => f i j))
  | [] => by simp only [sm]; rw [sm_zero M (fun _ _ => rfl)]
  | i :: L => by
      simp only [sm, sm_swap f M L, ← sm_add]

theorem sm_delta (f : Nat → F) (c : Nat) : ∀ L : List Nat, L.Nodup → c ∈ L → (∀ i ∈ L, i ≠ c → f i = 0) → sm L f = f c
  | i :: L, hn, hc, h => by
      rcases List.nodup_cons.1 hn with ⟨h1, h2⟩
      rcases List.mem_cons.1 hc with rfl | hc
      · simp only [sm, sm_zero L (fun j hj => h j (by simp [hj]) (by rintro rfl; exact h1 hj))]; grind
      · have h3 := sm_delta f c L h2 hc (fun j hj => h j (by simp [hj]))
        simp only [sm, h3, h i (by simp) (by rintro rfl; exact h1 hc)]; grind

theorem sm_erase (f : Nat → F) (c : Nat) : ∀ L : List Nat, c ∈ L → sm L f = f c + sm (L.erase c) f
  | i :: L, h => by
      by_cases e : i = c
      · subst e; simp [sm, List.erase_cons_head]
      · have hc : c ∈ L := by rcases List.mem_cons.1 h with h | h; exact absurd h.symm e; exact h
        rw [List.erase_cons_tail (by simpa using e)]
        simp only [sm, sm_erase f c L hc]; grind

end
section
variable {F : Type} [Lean.Grind.Field F]

/-- more rows than columns: some multiples of them, not all 0, add up to 0 -/
theorem dep : ∀ (r : Nat) (L : List Nat) (V : Nat → Nat → F), L.Nodup → r < L.length →
    ∃ y : Nat → F, (∃ i ∈ L, y i ≠ 0) ∧ ∀ j, j < r → sm L (fun i => y i * V i j) = 0
  | 0, L, V, _, h => by
      cases L with
      | nil => simp at h
      | cons i L => exact ⟨fun _ => 1, ⟨i, by simp, Lean.Grind.Field.zero_ne_one.symm⟩, fun j hj => absurd hj (by omega)⟩
  | r + 1, L, V, hn, h => by
      by_cases hz : ∀ i ∈ L, V i r = 0
      · obtain ⟨y, hy, h2⟩ := dep r L V hn (by omega)
        refine ⟨y, hy, fun j hj => ?_⟩
        by_cases e : j = r
        · subst e; exact sm_zero L (fun i hi => by rw [hz i hi]; grind)
        · exact h2 j (by omega)
      · simp only [Classical.not_forall] at hz
        obtain ⟨i0, hi0, hne⟩ := hz
        have hlen : r < (L.erase i0).length := by rw [List.length_erase_of_mem hi0]; omega
        obtain ⟨y, ⟨i1, hi1, hy⟩, h2⟩ := dep r (L.erase i0) (fun i j => V i j - V i r * (V i0 r)⁻¹ * V i0 j) (hn.erase i0) hlen
        have hnm : ∀ i ∈ L.erase i0, i ≠ i0 := fun i hi => ((List.Nodup.mem_erase_iff hn).1 hi).1
        let t : F := sm (L.erase i0) (fun i => y i * V i r)
        have hsum : ∀ j, sm L (fun i => (if i = i0 then -(t * (V i0 r)⁻¹) else y i) * V i j) =
            -(t * (V i0 r)⁻¹) * V i0 j + sm (L.erase i0) (fun i => y i * V i j) := fun j => by
          rw [sm_erase _ i0 L hi0]
          simp only [if_pos]
          rw [sm_congr (L.erase i0) (g := fun i => y i * V i j) (fun i hi => by rw [if_neg (hnm i hi)])]
        refine ⟨fun i => if i = i0 then -(t * (V i0 r)⁻¹) else y i, ⟨i1, List.mem_of_mem_erase hi1, by show (if i1 = i0 then _ else _) ≠ _; rw [if_neg (hnm i1 hi1)]; exact hy⟩, fun j hj => ?_⟩
        rw [hsum j]
        by_cases e : j = r
        · subst e
          show -(t * (V i0 j)⁻¹) * V i0 j + t = 0
          grind
        · have h3 := h2 j (by omega)
          have h4 : sm (L.erase i0) (fun i => y i * (V i j - V i r * (V i0 r)⁻¹ * V i0 j)) =
              sm (L.erase i0) (fun i => y i * V i j) + -((V i0 r)⁻¹ * V i0 j) * t := by
            rw [← sm_mul, ← sm_add]
            exact sm_congr _ (fun i _ => by grind)
          rw [h4] at h3
          grind

/-- reduced rows, the row with the lead `c` being `ρ c` -/
structure Red (C : List Nat) (ρ : Nat → Nat → F) : Prop where
  nodup : C.Nodup
  one : ∀ c ∈ C, ρ c c = 1
  zero : ∀ c ∈ C, ∀ d ∈ C, d ≠ c → ρ c d = 0
  first : ∀ c ∈ C, ∀ j, j < c → ρ c j = 0

/-- a sum of multiples of the rows: those that it has at the leads -/
def In (C : List Nat) (ρ : Nat → Nat → F) (v : Nat → F) : Prop := ∀ j, v j = sm C (fun c => v c * ρ c j)

theorem Red.self {C : List Nat} {ρ : Nat → Nat → F} (h : Red C ρ) {c : Nat} (hc : c ∈ C) : In C ρ (ρ c) := fun j => by
  rw [sm_delta _ c C h.nodup hc (fun d hd hn => by rw [h.zero c hc d hd hn]; grind), h.one c hc]; grind

theorem In.add {C : List Nat} {ρ : Nat → Nat → F} {v w : Nat → F} (hv : In C ρ v) (hw : In C ρ w) : In C ρ (fun j => v j + w j) := fun j => by
  show v j + w j = _
  rw [hv j, hw j, ← sm_add]
  exact sm_congr _ (fun c _ => by grind)

theorem In.mul {C : List Nat} {ρ : Nat → Nat → F} {v : Nat → F} (k : F) (hv : In C ρ v) : In C ρ (fun j => k * v j) := fun j => by
  show k * v j = _
  rw [hv j, ← sm_mul]
  exact sm_congr _ (fun c _ => by grind)

theorem In.zero (C : List Nat) (ρ : Nat → Nat → F) : In C ρ (fun _ => 0) := fun j => by
  rw [sm_zero C (fun c _ => by grind)]

theorem In.sum {C : List Nat} {ρ : Nat → Nat → F} (y : Nat → F) (σ : Nat → Nat → F) : ∀ D : List Nat, (∀ d ∈ D, In C ρ (σ d)) →
    In C ρ (fun j => sm D (fun d => y d * σ d j))
  | [], _ => In.zero C ρ
  | d :: D, h => ((h d (by simp)).mul (y d)).add (In.sum y σ D (fun e he => h e (by simp [he])))

/-- the first number other than 0 of a sum of the rows stands at a lead -/
theorem Red.lead {C : List Nat} {ρ : Nat → Nat → F} (h : Red C ρ) {v : Nat → F} (hv : In C ρ v) {l : Nat} (hl : v l ≠ 0)
    (hf : ∀ j, j < l → v j = 0) : l ∈ C := by
  apply Classical.byContradiction
  intro hn
  apply hl
  rw [hv l]
  refine sm_zero C (fun c hc => ?_)
  by_cases hcl : c < l
  · rw [hf c hcl]; grind
  · rw [h.first c hc l (by rcases Nat.lt_or_ge l c with h | h; exact h; exact absurd (by omega : c = l) (fun e => hn (e ▸ hc)))]; grind

theorem one_ne : (1 : F) ≠ 0 := Lean.Grind.Field.zero_ne_one.symm

theorem Red.sub {C D : List Nat} {ρ σ : Nat → Nat → F} (h : Red C ρ) (k : Red D σ) (hi : ∀ d ∈ D, In C ρ (σ d)) : ∀ d ∈ D, d ∈ C :=
  fun d hd => h.lead (hi d hd) (by rw [k.one d hd]; exact one_ne) (k.first d hd)

/-- reduced rows with the same sums are the same -/
theorem Red.unique {C D : List Nat} {ρ σ : Nat → Nat → F} (h : Red C ρ) (k : Red D σ) (hi : ∀ d ∈ D, In C ρ (σ d)) (hj : ∀ c ∈ C, In D σ (ρ c)) :
    (∀ c, c ∈ C ↔ c ∈ D) ∧ ∀ c ∈ C, ∀ j, ρ c j = σ c j := by
  have h1 := h.sub k hi
  have h2 := k.sub h hj
  refine ⟨fun c => ⟨h2 c, h1 c⟩, fun c hc j => ?_⟩
  have hd := h2 c hc
  rw [hi c hd j, sm_delta _ c C h.nodup hc (fun d hd' hn => by rw [k.zero c hd d (h2 d hd') hn]; grind), k.one c hd]; grind

/-- so many rows with leads are no sums of multiples of fewer vectors -/
theorem Red.few {D : List Nat} {σ : Nat → Nat → F} (k : Red D σ) (B : List Nat) (u : Nat → Nat → F) (m : Nat → Nat → F)
    (hs : ∀ d ∈ D, ∀ j ∈ D, σ d j = sm B (fun b => m d b * u b j)) : D.length ≤ B.length := by
  apply Classical.byContradiction
  intro hn
  obtain ⟨y, ⟨d, hd, hy⟩, h⟩ := dep B.length D (fun d t => m d (B.getD t 0)) k.nodup (by omega)
  apply hy
  have h2 : ∀ b ∈ B, sm D (fun e => y e * m e b) = 0 := fun b hb => by
    obtain ⟨t, ht, e⟩ := List.getElem_of_mem hb
    have h3 := h t ht
    simpa [List.getD_eq_getElem?_getD, ht, e] using h3
  have h3 : sm D (fun e => y e * σ e d) = y d := by
    rw [sm_delta _ d D k.nodup hd (fun e he hne => by rw [k.zero e he d hd (Ne.symm hne)]; grind), k.one d hd]; grind
  rw [← h3, sm_congr D (g := fun e => sm B (fun b => y e * m e b * u b d)) (fun e he => by
    rw [hs e he d hd, ← sm_mul]; exact sm_congr _ (fun b _ => by grind)), sm_swap]
  refine sm_zero B (fun b hb => ?_)
  rw [sm_congr D (g := fun e => u b d * (y e * m e b)) (fun e _ => by grind), sm_mul, h2 b hb]; grind

end
end Lin

/-! What clearing without fractions does, seen in a field: 0 or a prime being the characteristic. -/
namespace Lin
set_option autoImplicit false
set_option linter.unusedSimpArgs false

theorem InSpan.zero (R : List Row) : InSpan R (fun _ => 0) := by
  obtain ⟨V, hV, h⟩ := mix_zero R
  exact ⟨V, hV, fun c => (h c).symm⟩

theorem InSpan.sm {R : List Row} (y : Nat → Int) (u : Nat → Row) : ∀ D : List Nat, (∀ d ∈ D, InSpan R (u d)) →
    InSpan R (fun j => Lin.sm D (fun d => y d * u d j))
  | [], _ => InSpan.zero R
  | d :: D, h => ((h d (by simp)).mul (y d)).add (InSpan.sm y u D (fun e he => h e (by simp [he])))

/-- each row by the rows that are cleared -/
theorem Good.expand {R : List Row} {C : List Nat} (hG : Good R C) (hn : C.Nodup) (x : Row) (j : Nat) :
    det R C * x j = low R C x j + Lin.sm C (fun c => x c * upp R C c j) := by
  have h1 := (low_span R C x).mul (-1)
  have h2 := InSpan.sm x (upp R C) C (fun c _ => upp_span R C c)
  have h3 := hG.eq h1 h2 (fun c hc => by
    rw [low_mem R C x c hc, sm_delta _ c C hn hc (fun d hd hne => by rw [upp_other R C d c hc (Ne.symm hne)]; grind), upp_self R C c hc]; grind) j
  rw [← h3]; grind

/-- rows of the part have no rest -/
theorem Good.low_row {R : List Row} {C : List Nat} (hG : Good R C) {x : Row} (hx : x ∈ R) (j : Nat) : low R C x j = 0 := by
  have h1 := (low_span R C x).add ((InSpan.mem hx).mul (det R C))
  have h2 := hG.none _ h1 (fun c hc => by rw [low_mem R C x c hc]; grind) j
  grind

section
variable {F : Type} [Lean.Grind.Field F]

def ph (F : Type) [Lean.Grind.Field F] (n : Int) : F := Lean.Grind.Ring.intCast.intCast n
theorem ph_add (a b : Int) : ph F (a + b) = ph F a + ph F b := Lean.Grind.Ring.intCast_add a b
theorem ph_mul (a b : Int) : ph F (a * b) = ph F a * ph F b := Lean.Grind.Ring.intCast_mul a b
theorem ph_neg (a : Int) : ph F (-a) = - ph F a := Lean.Grind.Ring.intCast_neg a
theorem ph_sub (a b : Int) : ph F (a - b) = ph F a - ph F b := Lean.Grind.Ring.intCast_sub a b
theorem ph_zero : ph F 0 = 0 := Lean.Grind.Ring.intCast_zero
theorem ph_one : ph F 1 = 1 := Lean.Grind.Ring.intCast_one

theorem ph_sm (f : Nat → Int) : ∀ L : List Nat, ph F (sm L f) = sm L (fun i => ph F (f i))
  | [] => ph_zero
  | i :: L => by simp only [sm, ph_add, ph_sm f L]

structure Cl (F : Type) [Lean.Grind.Field F] (R X : List Row) (C : List Nat) (col : Nat) : Prop where
  good : Good R C
  dne : ph F (det R C) ≠ 0
  asc : C.Pairwise (· < ·)
  lt : ∀ c ∈ C, c < col
  lowz : ∀ x ∈ X, ∀ j, j < col → ph F (low R C x j) = 0
  uppz : ∀ c ∈ C, ∀ j, j < c → ph F (upp R C c j) = 0

theorem Cl.init (X : List Row) : Cl F [] X [] 0 where
  good := Good.nil
  dne := by rw [show det [] [] = 1 from rfl, ph_one]; exact one_ne
  asc := List.Pairwise.nil
  lt := by simp
  lowz := by intro x _ j hj; omega
  uppz := by simp

theorem Cl.skip {R X : List Row} {C : List Nat} {col : Nat} (h : Cl F R X C col) (hz : ∀ x ∈ X, ph F (low R C x col) = 0) :
    Cl F R X C (col + 1) where
  good := h.good
  dne := h.dne
  asc := h.asc
  lt := fun c hc => by have := h.lt c hc; omega
  lowz := fun x hx j hj => by
    by_cases e : j = col
    · rw [e]; exact hz x hx
    · exact h.lowz x hx j (by omega)
  uppz := h.uppz

theorem Cl.ne {R X : List Row} {C : List Nat} {col : Nat} (_h : Cl F R X C col) {r : Row} (hr : ph F (low R C r col) ≠ 0) : low R C r col ≠ 0 := by
  intro e; rw [e, ph_zero] at hr; exact hr rfl

theorem Cl.low_eq {R X : List Row} {C : List Nat} {col : Nat} (h : Cl F R X C col) {r : Row} (hr : ph F (low R C r col) ≠ 0) (x : Row) (j : Nat) :
    ph F (low (R ++ [r]) (C ++ [col]) x j) = (ph F (low R C r col) * ph F (low R C x j) - ph F (low R C x col) * ph F (low R C r j)) * (ph F (det R C))⁻¹ := by
  have h1 := h.good.low_step (h.ne hr) x j
  have h2 := congrArg (ph F) h1
  simp only [ph_sub, ph_mul] at h2
  have := h.dne
  grind

theorem Cl.upp_eq {R X : List Row} {C : List Nat} {col : Nat} (h : Cl F R X C col) {r : Row} (hr : ph F (low R C r col) ≠ 0) {c : Nat} (hc : c ∈ C) (j : Nat) :
    ph F (upp (R ++ [r]) (C ++ [col]) c j) = (ph F (low R C r col) * ph F (upp R C c j) - ph F (upp R C c col) * ph F (low R C r j)) * (ph F (det R C))⁻¹ := by
  have h1 := h.good.upp_step (h.ne hr) hc j
  have h2 := congrArg (ph F) h1
  simp only [ph_sub, ph_mul] at h2
  have := h.dne
  grind

theorem Cl.take {R X Y : List Row} {C : List Nat} {col : Nat} (h : Cl F R X C col) {r : Row} (hrX : r ∈ X) (hr : ph F (low R C r col) ≠ 0)
    (hY : ∀ x ∈ Y, x ∈ X) : Cl F (R ++ [r]) Y (C ++ [col]) (col + 1) where
  good := h.good.push (h.ne hr)
  dne := hr
  asc := List.pairwise_append.2 ⟨h.asc, by simp, fun c hc d hd => by rw [List.mem_singleton.1 hd]; exact h.lt c hc⟩
  lt := fun c hc => by
    rcases List.mem_append.1 hc with hc | hc
    · have := h.lt c hc; omega
    · rw [List.mem_singleton.1 hc]; omega
  lowz := fun x hx j hj => by
    rw [h.low_eq hr]
    by_cases e : j = col
    · subst e; grind
    · rw [h.lowz x (hY x hx) j (by omega), h.lowz r hrX j (by omega)]; grind
  uppz := fun c hc j hj => by
    rcases List.mem_append.1 hc with hc | hc
    · rw [h.upp_eq hr hc, h.uppz c hc j hj, h.lowz r hrX j (by have := h.lt c hc; omega)]; grind
    · rw [List.mem_singleton.1 hc] at hj ⊢
      rw [h.good.upp_new (h.ne hr), h.lowz r hrX j hj]

/-- the row with lead c -/
def rho (F : Type) [Lean.Grind.Field F] (R : List Row) (C : List Nat) (c j : Nat) : F := ph F (upp R C c j) * (ph F (det R C))⁻¹

theorem Cl.nodup {R X : List Row} {C : List Nat} {col : Nat} (h : Cl F R X C col) : C.Nodup :=
  h.asc.imp (fun hab => by omega)

theorem Cl.red {R X : List Row} {C : List Nat} {col : Nat} (h : Cl F R X C col) : Red C (rho F R C) where
  nodup := h.nodup
  one := fun c hc => by
    have := h.dne
    simp only [rho, upp_self R C c hc]; grind
  zero := fun c hc d hd hn => by simp only [rho, upp_other R C c d hd hn, ph_zero]; grind
  first := fun c hc j hj => by simp only [rho, h.uppz c hc j hj]; grind

/-- all rows, where nothing is left at a column -/
theorem Cl.inAt {R X : List Row} {C : List Nat} {col : Nat} (h : Cl F R X C col) (x : Row) (j : Nat) (hz : ph F (low R C x j) = 0) :
    ph F (x j) = sm C (fun c => ph F (x c) * rho F R C c j) := by
  have h1 := congrArg (ph F) (h.good.expand h.nodup x j)
  rw [ph_add, hz, ph_mul, ph_sm] at h1
  have h2 := h.dne
  have h3 : sm C (fun c => ph F (x c) * rho F R C c j) = (ph F (det R C))⁻¹ * sm C (fun c => ph F (x c * upp R C c j)) := by
    rw [← sm_mul]
    exact sm_congr C (fun c _ => by simp only [rho, ph_mul]; grind)
  rw [h3]
  grind

end
end Lin

/-! The rank of a turned table; rows taken in one after the other; a kernel; the fields of the grounds. -/
namespace Lin
set_option autoImplicit false
set_option linter.unusedSimpArgs false
section
variable {F : Type} [Lean.Grind.Field F]

/-- what the rows of one table make has as many leads as what its columns make, at most -/
theorem turn_le {C D J : List Nat} {ρ σ : Nat → Nat → F} (a : Nat → Nat → F) (m : Nat → Nat → F) (k : Red D σ)
    (hC : ∀ i ∈ D, ∀ j ∈ J, a i j = sm C (fun c => a i c * ρ c j))
    (hD : ∀ d ∈ D, ∀ i ∈ D, σ d i = sm J (fun j => m d j * a i j)) : D.length ≤ C.length := by
  refine k.few C (fun c i => a i c) (fun d c => sm J (fun j => m d j * ρ c j)) (fun d hd i hi => ?_)
  rw [hD d hd i hi, sm_congr J (g := fun j => sm C (fun c => m d j * ρ c j * a i c)) (fun j hj => by
    rw [hC i hi j hj, ← sm_mul]; exact sm_congr _ (fun c _ => by grind)), sm_swap]
  refine sm_congr C (fun c _ => ?_)
  rw [sm_congr J (g := fun j => a i c * (m d j * ρ c j)) (fun j _ => by grind), sm_mul]; grind

/-- sums of multiples -/
inductive Gen (S : (Nat → F) → Prop) : (Nat → F) → Prop
  | mem {v : Nat → F} : S v → Gen S v
  | zero : Gen S (fun _ => 0)
  | add {v w : Nat → F} : Gen S v → Gen S w → Gen S (fun j => v j + w j)
  | mul (k : F) {v : Nat → F} : Gen S v → Gen S (fun j => k * v j)

theorem Gen.trans {S T : (Nat → F) → Prop} (h : ∀ v, S v → Gen T v) {v : Nat → F} (hv : Gen S v) : Gen T v := by
  induction hv with
  | mem hs => exact h _ hs
  | zero => exact .zero
  | add _ _ h1 h2 => exact h1.add h2
  | mul k _ h1 => exact h1.mul k

theorem Gen.sub {S : (Nat → F) → Prop} {v w : Nat → F} (k : F) (hv : Gen S v) (hw : Gen S w) : Gen S (fun j => v j - k * w j) := by
  have h := hv.add (hw.mul (-k))
  have e : (fun j => v j + -k * w j) = (fun j => v j - k * w j) := funext fun j => by grind
  rwa [e] at h

theorem Gen.in {C : List Nat} {ρ : Nat → Nat → F} {S : (Nat → F) → Prop} (h : ∀ v, S v → In C ρ v) {v : Nat → F} (hv : Gen S v) : In C ρ v := by
  induction hv with
  | mem hs => exact h _ hs
  | zero => exact In.zero C ρ
  | add _ _ h1 h2 => exact h1.add h2
  | mul k _ h1 => exact h1.mul k

theorem Gen.sum {S : (Nat → F) → Prop} (y : Nat → F) (u : Nat → Nat → F) : ∀ D : List Nat, (∀ d ∈ D, Gen S (u d)) →
    Gen S (fun j => sm D (fun d => y d * u d j))
  | [], _ => .zero
  | d :: D, h => ((h d (by simp)).mul (y d)).add (Gen.sum y u D (fun e he => h e (by simp [he])))

/-- two reduced tables of the same rows -/
theorem Red.same {C D : List Nat} {ρ σ : Nat → Nat → F} (h : Red C ρ) (k : Red D σ) {S : (Nat → F) → Prop}
    (h1 : ∀ v, S v → In C ρ v) (h2 : ∀ v, S v → In D σ v) (g1 : ∀ c ∈ C, Gen S (ρ c)) (g2 : ∀ d ∈ D, Gen S (σ d)) :
    (∀ c, c ∈ C ↔ c ∈ D) ∧ ∀ c ∈ C, ∀ j, ρ c j = σ c j :=
  h.unique k (fun d hd => (g2 d hd).in h1) (fun c hc => (g1 c hc).in h2)

/-- a row less the multiples of the rows found that leave 0 at their leads, one after the other -/
theorem Red.less {C : List Nat} {ρ : Nat → Nat → F} (h : Red C ρ) : ∀ (L : List Nat) (v : Nat → F), L.Nodup → (∀ c ∈ L, c ∈ C) →
    ∀ j, L.foldl (fun w c => fun j => w j - w c * ρ c j) v j = v j - sm L (fun c => v c * ρ c j)
  | [], v, _, _, j => by simp only [List.foldl_nil, sm]; grind
  | c :: L, v, hn, hL, j => by
      rcases List.nodup_cons.1 hn with ⟨hcL, hn2⟩
      rw [List.foldl_cons, Red.less h L _ hn2 (fun d hd => hL d (by simp [hd])) j]
      simp only [sm]
      rw [sm_congr L (g := fun d => v d * ρ d j) (fun d hd => by
        rw [h.zero c (hL c (by simp)) d (hL d (by simp [hd])) (by rintro rfl; exact hcL hd)]; grind)]
      grind

theorem Red.less_lead {C : List Nat} {ρ : Nat → Nat → F} (h : Red C ρ) (v : Nat → F) {c : Nat} (hc : c ∈ C) :
    v c - sm C (fun d => v d * ρ d c) = 0 := by
  rw [sm_delta _ c C h.nodup hc (fun d hd hn => by rw [h.zero d hd c hc (Ne.symm hn)]; grind), h.one c hc]; grind

/-- the rows with one more -/
def more (ρ : Nat → Nat → F) (v : Nat → F) (l : Nat) (c j : Nat) : F :=
  if c = l then (v l)⁻¹ * v j else ρ c j - ρ c l * ((v l)⁻¹ * v j)

theorem more_new (ρ : Nat → Nat → F) (v : Nat → F) (l j : Nat) : more ρ v l l j = (v l)⁻¹ * v j := if_pos rfl
theorem more_old {ρ : Nat → Nat → F} {v : Nat → F} {l c : Nat} (h : c ≠ l) (j : Nat) : more ρ v l c j = ρ c j - ρ c l * ((v l)⁻¹ * v j) := if_neg h

theorem Red.more {C : List Nat} {ρ : Nat → Nat → F} (h : Red C ρ) {v : Nat → F} {l : Nat} (hl : v l ≠ 0) (hf : ∀ j, j < l → v j = 0)
    (hz : ∀ c ∈ C, v c = 0) : Red (C ++ [l]) (more ρ v l) := by
  have hne : ∀ c ∈ C, c ≠ l := fun c hc e => hl (e ▸ hz c hc)
  refine ⟨?_, ?_, ?_, ?_⟩
  · refine List.nodup_append.2 ⟨h.nodup, by simp, fun c hc d hd => ?_⟩
    rw [List.mem_singleton.1 hd]; exact hne c hc
  · intro c hc
    rcases List.mem_append.1 hc with hc | hc
    · rw [more_old (hne c hc), h.one c hc, hz c hc]; grind
    · rw [List.mem_singleton.1 hc, more_new]; grind
  · intro c hc d hd hn
    rcases List.mem_append.1 hc with hc | hc
    · rw [more_old (hne c hc)]
      rcases List.mem_append.1 hd with hd | hd
      · rw [h.zero c hc d hd hn, hz d hd]; grind
      · rw [List.mem_singleton.1 hd]; grind
    · rw [List.mem_singleton.1 hc, more_new]
      rcases List.mem_append.1 hd with hd | hd
      · rw [hz d hd]; grind
      · exact absurd ((List.mem_singleton.1 hd).trans (List.mem_singleton.1 hc).symm) hn
  · intro c hc j hj
    rcases List.mem_append.1 hc with hc | hc
    · rw [more_old (hne c hc), h.first c hc j hj]
      by_cases e : l < c
      · rw [h.first c hc l e]; grind
      · rw [hf j (by omega)]; grind
    · rw [List.mem_singleton.1 hc] at hj ⊢
      rw [more_new, hf j hj]; grind

theorem sm_append (f : Nat → F) (M : List Nat) : ∀ L : List Nat, sm (L ++ M) f = sm L f + sm M f
  | [] => by simp only [List.nil_append, sm]; grind
  | i :: L => by simp only [List.cons_append, sm, sm_append f M L]; grind

theorem In.more {C : List Nat} {ρ : Nat → Nat → F} {v : Nat → F} {l : Nat} (hl : v l ≠ 0) (hz : ∀ c ∈ C, v c = 0) {w : Nat → F}
    (hw : In C ρ w) : In (C ++ [l]) (Lin.more ρ v l) w := fun j => by
  have hne : ∀ c ∈ C, c ≠ l := fun c hc e => hl (e ▸ hz c hc)
  rw [sm_append, sm_congr C (g := fun c => w c * ρ c j + -((v l)⁻¹ * v j) * (w c * ρ c l)) (fun c hc => by rw [more_old (hne c hc)]; grind), sm_add, sm_mul,
    ← hw j, ← hw l]
  simp only [sm, more_new]; grind

theorem In.more_self {C : List Nat} {ρ : Nat → Nat → F} {v : Nat → F} {l : Nat} (hl : v l ≠ 0) (hz : ∀ c ∈ C, v c = 0) :
    In (C ++ [l]) (Lin.more ρ v l) v := fun j => by
  rw [sm_append, sm_zero C (fun c hc => by rw [hz c hc]; grind)]
  simp only [sm, more_new]; grind

/-- a row taken in -/
theorem In.more_row {C : List Nat} {ρ : Nat → Nat → F} (h : Red C ρ) {v w : Nat → F} {l : Nat} (hl : v l ≠ 0) (hv : ∀ j, v j = w j - sm C (fun c => w c * ρ c j)) :
    In (C ++ [l]) (Lin.more ρ v l) w := by
  have hz : ∀ c ∈ C, v c = 0 := fun c hc => by rw [hv c]; exact h.less_lead w hc
  have h1 := (In.more_self (ρ := ρ) hl hz).add (In.more (ρ := ρ) hl hz (In.sum w ρ C (fun c hc => h.self hc)))
  have e : (fun j => v j + sm C (fun d => w d * ρ d j)) = w := funext fun j => by rw [hv j]; grind
  rwa [e] at h1

/-- nothing left of a row -/
theorem In.of_less {C : List Nat} {ρ : Nat → Nat → F} {w : Nat → F} (h : ∀ j, w j - sm C (fun c => w c * ρ c j) = 0) : In C ρ w :=
  fun j => by have := h j; grind

/-- the vector of the kernel for a column without a lead -/
def ker (ρ : Nat → Nat → F) (C : List Nat) (f j : Nat) : F := if j = f then 1 else if j ∈ C then - ρ j f else 0

theorem sm_filter (p : Nat → Bool) (f : Nat → F) : ∀ L : List Nat, (∀ i ∈ L, p i = false → f i = 0) → sm (L.filter p) f = sm L f
  | [], _ => rfl
  | i :: L, h => by
      have h2 := sm_filter p f L (fun j hj => h j (by simp [hj]))
      by_cases e : p i = true
      · rw [List.filter_cons_of_pos e]; simp only [sm, h2]
      · rw [List.filter_cons_of_neg e, h2]; simp only [sm, h i (by simp) (by simpa using e)]; grind

theorem sm_perm (f : Nat → F) {L M : List Nat} (h : L.Perm M) : sm L f = sm M f := by
  induction h with
  | nil => rfl
  | cons x _ ih => simp only [sm, ih]
  | swap x y l => simp only [sm]; grind
  | trans _ _ h1 h2 => exact h1.trans h2

/-- each row that is a sum of the reduced rows leads the vector to 0 -/
theorem ker_zero {C J : List Nat} {ρ : Nat → Nat → F} (_h : Red C ρ) {v : Nat → F} (hv : In C ρ v) {f : Nat} (hf : f ∈ J) (hfC : f ∉ C)
    (hJ : J.Nodup) (hC : ∀ c ∈ C, c ∈ J) (hCn : C.Nodup) : sm J (fun j => v j * ker ρ C f j) = 0 := by
  rw [sm_erase _ f J hf]
  have h1 : sm (J.erase f) (fun j => v j * ker ρ C f j) = sm ((J.erase f).filter (fun j => decide (j ∈ C))) (fun j => v j * ker ρ C f j) := by
    rw [sm_filter]
    intro i hi hp
    have hne : i ≠ f := ((List.Nodup.mem_erase_iff hJ).1 hi).1
    simp only [decide_eq_false_iff_not] at hp
    simp only [ker, if_neg hne, if_neg hp]; grind
  have hp : ((J.erase f).filter (fun j => decide (j ∈ C))).Perm C := by
    refine (List.perm_ext_iff_of_nodup ((hJ.erase f).filter _) hCn).2 (fun c => ?_)
    simp only [List.mem_filter, decide_eq_true_eq, List.Nodup.mem_erase_iff hJ]
    exact ⟨fun h => h.2, fun h => ⟨⟨fun e => hfC (e ▸ h), hC c h⟩, h⟩⟩
  rw [h1, sm_perm _ hp, sm_congr C (g := fun c => (-1 : F) * (v c * ρ c f)) (fun c hc => by
    simp only [ker, if_neg (show c ≠ f from fun e => hfC (e ▸ hc)), if_pos hc]; grind), sm_mul, ← hv f]
  simp only [ker, if_pos]; grind

end
end Lin

/-! the fields of the grounds -/
namespace Lin
set_option autoImplicit false
set_option linter.unusedSimpArgs false
open Classical in
noncomputable def finInv (p : Nat) [NeZero p] (a : Fin p) : Fin p := if h : ∃ b : Fin p, a * b = 1 then Classical.choose h else 0

theorem finInv_mul (p : Nat) [NeZero p] {a : Fin p} (h : ∃ b : Fin p, a * b = 1) : a * finInv p a = 1 := by
  rw [finInv, dif_pos h]; exact Classical.choose_spec h

theorem finInv_zero (p : Nat) [NeZero p] (h1 : (0 : Fin p) ≠ 1) : finInv p 0 = 0 := by
  rw [finInv, dif_neg]
  rintro ⟨b, hb⟩
  exact h1 (by rw [← hb]; grind)

theorem finInv_inv (p : Nat) [NeZero p] (h1 : (0 : Fin p) ≠ 1) (hi : ∀ a : Fin p, a ≠ 0 → ∃ b : Fin p, a * b = 1) (a : Fin p) :
    finInv p (finInv p a) = a := by
  by_cases e : a = 0
  · rw [e, finInv_zero p h1, finInv_zero p h1]
  · have h2 := finInv_mul p (hi a e)
    have h3 : finInv p a ≠ 0 := fun h => by rw [h] at h2; exact h1 (by rw [← h2]; grind)
    have h4 := finInv_mul p (hi _ h3)
    have h5 : a * (finInv p a * finInv p (finInv p a)) = a := by rw [h4]; grind
    have h6 : a * (finInv p a * finInv p (finInv p a)) = (a * finInv p a) * finInv p (finInv p a) := by grind
    rw [h6, h2] at h5
    rw [← h5]; grind

theorem finInv_one (p : Nat) [NeZero p] : finInv p 1 = 1 := by
  have h := finInv_mul p (a := 1) ⟨1, by grind⟩
  grind

noncomputable def finZpow (p : Nat) [NeZero p] (a : Fin p) : Int → Fin p
  | .ofNat n => Lean.Grind.Semiring.npow.hPow a n
  | .negSucc n => finInv p (Lean.Grind.Semiring.npow.hPow a (n + 1))

@[reducible] noncomputable def finField (p : Nat) [NeZero p] (h1 : (0 : Fin p) ≠ 1) (hi : ∀ a : Fin p, a ≠ 0 → ∃ b : Fin p, a * b = 1) :
    Lean.Grind.Field (Fin p) :=
  @Lean.Grind.Field.mk (Fin p) inferInstance ⟨finInv p⟩ ⟨fun a b => a * finInv p b⟩ ⟨finZpow p⟩
    (fun _ _ => rfl) h1 (finInv_zero p h1) (fun h => finInv_mul p (hi _ h))
    (fun a => Lean.Grind.Semiring.pow_zero a)
    (fun a n => Lean.Grind.Semiring.pow_succ a n)
    (fun a n => by
      show finZpow p a (-n) = finInv p (finZpow p a n)
      rcases n with n | n
      · cases n with
        | zero =>
          show Lean.Grind.Semiring.npow.hPow a 0 = finInv p (Lean.Grind.Semiring.npow.hPow a 0)
          rw [show (Lean.Grind.Semiring.npow.hPow a 0 : Fin p) = 1 from Lean.Grind.Semiring.pow_zero a, finInv_one]
        | succ n => rfl
      · show Lean.Grind.Semiring.npow.hPow a (n + 1) = finInv p (finInv p (Lean.Grind.Semiring.npow.hPow a (n + 1)))
        rw [finInv_inv p h1 hi])

/-- a field for each ground -/
theorem ground_field (g : Nat) (hg : g ≠ 0 → 2 ≤ g ∧ ∀ a : Nat, 0 < a → a < g → ∃ b : Nat, a * b % g = 1) :
    ∃ (F : Type) (_ : Lean.Grind.Field F), Lean.Grind.IsCharP F g := by
  by_cases e : g = 0
  · subst e; exact ⟨Rat, inferInstance, inferInstance⟩
  · obtain ⟨h2, hi⟩ := hg e
    have : NeZero g := ⟨e⟩
    have v1 : ((1 : Fin g)).val = 1 % g := rfl
    have h1 : (0 : Fin g) ≠ 1 := fun h => by
      have := congrArg Fin.val h
      rw [v1, Nat.mod_eq_of_lt (by omega)] at this
      simp at this
    refine ⟨Fin g, finField g h1 (fun a ha => ?_), (inferInstance : Lean.Grind.IsCharP (Fin g) g)⟩
    obtain ⟨b, hb⟩ := hi a.val (Nat.pos_of_ne_zero (fun h => ha (Fin.ext (by simpa using h)))) a.isLt
    refine ⟨⟨b % g, Nat.mod_lt _ (by omega)⟩, Fin.ext ?_⟩
    show a.val * (b % g) % g = 1 % g
    rw [Nat.mul_mod, Nat.mod_mod, ← Nat.mul_mod, hb, Nat.mod_eq_of_lt (by omega)]

section
variable {F : Type} [Lean.Grind.Field F]
theorem ph_eq (g : Nat) [Lean.Grind.IsCharP F g] {a b : Int} : ph F a = ph F b ↔ a % (g : Int) = b % (g : Int) :=
  Lean.Grind.IsCharP.intCast_ext_iff g
theorem ph_eq_zero (g : Nat) [Lean.Grind.IsCharP F g] {a : Int} : ph F a = 0 ↔ a % (g : Int) = 0 :=
  Lean.Grind.IsCharP.intCast_eq_zero_iff g a
theorem ph_inj [Lean.Grind.IsCharP F 0] {a b : Int} : ph F a = ph F b ↔ a = b := by
  rw [ph_eq 0]; simp
theorem ph_mod (g : Nat) [Lean.Grind.IsCharP F g] (a : Int) : ph F (a % (g : Int)) = ph F a := by
  rw [ph_eq g]; exact Int.emod_emod_of_dvd _ (Int.dvd_refl _)
/-- what a number stands for -/
def val (F : Type) [Lean.Grind.Field F] (a b : Int) : F := ph F a * (ph F b)⁻¹
theorem val_one (a : Int) : val F a 1 = ph F a := by rw [val, ph_one]; grind
theorem val_frac [Lean.Grind.IsCharP F 0] {a b c d : Int} (hb : 1 ≤ b) (hd : 1 ≤ d) : val F a b = val F c d ↔ a * d = c * b := by
  have h1 : ph F b ≠ 0 := fun h => by rw [ph_eq_zero 0] at h; omega
  have h2 : ph F d ≠ 0 := fun h => by rw [ph_eq_zero 0] at h; omega
  rw [← ph_inj (F := F), ph_mul, ph_mul, val, val]
  constructor <;> intro h <;> grind
theorem cop_eq {a b c d : Int} (hb : 1 ≤ b) (hd : 1 ≤ d) (h1 : Nat.gcd a.natAbs b.natAbs = 1) (h2 : Nat.gcd c.natAbs d.natAbs = 1)
    (e : a * d = c * b) : a = c ∧ b = d := by
  have e2 := congrArg Int.natAbs e
  rw [Int.natAbs_mul, Int.natAbs_mul] at e2
  have k1 : b.natAbs ∣ d.natAbs := (Nat.Coprime.dvd_of_dvd_mul_left (Nat.coprime_comm.1 h1) (e2 ▸ Nat.dvd_mul_left _ _))
  have k2 : d.natAbs ∣ b.natAbs := (Nat.Coprime.dvd_of_dvd_mul_left (Nat.coprime_comm.1 h2) (e2.symm ▸ Nat.dvd_mul_left _ _))
  have k3 := Nat.dvd_antisymm k1 k2
  have k4 : b = d := by omega
  refine ⟨?_, k4⟩
  subst k4
  exact Int.eq_of_mul_eq_mul_right (by omega) e
end
end Lin

/-! the state of the clearing of rows, as lists of integers -/
namespace Lin
set_option autoImplicit false
set_option linter.unusedSimpArgs false

def fn (ns : List Int) : Row := fun j => ns.getD j 0
def gI (nss : List (List Int)) (i c : Nat) : Int := (nss.getD i []).getD c 0
def mixF (us ns : List Int) (c : Nat) : List Int := List.zipWith (fun n o => us.getD c 0 * n - ns.getD c 0 * o) ns us

theorem mixF_len {us ns : List Int} (c : Nat) (h : ns.length = us.length) : (mixF us ns c).length = ns.length := by simp [mixF, h]
theorem mixF_at {us ns : List Int} {c j : Nat} (h : ns.length = us.length) (hj : j < ns.length) :
    (mixF us ns c)[j]? = some (us.getD c 0 * ns.getD j 0 - ns.getD c 0 * us.getD j 0) := by
  unfold mixF
  rw [List.getElem?_zipWith, List.getElem?_eq_getElem hj, List.getElem?_eq_getElem (show j < us.length by omega)]
  simp [List.getD_eq_getElem?_getD, hj, show j < us.length by omega]

/-- a row lowered, as the program does it -/
structure Lowd (g : Nat) (d : Int) (us ns : List Int) (c : Nat) (out : List Int) : Prop where
  zero : g = 0 → out = (mixF us ns c).map fun m => m.fdiv d
  prime : g ≠ 0 → ∃ u : Int, d * u % (g : Int) = 1 % (g : Int) ∧ out = (mixF us ns c).map fun m => m * u % (g : Int)

theorem Lowd.len {g : Nat} {d : Int} {us ns : List Int} {c : Nat} {out : List Int} (h : Lowd g d us ns c out) (hl : ns.length = us.length) : out.length = ns.length := by
  by_cases e : g = 0
  · rw [h.zero e, List.length_map, mixF_len c hl]
  · obtain ⟨u, _, h2⟩ := h.prime e
    rw [h2, List.length_map, mixF_len c hl]

section
variable {F : Type} [Lean.Grind.Field F]

/-- .. in the field: exact where the quotient is known to be whole -/
theorem Lowd.ph {g : Nat} [Lean.Grind.IsCharP F g] {d : Int} {us ns : List Int} {c : Nat} {out : List Int} (h : Lowd g d us ns c out) (hl : ns.length = us.length)
    {j : Nat} (hj : j < ns.length) {z : Int} (hd : Lin.ph F d ≠ 0)
    (hz : Lin.ph F (us.getD c 0) * Lin.ph F (ns.getD j 0) - Lin.ph F (ns.getD c 0) * Lin.ph F (us.getD j 0) = Lin.ph F d * Lin.ph F z) :
    Lin.ph F (out.getD j 0) = Lin.ph F z := by
  have hm := mixF_at (c := c) hl hj
  have hz2 : Lin.ph F (us.getD c 0 * ns.getD j 0 - ns.getD c 0 * us.getD j 0) = Lin.ph F (d * z) := by
    rw [ph_sub, ph_mul, ph_mul, ph_mul]; exact hz
  by_cases e : g = 0
  · subst e
    rw [h.zero rfl, List.getD_eq_getElem?_getD, List.getElem?_map, hm]
    rw [ph_inj] at hz2
    have hd0 : d ≠ 0 := fun h => hd (by rw [h, ph_zero])
    show Lin.ph F ((us.getD c 0 * ns.getD j 0 - ns.getD c 0 * us.getD j 0).fdiv d) = Lin.ph F z
    rw [hz2, Int.mul_fdiv_cancel_left _ hd0]
  · obtain ⟨u, hu, h2⟩ := h.prime e
    rw [h2, List.getD_eq_getElem?_getD, List.getElem?_map, hm]
    show Lin.ph F ((us.getD c 0 * ns.getD j 0 - ns.getD c 0 * us.getD j 0) * u % (g : Int)) = Lin.ph F z
    have hu2 : Lin.ph F (d * u) = Lin.ph F 1 := (ph_eq g).2 hu
    rw [ph_mul, ph_one] at hu2
    rw [ph_mod, ph_mul, hz2, ph_mul]
    grind

structure CSt (F : Type) [Lean.Grind.Field F] (g : Nat) (A : List (List Int)) (W col : Nat) (M : List (List Int)) (C : List Nat) (lead : Int) (R X : List Row) : Prop where
  cl : Cl F R X C col
  len : M.length = C.length + X.length
  wid : ∀ r ∈ M, r.length = W
  upper : ∀ i, i < C.length → ∀ j, j < W → ph F (gI M i j) = ph F (upp R C (C.getD i 0) j)
  lower : ∀ i, i < X.length → ∀ j, j < W → ph F (gI M (C.length + i) j) = ph F (low R C (X.getD i (fun _ => 0)) j)
  ld : ph F lead = ph F (det R C)
  rng : g ≠ 0 → (∀ r ∈ M, ∀ n ∈ r, 0 ≤ n ∧ n < g) ∧ 0 ≤ lead ∧ lead < g
  perm : (R ++ X).Perm (A.map fn)

theorem CSt.ldne {g : Nat} {A : List (List Int)} {W col : Nat} {M : List (List Int)} {C : List Nat} {lead : Int} {R X : List Row} (h : CSt F g A W col M C lead R X) : ph F lead ≠ 0 := by
  rw [h.ld]; exact h.cl.dne

theorem low_nil (x : Row) (j : Nat) : low [] [] x j = x j := by simp [low, det, ex]

theorem CSt.init {g : Nat} {A : List (List Int)} {W : Nat} (hw : ∀ r ∈ A, r.length = W) (hr : g ≠ 0 → (∀ r ∈ A, ∀ n ∈ r, 0 ≤ n ∧ n < g) ∧ 1 < g) :
    CSt F g A W 0 A [] 1 [] (A.map fn) where
  cl := Cl.init _
  len := by simp
  wid := hw
  upper := by intro i hi; simp at hi
  lower := by
    intro i hi j hj
    rw [low_nil]
    have hi2 : i < A.length := by simpa using hi
    simp [gI, fn, List.getD_eq_getElem?_getD, hi2]
  ld := rfl
  rng := fun h => ⟨(hr h).1, by omega, by have := (hr h).2; omega⟩
  perm := List.Perm.refl _

theorem CSt.skip {g : Nat} {A : List (List Int)} {W col : Nat} {M : List (List Int)} {C : List Nat} {lead : Int} {R X : List Row} (h : CSt F g A W col M C lead R X)
    (hc : col < W) (hz : ∀ i, C.length ≤ i → i < M.length → gI M i col = 0) : CSt F g A W (col + 1) M C lead R X where
  cl := h.cl.skip (fun x hx => by
    obtain ⟨i, hi, rfl⟩ := List.getElem_of_mem hx
    have h1 := h.lower i hi col hc
    rw [hz _ (by omega) (by have := h.len; omega), ph_zero] at h1
    have h2 : X.getD i (fun _ => 0) = X[i] := by simp [List.getD_eq_getElem?_getD, hi]
    rw [h2] at h1
    exact h1.symm)
  len := h.len
  wid := h.wid
  upper := h.upper
  lower := h.lower
  ld := h.ld
  rng := h.rng
  perm := h.perm

/-- two rows exchanged, as the program does it -/
def swapL {α : Type} (l : List α) (i j : Nat) (a b : α) : List α := (l.set i b).set j a

theorem swap_perm {α : Type} {l : List α} {i j : Nat} {a b : α} (hi : l[i]? = some a) (hj : l[j]? = some b) : (swapL l i j a b).Perm l := by
  unfold swapL
  obtain ⟨hi', ea⟩ := List.getElem?_eq_some_iff.mp hi
  obtain ⟨hj', eb⟩ := List.getElem?_eq_some_iff.mp hj
  subst ea; subst eb
  exact List.set_set_perm hi' hj'

theorem swap_at {α : Type} {l : List α} {i j k : Nat} {a b : α} (hi : l[i]? = some a) (hj : l[j]? = some b) :
    (swapL l i j a b)[k]? = if k = j then some a else if k = i then some b else l[k]? := by
  unfold swapL
  obtain ⟨hi', ea⟩ := List.getElem?_eq_some_iff.mp hi
  obtain ⟨hj', eb⟩ := List.getElem?_eq_some_iff.mp hj
  rw [List.getElem?_set, List.getElem?_set]
  by_cases e1 : k = j
  · subst e1; simp [hj']
  · rw [if_neg (fun h => e1 h.symm), if_neg e1]
    by_cases e2 : k = i
    · subst e2; simp [hi']
    · rw [if_neg (fun h => e2 h.symm), if_neg e2]
end
end Lin

namespace Lin
set_option autoImplicit false
set_option linter.unusedSimpArgs false
section
variable {F : Type} [Lean.Grind.Field F]

theorem Cl.mono {R X Y : List Row} {C : List Nat} {col : Nat} (h : Cl F R X C col) (hY : ∀ x ∈ Y, x ∈ X) : Cl F R Y C col :=
  ⟨h.good, h.dne, h.asc, h.lt, fun x hx => h.lowz x (hY x hx), h.uppz⟩

theorem getD_some {α : Type} {l : List α} {i : Nat} {a d : α} (h : l[i]? = some a) : l.getD i d = a := by
  rw [List.getD_eq_getElem?_getD, h]; rfl

theorem gI_some {M : List (List Int)} {i : Nat} {ns : List Int} (h : M[i]? = some ns) (j : Nat) : gI M i j = ns.getD j 0 := by
  unfold gI; rw [getD_some h]

theorem gI_congr {M N : List (List Int)} {i k : Nat} (h : M[i]? = N[k]?) (j : Nat) : gI M i j = gI N k j := by
  unfold gI
  have e : M.getD i [] = N.getD k [] := by rw [List.getD_eq_getElem?_getD, h, ← List.getD_eq_getElem?_getD]
  rw [e]

/-- Δ changes its sign when two rows change places -/
def Alt (Δ : List Row → F) : Prop := ∀ (L : List Row) (i j : Nat) (u v : Row), i ≠ j → L[i]? = some u → L[j]? = some v → Δ (swapL L i j u v) = - Δ L
/-- Q is P with rows exchanged, s the sign of it -/
def SgP (F : Type) [Lean.Grind.Field F] (s : Int) (P Q : List Row) : Prop := ∀ Δ : List Row → F, Alt Δ → Δ Q = ph F s * Δ P
theorem SgP.refl (P : List Row) : SgP F 1 P P := fun Δ _ => by rw [ph_one]; grind
theorem SgP.swap {s : Int} {P Q : List Row} (h : SgP F s P Q) {i j : Nat} {u v : Row} (n : i ≠ j) (hi : Q[i]? = some u) (hj : Q[j]? = some v) : SgP F (-s) P (swapL Q i j u v) := fun Δ a => by
  rw [a Q i j u v n hi hj, h Δ a, ph_neg]; grind
theorem swap_app (R X : List Row) (a b : Nat) (u v : Row) : R ++ swapL X a b u v = swapL (R ++ X) (R.length + a) (R.length + b) u v := by
  unfold swapL
  rw [List.set_append_right _ _ (by omega), List.set_append_right _ _ (by omega)]
  simp

theorem CSt.swap {g : Nat} {A : List (List Int)} {W col : Nat} {M : List (List Int)} {C : List Nat} {lead : Int} {R X : List Row} (h : CSt F g A W col M C lead R X)
    {i : Nat} (hi : C.length ≤ i) {a b : List Int} (ha : M[C.length]? = some a) (hb : M[i]? = some b) : ∃ X', CSt F g A W col (swapL M C.length i a b) C lead R X' ∧ (i ≠ C.length → ∀ s P, SgP F s P (R ++ X) → SgP F (-s) P (R ++ X')) := by
  have hiM := (List.getElem?_eq_some_iff.mp hb).1
  have hl := h.len
  have h0 : 0 < X.length := by omega
  have h1 : i - C.length < X.length := by omega
  have x0 := List.getElem?_eq_getElem h0
  have x1 := List.getElem?_eq_getElem h1
  generalize X[0] = u at x0
  generalize X[i - C.length] = v at x1
  have pM := swap_perm ha hb
  have pX := swap_perm x0 x1
  refine ⟨swapL X 0 (i - C.length) u v, ?_, fun ne s P hs => by
    rw [swap_app]
    exact hs.swap (by omega) (by rw [List.getElem?_append_right (by omega)]; simpa using x0) (by rw [List.getElem?_append_right (by omega)]; simpa using x1)⟩
  refine ⟨h.cl.mono (fun x hx => pX.mem_iff.1 hx), ?_, fun r hr => h.wid r (pM.mem_iff.1 hr), ?_, ?_, h.ld, ?_, ?_⟩
  · rw [pM.length_eq, pX.length_eq]; exact hl
  · intro k hk j hj
    have e : (swapL M C.length i a b)[k]? = M[k]? := by rw [swap_at ha hb, if_neg (by omega), if_neg (by omega)]
    have e2 : gI (swapL M C.length i a b) k j = gI M k j := gI_congr e j
    rw [e2]; exact h.upper k hk j hj
  · intro k hk j hj
    rw [pX.length_eq] at hk
    by_cases e1 : k = i - C.length
    · have e : (swapL M C.length i a b)[C.length + k]? = some a := by rw [swap_at ha hb, if_pos (by omega)]
      have e2 : (swapL X 0 (i - C.length) u v)[k]? = some u := by rw [swap_at x0 x1, if_pos e1]
      rw [gI_some e, getD_some e2]
      have := h.lower 0 h0 j hj
      rw [gI_some (show M[C.length + 0]? = some a from ha), getD_some x0] at this
      exact this
    · by_cases e0 : k = 0
      · have e : (swapL M C.length i a b)[C.length + k]? = some b := by rw [swap_at ha hb, if_neg (by omega), if_pos (by omega)]
        have e2 : (swapL X 0 (i - C.length) u v)[k]? = some v := by rw [swap_at x0 x1, if_neg e1, if_pos e0]
        rw [gI_some e, getD_some e2]
        have := h.lower (i - C.length) h1 j hj
        rw [gI_some (show M[C.length + (i - C.length)]? = some b by rw [show C.length + (i - C.length) = i by omega]; exact hb), getD_some x1] at this
        exact this
      · have e : (swapL M C.length i a b)[C.length + k]? = M[C.length + k]? := by rw [swap_at ha hb, if_neg (by omega), if_neg (by omega)]
        have e2 : (swapL X 0 (i - C.length) u v)[k]? = X[k]? := by rw [swap_at x0 x1, if_neg e1, if_neg e0]
        have e3 : gI (swapL M C.length i a b) (C.length + k) j = gI M (C.length + k) j := gI_congr e j
        have e4 : (swapL X 0 (i - C.length) u v).getD k (fun _ => 0) = X.getD k (fun _ => 0) := by
          rw [List.getD_eq_getElem?_getD, e2, ← List.getD_eq_getElem?_getD]
        rw [e3, e4]; exact h.lower k hk j hj
  · intro hg
    exact ⟨fun r hr => (h.rng hg).1 r (pM.mem_iff.1 hr), (h.rng hg).2⟩
  · exact (List.Perm.append_left R pX).trans h.perm

theorem CSt.take {g : Nat} [Lean.Grind.IsCharP F g] {A : List (List Int)} {W col : Nat} {M M2 : List (List Int)} {C : List Nat} {lead : Int} {R X : List Row} (h : CSt F g A W col M C lead R X)
    (hc : col < W) {a : List Int} (ha : M[C.length]? = some a) (hne : a.getD col 0 ≠ 0) (hl2 : M2.length = M.length) (ht : M2[C.length]? = some a)
    (hlow : ∀ i ns, i ≠ C.length → M[i]? = some ns → ∃ out, M2[i]? = some out ∧ Lowd g lead a ns col out) :
    ∃ R' X', CSt F g A W (col + 1) M2 (C ++ [col]) (a.getD col 0) R' X' ∧ R' ++ X' = R ++ X := by
  have hl := h.len
  have hCM := (List.getElem?_eq_some_iff.mp ha).1
  rcases X with _ | ⟨r, X⟩
  · simp at hl; omega
  have la : a.length = W := h.wid a (List.mem_of_getElem? ha)
  have pa : ∀ j, j < W → ph F (a.getD j 0) = ph F (low R C r j) := fun j hj => by
    have := h.lower 0 (by simp) j hj
    rw [gI_some (show M[C.length + 0]? = some a from ha)] at this
    simpa using this
  have hne2 : ph F (a.getD col 0) ≠ 0 := by
    intro e
    rw [ph_eq_zero g] at e
    by_cases hg : g = 0
    · subst hg; simp at e; exact hne (by simpa using e)
    · have hm : a.getD col 0 ∈ a := by rw [List.getD_eq_getElem?_getD, List.getElem?_eq_getElem (by omega)]; exact List.getElem_mem _
      have := (h.rng hg).1 a (List.mem_of_getElem? ha) _ hm
      rw [Int.emod_eq_of_lt this.1 this.2] at e
      exact hne e
  have hr : ph F (low R C r col) ≠ 0 := by rw [← pa col hc]; exact hne2
  have hcl := h.cl.take (Y := X) (r := r) (by simp) hr (fun x hx => by simp [hx])
  have ldne := h.ldne
  -- a lowered row
  have key : ∀ i ns, i ≠ C.length → M[i]? = some ns → ∀ j, j < W → ∀ z z0 : Int, ph F (ns.getD j 0) = ph F z0 → ∀ zc : Int, ph F (ns.getD col 0) = ph F zc →
      low R C r col * z0 - zc * low R C r j = det R C * z → ph F (gI M2 i j) = ph F z := by
    intro i ns hi hns j hj z z0 e0 zc ec e
    obtain ⟨out, ho, hL⟩ := hlow i ns hi hns
    have ln : ns.length = W := h.wid ns (List.mem_of_getElem? hns)
    rw [gI_some ho]
    refine hL.ph (by omega) (by omega) ldne ?_
    have e2 := congrArg (ph F) e
    simp only [ph_sub, ph_mul] at e2
    rw [pa col hc, pa j hj, e0, ec, h.ld]
    exact e2
  refine ⟨R ++ [r], X, ?_, by simp⟩
  refine ⟨hcl, ?_, ?_, ?_, ?_, pa col hc, ?_, ?_⟩
  · simp at hl ⊢; omega
  · intro r2 hr2
    obtain ⟨i, hi⟩ := List.mem_iff_getElem?.mp hr2
    by_cases e : i = C.length
    · subst e; rw [ht] at hi; cases hi; exact la
    · have hiM : i < M.length := by rw [← hl2]; exact (List.getElem?_eq_some_iff.mp hi).1
      obtain ⟨out, ho, hL⟩ := hlow i _ e (List.getElem?_eq_getElem hiM)
      rw [hi] at ho; cases ho
      have ln := h.wid _ (List.getElem_mem hiM)
      rw [hL.len (by omega)]; exact ln
  · intro i hi j hj
    rw [List.length_append, List.length_singleton] at hi
    by_cases e : i = C.length
    · subst e
      have e2 : (C ++ [col]).getD C.length 0 = col := by simp [List.getD_eq_getElem?_getD]
      rw [gI_some ht, pa j hj, e2, h.cl.good.upp_new (h.cl.ne hr)]
    · have hi2 : i < C.length := by omega
      have e2 : (C ++ [col]).getD i 0 = C.getD i 0 := by
        rw [List.getD_eq_getElem?_getD, List.getElem?_append_left hi2, ← List.getD_eq_getElem?_getD]
      rw [e2]
      have hm : C.getD i 0 ∈ C := by rw [List.getD_eq_getElem?_getD, List.getElem?_eq_getElem hi2]; exact List.getElem_mem _
      have hiM : i < M.length := by omega
      have g1 := List.getElem?_eq_getElem hiM
      have u1 := h.upper i hi2 j hj
      have u2 := h.upper i hi2 col hc
      rw [gI_some g1] at u1 u2
      exact key i _ e g1 j hj _ _ u1 _ u2 (h.cl.good.upp_step (h.cl.ne hr) hm j)
  · intro i hi j hj
    have hiM : C.length + (i + 1) < M.length := by rw [hl]; simp; omega
    have g1 := List.getElem?_eq_getElem hiM
    have u1 := h.lower (i + 1) (by simp; omega) j hj
    have u2 := h.lower (i + 1) (by simp; omega) col hc
    rw [gI_some g1] at u1 u2
    simp only [List.getD_cons_succ] at u1 u2
    have e3 : (C ++ [col]).length + i = C.length + (i + 1) := by simp; omega
    rw [e3]
    exact key _ _ (by omega) g1 j hj _ _ u1 _ u2 (h.cl.good.low_step (h.cl.ne hr) _ j)
  · intro hg
    obtain ⟨r1, r2⟩ := h.rng hg
    have ha2 := r1 a (List.mem_of_getElem? ha)
    refine ⟨fun r2' hr2' n hn => ?_, ha2 _ (by rw [List.getD_eq_getElem?_getD, List.getElem?_eq_getElem (by omega)]; exact List.getElem_mem _)⟩
    obtain ⟨i, hi⟩ := List.mem_iff_getElem?.mp hr2'
    by_cases e : i = C.length
    · subst e; rw [ht] at hi; cases hi; exact ha2 n hn
    · have hiM : i < M.length := by rw [← hl2]; exact (List.getElem?_eq_some_iff.mp hi).1
      obtain ⟨out, ho, hL⟩ := hlow i _ e (List.getElem?_eq_getElem hiM)
      rw [hi] at ho; cases ho
      obtain ⟨u, _, eo⟩ := hL.prime hg
      rw [eo] at hn
      obtain ⟨m, _, rfl⟩ := List.mem_map.mp hn
      exact ⟨Int.emod_nonneg _ (by omega), Int.emod_lt_of_pos _ (by omega)⟩
  · have := h.perm
    simpa using this

end
end Lin

/-! how far the numbers grow -/
namespace Lin
set_option autoImplicit false
set_option linter.unusedSimpArgs false

theorem ex_le (f : List Nat → Int) (r : Row) (b m N : Nat) (hr : ∀ c, (r c).natAbs ≤ b) (hf : ∀ D : List Nat, D.length ≤ N → (f D).natAbs ≤ m) :
    ∀ (C : List Nat) (s : Int) (P : List Nat), (s = 1 ∨ s = -1) → P.length + C.length ≤ N + 1 → (ex f r s P C).natAbs ≤ C.length * (b * m)
  | [], _, _, _, _ => by simp [ex]
  | c :: C, s, P, hs, hl => by
      have h1 := ex_le f r b m N hr hf C (-s) (P ++ [c]) (by omega) (by simp at hl ⊢; omega)
      have h2 : (s * r c * f (P ++ C)).natAbs ≤ b * m := by
        rw [Int.natAbs_mul, Int.natAbs_mul, show s.natAbs = 1 by omega, Nat.one_mul]
        exact Nat.mul_le_mul (hr c) (hf _ (by simp at hl ⊢; omega))
      simp only [ex, List.length_cons]
      have h3 := Int.natAbs_add_le (s * r c * f (P ++ C)) (ex f r (-s) (P ++ [c]) C)
      rw [Nat.succ_mul]
      omega

theorem det_le (b : Nat) : ∀ (R : List Row) (C : List Nat) (n : Nat), (∀ r ∈ R, ∀ c, (r c).natAbs ≤ b) → C.length ≤ n → 1 ≤ n * b → (det R C).natAbs ≤ (n * b) ^ R.length
  | [], [], _, _, _, _ => by simp [det]
  | [], _ :: _, _, _, _, _ => by simp [det]
  | r :: R, C, n, h, hl, hb => by
      have h1 := ex_le (det R) r b ((n * b) ^ R.length) n (h r (by simp)) (fun D hD => det_le b R D n (fun r hr => h r (by simp [hr])) hD hb) C 1 [] (by omega) (by simp; omega)
      simp only [det, List.length_cons]
      refine Nat.le_trans h1 ?_
      rw [Nat.pow_succ, Nat.mul_comm _ (n * b), Nat.mul_assoc]
      exact Nat.mul_le_mul hl (Nat.le_refl _)

theorem low_le {b : Nat} {R : List Row} {C : List Nat} {x : Row} (hR : ∀ r ∈ R, ∀ c, (r c).natAbs ≤ b) (hx : ∀ c, (x c).natAbs ≤ b) (hb : 1 ≤ b) (hl : C.length = R.length) (hk : R.length ≤ 12) (j : Nat) :
    (low R C x j).natAbs ≤ (13 * b) ^ 13 := by
  have h := det_le b (R ++ [x]) (C ++ [j]) 13 (fun r hr => by
    rcases List.mem_append.1 hr with hr | hr
    · exact hR r hr
    · rw [List.mem_singleton.1 hr]; exact hx) (by simp; omega) (by omega)
  refine Nat.le_trans h (Nat.pow_le_pow_right (by omega) (by simp; omega))

theorem det_le13 {b : Nat} {R : List Row} {C : List Nat} (hR : ∀ r ∈ R, ∀ c, (r c).natAbs ≤ b) (hb : 1 ≤ b) (hl : C.length = R.length) (hk : R.length ≤ 12) :
    (det R C).natAbs ≤ (13 * b) ^ 13 :=
  Nat.le_trans (det_le b R C 13 hR (by omega) (by omega)) (Nat.pow_le_pow_right (by omega) (by omega))

theorem upp_le {b : Nat} {R : List Row} {C : List Nat} (hR : ∀ r ∈ R, ∀ c, (r c).natAbs ≤ b) (hb : 1 ≤ b) (hl : C.length = R.length) (hk : R.length ≤ 12) (c j : Nat) :
    (upp R C c j).natAbs ≤ 2 * (13 * b) ^ 13 := by
  have hu : ∀ j, (unitAt c j).natAbs ≤ 1 := fun j => by unfold unitAt; split <;> simp
  have h1 := low_le hR (fun j => Nat.le_trans (hu j) hb) hb hl hk j
  have h2 := det_le13 hR hb hl hk
  have h3 : (det R C * unitAt c j).natAbs ≤ (13 * b) ^ 13 := by
    rw [Int.natAbs_mul]
    have := Nat.mul_le_mul h2 (hu j)
    omega
  have h4 := Int.natAbs_sub_le (det R C * unitAt c j) (low R C (unitAt c) j)
  unfold upp
  omega

theorem pow_grow (B : Nat) : 2 * (13 * 2 ^ B) ^ 13 < 2 ^ (13 * (B + 4) + 1) := by
  have h1 : 13 * 2 ^ B < 2 ^ (B + 4) := by rw [Nat.pow_add]; have := Nat.two_pow_pos B; omega
  have h2 : (13 * 2 ^ B) ^ 13 < (2 ^ (B + 4)) ^ 13 := Nat.pow_lt_pow_left h1 (by decide)
  rw [← Nat.pow_mul, Nat.mul_comm (B + 4) 13] at h2
  rw [Nat.pow_succ 2 (13 * (B + 4))]
  generalize (13 * 2 ^ B) ^ 13 = x at *
  generalize 2 ^ (13 * (B + 4)) = y at *
  omega

section
variable {F : Type} [Lean.Grind.Field F]
theorem CSt.small [Lean.Grind.IsCharP F 0] {A : List (List Int)} {W col : Nat} {M : List (List Int)} {C : List Nat} {lead : Int} {R X : List Row} (h : CSt F 0 A W col M C lead R X)
    {B : Nat} (hA : ∀ r ∈ A, ∀ n ∈ r, n.natAbs < 2 ^ B) (hl : A.length ≤ 12) :
    (∀ r ∈ M, ∀ n ∈ r, n.natAbs < 2 ^ (13 * (B + 4) + 1)) ∧ lead.natAbs < 2 ^ (13 * (B + 4) + 1) := by
  have hpos : 1 ≤ 2 ^ B := Nat.two_pow_pos B
  have hA2 : ∀ r ∈ R ++ X, ∀ c, (r c).natAbs ≤ 2 ^ B := fun r hr c => by
    obtain ⟨ns, hns, rfl⟩ := List.mem_map.1 (h.perm.mem_iff.1 hr)
    unfold fn
    rw [List.getD_eq_getElem?_getD]
    rcases Nat.lt_or_ge c ns.length with hc | hc
    · rw [List.getElem?_eq_getElem hc]
      exact Nat.le_of_lt (hA ns hns _ (List.getElem_mem hc))
    · rw [List.getElem?_eq_none hc]; simp
  have hR : ∀ r ∈ R, ∀ c, (r c).natAbs ≤ 2 ^ B := fun r hr => hA2 r (by simp [hr])
  have hk : R.length ≤ 12 := by
    have := h.perm.length_eq
    simp at this; omega
  have hcl := h.cl.good.len
  have hg := pow_grow B
  constructor
  · intro r hr n hn
    obtain ⟨i, hi⟩ := List.mem_iff_getElem?.mp hr
    obtain ⟨j, hj⟩ := List.mem_iff_getElem?.mp hn
    have hW := h.wid r hr
    have hjW : j < W := by rw [← hW]; exact (List.getElem?_eq_some_iff.mp hj).1
    have e : gI M i j = n := by rw [gI_some hi, getD_some hj]
    have hiM := (List.getElem?_eq_some_iff.mp hi).1
    rcases Nat.lt_or_ge i C.length with hc | hc
    · have h1 := h.upper i hc j hjW
      rw [e, ph_inj] at h1
      have := upp_le hR hpos hcl hk (C.getD i 0) j
      rw [h1]; omega
    · have hx : i - C.length < X.length := by have := h.len; omega
      have h1 := h.lower (i - C.length) hx j hjW
      rw [show C.length + (i - C.length) = i by omega, e, ph_inj] at h1
      have hm : X.getD (i - C.length) (fun _ => 0) ∈ X := by rw [List.getD_eq_getElem?_getD, List.getElem?_eq_getElem hx]; exact List.getElem_mem _
      have := low_le hR (hA2 _ (List.mem_append.2 (Or.inr hm))) hpos hcl hk j
      rw [h1]; omega
  · have h1 := h.ld
    rw [ph_inj] at h1
    have := det_le13 hR hpos hcl hk
    rw [h1]; omega
end
end Lin
/-! sizes of numbers, seen in the field; rows taken in one after the other -/
namespace Lin
set_option autoImplicit false
set_option linter.unusedSimpArgs false
section
variable {F : Type} [Lean.Grind.Field F]

/-- one bottom for all of them, and tops, of at most B bits -/
def Com (F : Type) [Lean.Grind.Field F] (g B : Nat) {ι : Type} (x : ι → F) : Prop := g = 0 → ∃ D : Int, ph F D ≠ 0 ∧ D.natAbs < 2 ^ B ∧ ∀ i, ∃ n : Int, x i * ph F D = ph F n ∧ n.natAbs < 2 ^ B

theorem Com.mono {g B C : Nat} {ι : Type} {x : ι → F} (h : Com F g B x) (hB : B ≤ C) : Com F g C x := fun g0 => by
  obtain ⟨D, h1, h2, h3⟩ := h g0
  have hp := Nat.pow_le_pow_right (n := 2) (by decide) hB
  exact ⟨D, h1, by omega, fun i => by obtain ⟨n, a, b⟩ := h3 i; exact ⟨n, a, by omega⟩⟩
theorem Com.re {g B : Nat} {ι κ : Type} {x : ι → F} (h : Com F g B x) (f : κ → ι) : Com F g B (fun k => x (f k)) := fun g0 => by
  obtain ⟨D, h1, h2, h3⟩ := h g0
  exact ⟨D, h1, h2, fun k => h3 (f k)⟩
theorem Com.congr {g B : Nat} {ι : Type} {x y : ι → F} (h : Com F g B x) (e : ∀ i, x i = y i) : Com F g B y := by
  rw [show y = x from funext fun i => (e i).symm]; exact h
theorem Com.int {g B : Nat} {ι : Type} (f : ι → Int) (hB : 1 ≤ B) (h : ∀ i, (f i).natAbs < 2 ^ B) : Com F g B (fun i => ph F (f i)) := fun _ =>
  ⟨1, by rw [ph_one]; exact one_ne, by
    have := Nat.pow_le_pow_right (n := 2) (by decide) hB
    simp at this ⊢; omega, fun i => ⟨f i, by rw [ph_one]; grind, h i⟩⟩
theorem Com.over {g B : Nat} {ι : Type} (f : ι → Int) (d : Int) (hd : ph F d ≠ 0) (hB : d.natAbs < 2 ^ B) (h : ∀ i, (f i).natAbs < 2 ^ B) : Com F g B (fun i => ph F (f i) * (ph F d)⁻¹) := fun _ =>
  ⟨d, hd, hB, fun i => ⟨f i, by grind, h i⟩⟩
theorem Com.neg {g B : Nat} {ι : Type} {x : ι → F} (h : Com F g B x) : Com F g B (fun i => - x i) := fun g0 => by
  obtain ⟨D, h1, h2, h3⟩ := h g0
  exact ⟨D, h1, h2, fun i => by obtain ⟨n, a, b⟩ := h3 i; exact ⟨-n, by rw [ph_neg, ← a]; grind, by rw [Int.natAbs_neg]; exact b⟩⟩
theorem nat_mul_lt {a b x y : Nat} (hx : x < 2 ^ a) (hy : y < 2 ^ b) : x * y < 2 ^ (a + b) := by
  rw [Nat.pow_add]
  exact Nat.mul_lt_mul'' hx hy
theorem Com.mul {g B C : Nat} {ι : Type} {x y : ι → F} (hx : Com F g B x) (hy : Com F g C y) : Com F g (B + C) (fun i => x i * y i) := fun g0 => by
  obtain ⟨D, h1, h2, h3⟩ := hx g0
  obtain ⟨E, k1, k2, k3⟩ := hy g0
  refine ⟨D * E, by rw [ph_mul]; grind, by rw [Int.natAbs_mul]; exact nat_mul_lt h2 k2, fun i => ?_⟩
  obtain ⟨n, a, b⟩ := h3 i
  obtain ⟨m, c, d⟩ := k3 i
  exact ⟨n * m, by rw [ph_mul, ph_mul, ← a, ← c]; grind, by rw [Int.natAbs_mul]; exact nat_mul_lt b d⟩
theorem Com.add {g B C : Nat} {ι : Type} {x y : ι → F} (hx : Com F g B x) (hy : Com F g C y) : Com F g (B + C + 1) (fun i => x i + y i) := fun g0 => by
  obtain ⟨D, h1, h2, h3⟩ := hx g0
  obtain ⟨E, k1, k2, k3⟩ := hy g0
  have hp : 2 ^ (B + C) < 2 ^ (B + C + 1) := Nat.pow_lt_pow_right (by decide) (by omega)
  refine ⟨D * E, by rw [ph_mul]; grind, by rw [Int.natAbs_mul]; exact Nat.lt_trans (nat_mul_lt h2 k2) hp, fun i => ?_⟩
  obtain ⟨n, a, b⟩ := h3 i
  obtain ⟨m, c, d⟩ := k3 i
  refine ⟨n * E + m * D, by rw [ph_add, ph_mul, ph_mul, ph_mul, ← a, ← c]; grind, ?_⟩
  have e1 := nat_mul_lt b k2
  have e2 := nat_mul_lt d h2
  rw [← Int.natAbs_mul] at e1 e2
  rw [Nat.add_comm C B] at e2
  have e3 := Int.natAbs_add_le (n * E) (m * D)
  rw [Nat.pow_succ]
  omega
theorem Com.inv {g B : Nat} {x : F} (hx : x ≠ 0) (h : Com F g B (fun _ : Unit => x)) : Com F g B (fun _ : Unit => x⁻¹) := fun g0 => by
  obtain ⟨D, h1, h2, h3⟩ := h g0
  obtain ⟨n, a, b⟩ := h3 ()
  refine ⟨n, ?_, b, fun _ => ⟨D, ?_, h2⟩⟩
  · rw [← a]; grind
  · rw [← a]; grind
theorem sum_top {x : Nat → F} {D : Int} {B : Nat} (h : ∀ j, ∃ n : Int, x j * ph F D = ph F n ∧ n.natAbs < 2 ^ B) : ∀ L : List Nat, ∃ n : Int, sm L x * ph F D = ph F n ∧ n.natAbs ≤ L.length * 2 ^ B
  | [] => ⟨0, by simp only [sm, ph_zero]; grind, by simp⟩
  | j :: L => by
    obtain ⟨n, a, b⟩ := h j
    obtain ⟨m, c, d⟩ := sum_top h L
    refine ⟨n + m, by simp only [sm]; rw [ph_add, ← a, ← c]; grind, ?_⟩
    have := Int.natAbs_add_le n m
    rw [List.length_cons, Nat.succ_mul]
    omega
theorem Com.sum {g B k : Nat} {ι : Type} {x : ι → Nat → F} (h : Com F g B (fun p : ι × Nat => x p.1 p.2)) (L : List Nat) (hk : L.length < 2 ^ k) : Com F g (B + k) (fun i => sm L (x i)) := fun g0 => by
  obtain ⟨D, h1, h2, h3⟩ := h g0
  have hp : 2 ^ B ≤ 2 ^ (B + k) := Nat.pow_le_pow_right (by decide) (by omega)
  refine ⟨D, h1, by omega, fun i => ?_⟩
  obtain ⟨n, a, b⟩ := sum_top (fun j => h3 (i, j)) L
  refine ⟨n, a, ?_⟩
  rw [Nat.pow_add, Nat.mul_comm]
  exact Nat.lt_of_le_of_lt b (Nat.mul_lt_mul_of_pos_right hk (Nat.pow_pos (by decide)))
/-- .. so a number in lowest terms is as small -/
theorem Com.sz [Lean.Grind.IsCharP F 0] {B : Nat} {ι : Type} {x : ι → F} (h : Com F 0 B x) (i : ι) {a b : Int} (hb : 1 ≤ b) (hc : Nat.gcd a.natAbs b.natAbs = 1) (e : val F a b = x i) : a.natAbs < 2 ^ B ∧ b.natAbs < 2 ^ B := by
  obtain ⟨D, h1, h2, h3⟩ := h rfl
  obtain ⟨n, h4, h5⟩ := h3 i
  have hb0 : ph F b ≠ 0 := fun h => by rw [ph_eq_zero 0] at h; omega
  have e2 : a * D = n * b := by
    rw [← ph_inj (F := F), ph_mul, ph_mul, ← h4, ← e, val]; grind
  have hD : D ≠ 0 := fun h => h1 (by rw [h, ph_zero])
  have e3 := congrArg Int.natAbs e2
  rw [Int.natAbs_mul, Int.natAbs_mul] at e3
  have d1 : b.natAbs ∣ D.natAbs := by
    have : b.natAbs ∣ a.natAbs * D.natAbs := by rw [e3]; exact Nat.dvd_mul_left _ _
    exact (Nat.Coprime.symm hc).dvd_of_dvd_mul_left this
  have d2 : a.natAbs ∣ n.natAbs := by
    have : a.natAbs ∣ n.natAbs * b.natAbs := by rw [← e3]; exact Nat.dvd_mul_right _ _
    exact Nat.Coprime.dvd_of_dvd_mul_right hc this
  have l1 := Nat.le_of_dvd (by omega) d1
  refine ⟨?_, by omega⟩
  by_cases hn : n = 0
  · subst hn
    have : a.natAbs * D.natAbs = 0 := by rw [e3]; simp
    have : a.natAbs = 0 := (Nat.mul_eq_zero.mp this).resolve_right (by omega)
    rw [this]; exact Nat.pow_pos (by decide)
  · have := Nat.le_of_dvd (by omega) d2
    omega

/-- rows r 0, .., r (k - 1) taken in one after the other -/
structure LS (F : Type) [Lean.Grind.Field F] (g : Nat) (r : Nat → Row) (k : Nat) (C : List Nat) (ρ : Nat → Nat → F) : Prop where
  red : Red C ρ
  ins : ∀ i, i < k → In C ρ (fun j => ph F (r i j))
  gen : ∀ c ∈ C, Gen (fun v => ∃ i, i < k ∧ v = fun j => ph F (r i j)) (ρ c)
  big : ∃ R, Good R C ∧ ph F (det R C) ≠ 0 ∧ (∀ x ∈ R, ∃ i, i < k ∧ x = r i) ∧ ∀ c ∈ C, ∀ j, ρ c j = rho F R C c j
  few : C.length ≤ k

theorem LS.init (g : Nat) (r : Nat → Row) (ρ : Nat → Nat → F) : LS F g r 0 [] ρ where
  red := ⟨List.nodup_nil, by simp, by simp, by simp⟩
  ins := fun i h => by omega
  gen := by simp
  big := ⟨[], Good.nil, by rw [show det [] [] = 1 from rfl, ph_one]; exact one_ne, by simp, by simp⟩
  few := Nat.le_refl _
/-- what is left of the next row -/
def left (F : Type) [Lean.Grind.Field F] (r : Nat → Row) (k : Nat) (C : List Nat) (ρ : Nat → Nat → F) (j : Nat) : F := ph F (r k j) - sm C (fun c => ph F (r k c) * ρ c j)
theorem Gen.mono {S T : (Nat → F) → Prop} (h : ∀ v, S v → T v) {v : Nat → F} (hv : Gen S v) : Gen T v := hv.trans fun v hs => .mem (h v hs)
theorem LS.left_low {g : Nat} {r : Nat → Row} {k : Nat} {C : List Nat} {ρ : Nat → Nat → F} (h : LS F g r k C ρ) {R : List Row} (hG : Good R C) (hd : ph F (det R C) ≠ 0) (hr : ∀ c ∈ C, ∀ j, ρ c j = rho F R C c j) (j : Nat) : left F r k C ρ j = ph F (low R C (r k) j) * (ph F (det R C))⁻¹ := by
  have h1 := congrArg (ph F) (hG.expand h.red.nodup (r k) j)
  rw [ph_add, ph_mul, ph_sm] at h1
  have h3 : sm C (fun c => ph F (r k c) * ρ c j) = (ph F (det R C))⁻¹ * sm C (fun c => ph F (r k c * upp R C c j)) := by
    rw [← sm_mul]
    exact sm_congr C (fun c hc => by rw [hr c hc]; simp only [rho, ph_mul]; grind)
  unfold left
  rw [h3]
  grind
theorem LS.none {g : Nat} {r : Nat → Row} {k : Nat} {C : List Nat} {ρ : Nat → Nat → F} (h : LS F g r k C ρ) (hz : ∀ j, left F r k C ρ j = 0) : LS F g r (k + 1) C ρ where
  red := h.red
  ins := fun i hi => by
    by_cases e : i = k
    · subst e; exact In.of_less (fun j => hz j)
    · exact h.ins i (by omega)
  gen := fun c hc => (h.gen c hc).mono fun v ⟨i, hi, e⟩ => ⟨i, by omega, e⟩
  big := by
    obtain ⟨R, h1, h2, h3, h4⟩ := h.big
    exact ⟨R, h1, h2, fun x hx => by obtain ⟨i, hi, e⟩ := h3 x hx; exact ⟨i, by omega, e⟩, h4⟩
  few := by have := h.few; omega
theorem LS.take {g : Nat} {r : Nat → Row} {k : Nat} {C : List Nat} {ρ : Nat → Nat → F} (h : LS F g r k C ρ) {l : Nat} (hl : left F r k C ρ l ≠ 0) (hf : ∀ j, j < l → left F r k C ρ j = 0) : LS F g r (k + 1) (C ++ [l]) (more ρ (left F r k C ρ) l) := by
  have hz : ∀ c ∈ C, left F r k C ρ c = 0 := fun c hc => h.red.less_lead (fun j => ph F (r k j)) hc
  have hlC : l ∉ C := fun hc => hl (hz l hc)
  refine ⟨h.red.more hl hf hz, fun i hi => ?_, fun c hc => ?_, ?_, by simp; exact h.few⟩
  · by_cases e : i = k
    · subst e; exact In.more_row h.red hl (fun j => rfl)
    · exact In.more hl hz (h.ins i (by omega))
  · have gk : Gen (fun v => ∃ i, i < k + 1 ∧ v = fun j => ph F (r i j)) (left F r k C ρ) := by
      have h1 : Gen (fun v => ∃ i, i < k + 1 ∧ v = fun j => ph F (r i j)) (fun j => ph F (r k j)) := .mem ⟨k, by omega, rfl⟩
      have h2 := Gen.sum (S := fun v => ∃ i, i < k + 1 ∧ v = fun j => ph F (r i j)) (fun c => ph F (r k c)) ρ C fun c hc => (h.gen c hc).mono fun v ⟨i, hi, e⟩ => ⟨i, by omega, e⟩
      have h3 := h1.sub 1 h2
      have e : (fun j => ph F (r k j) - 1 * sm C (fun d => ph F (r k d) * ρ d j)) = left F r k C ρ := funext fun j => by unfold left; grind
      rwa [e] at h3
    rcases List.mem_append.1 hc with hc | hc
    · have hne : c ≠ l := fun e => hlC (e ▸ hc)
      have h1 := ((h.gen c hc).mono (T := fun v => ∃ i, i < k + 1 ∧ v = fun j => ph F (r i j)) fun v ⟨i, hi, e⟩ => ⟨i, by omega, e⟩).sub (ρ c l * (left F r k C ρ l)⁻¹) gk
      have e : (fun j => ρ c j - ρ c l * (left F r k C ρ l)⁻¹ * left F r k C ρ j) = more ρ (left F r k C ρ) l c := funext fun j => by rw [more_old hne]; grind
      rwa [e] at h1
    · rw [List.mem_singleton.1 hc]
      have h1 := gk.mul ((left F r k C ρ l)⁻¹)
      have e : (fun j => (left F r k C ρ l)⁻¹ * left F r k C ρ j) = more ρ (left F r k C ρ) l l := funext fun j => by rw [more_new]
      rwa [e] at h1
  · obtain ⟨R, hG, hd, hR, hr⟩ := h.big
    have hv := h.left_low hG hd hr
    have hp : ph F (low R C (r k) l) ≠ 0 := fun e => hl (by rw [hv, e]; grind)
    have hp0 : low R C (r k) l ≠ 0 := fun e => hp (by rw [e, ph_zero])
    refine ⟨R ++ [r k], hG.push hp0, hp, fun x hx => ?_, fun c hc j => ?_⟩
    · rcases List.mem_append.1 hx with hx | hx
      · obtain ⟨i, hi, e⟩ := hR x hx; exact ⟨i, by omega, e⟩
      · exact ⟨k, by omega, List.mem_singleton.1 hx⟩
    · unfold rho
      rw [det_push]
      rcases List.mem_append.1 hc with hc | hc
      · have hne : c ≠ l := fun e => hlC (e ▸ hc)
        have h2 := congrArg (ph F) (hG.upp_step hp0 hc j)
        simp only [ph_sub, ph_mul] at h2
        rw [more_old hne, hr c hc, hr c hc, hv, hv]
        unfold rho
        grind
      · rw [List.mem_singleton.1 hc, more_new, hG.upp_new hp0, hv, hv]
        grind
theorem LS.com [Lean.Grind.IsCharP F 0] {r : Nat → Row} {k : Nat} {C : List Nat} {ρ : Nat → Nat → F} (h : LS F 0 r k C ρ) (hk : k ≤ 12) {B : Nat} (hb : ∀ i, i < k → ∀ j, (r i j).natAbs < 2 ^ B) : Com F 0 (13 * (B + 4) + 1) (fun p : {c // c ∈ C} × Nat => ρ p.1 p.2) := fun _ => by
  obtain ⟨R, hG, hd, hR, hr⟩ := h.big
  have h12 : R.length ≤ 12 := by rw [← hG.len]; have := h.few; omega
  have hle : ∀ x ∈ R, ∀ c, (x c).natAbs ≤ 2 ^ B := fun x hx c => by
    obtain ⟨i, hi, rfl⟩ := hR x hx
    exact Nat.le_of_lt (hb i hi c)
  have h1 := det_le13 hle (Nat.pow_pos (by decide)) hG.len h12
  have h2 := pow_grow B
  refine ⟨det R C, hd, by omega, fun p => ⟨upp R C p.1 p.2, ?_, ?_⟩⟩
  · show ρ p.1 p.2 * _ = _
    rw [hr p.1 p.1.2]; unfold rho; grind
  · have := upp_le hle (Nat.pow_pos (by decide)) hG.len h12 p.1 p.2
    omega

theorem least_ne {f : Nat → F} (h : ¬ ∀ j, f j = 0) : ∃ c, f c ≠ 0 ∧ ∀ j, j < c → f j = 0 := by
  have key : ∀ n, (∀ j, j < n → f j = 0) ∨ ∃ c, f c ≠ 0 ∧ ∀ j, j < c → f j = 0 := by
    intro n
    induction n with
    | zero => exact .inl fun j hj => by omega
    | succ n ih =>
      rcases ih with ih | ih
      · by_cases e : f n = 0
        · refine .inl fun j hj => ?_
          by_cases ej : j = n
          · rw [ej]; exact e
          · exact ih j (by omega)
        · exact .inr ⟨n, e, ih⟩
      · exact .inr ih
  refine Classical.byContradiction fun hn => h fun j => ?_
  rcases key (j + 1) with h1 | h1
  · exact h1 j (by omega)
  · exact absurd h1 hn
theorem mul_zero_left {x b : F} (hb : b ≠ 0) (h : x * b = 0) : x = 0 := by grind
/-- reduced rows of the rows of S -/
structure RB (S : (Nat → F) → Prop) (C : List Nat) (ρ : Nat → Nat → F) : Prop where
  red : Red C ρ
  asc : C.Pairwise (· < ·)
  ins : ∀ v, S v → In C ρ v
  gen : ∀ c ∈ C, Gen S (ρ c)
theorem asc_eq : ∀ {C D : List Nat}, C.Pairwise (· < ·) → D.Pairwise (· < ·) → (∀ c, c ∈ C ↔ c ∈ D) → C = D
  | [], [], _, _, _ => rfl
  | [], d :: D, _, _, h => absurd ((h d).2 (by simp)) (by simp)
  | c :: C, [], _, _, h => absurd ((h c).1 (by simp)) (by simp)
  | c :: C, d :: D, hC, hD, h => by
    have hC' := List.pairwise_cons.1 hC
    have hD' := List.pairwise_cons.1 hD
    have e : c = d := by
      have h1 := (h c).1 (by simp)
      have h2 := (h d).2 (by simp)
      rcases List.mem_cons.1 h1 with e | h1
      · exact e
      · rcases List.mem_cons.1 h2 with e | h2
        · exact e.symm
        · have := hC'.1 d h2
          have := hD'.1 c h1
          omega
    subst e
    rw [asc_eq hC'.2 hD'.2 fun x => ?_]
    have hx := h x
    simp only [List.mem_cons] at hx
    constructor
    · intro hm
      rcases hx.1 (.inr hm) with e | e
      · have := hC'.1 x hm; omega
      · exact e
    · intro hm
      rcases hx.2 (.inr hm) with e | e
      · have := hD'.1 x hm; omega
      · exact e
theorem RB.same {S : (Nat → F) → Prop} {C D : List Nat} {ρ σ : Nat → Nat → F} (h : RB S C ρ) (k : RB S D σ) : C = D ∧ ∀ c ∈ C, ∀ j, ρ c j = σ c j := by
  obtain ⟨h1, h2⟩ := h.red.same k.red h.ins k.ins h.gen k.gen
  exact ⟨asc_eq h.asc k.asc h1, h2⟩
theorem RB.of_span {S T : (Nat → F) → Prop} {C : List Nat} {ρ : Nat → Nat → F} (h : RB S C ρ) (h1 : ∀ v, S v → Gen T v) (h2 : ∀ v, T v → Gen S v) : RB T C ρ :=
  ⟨h.red, h.asc, fun v hv => (h2 v hv).in h.ins, fun c hc => (h.gen c hc).trans h1⟩
theorem Red.perm {C D : List Nat} {ρ : Nat → Nat → F} (h : Red C ρ) (p : D.Perm C) : Red D ρ :=
  ⟨p.nodup_iff.2 h.nodup, fun c hc => h.one c (p.mem_iff.1 hc), fun c hc d hd => h.zero c (p.mem_iff.1 hc) d (p.mem_iff.1 hd), fun c hc => h.first c (p.mem_iff.1 hc)⟩
theorem LS.rb {g : Nat} {r : Nat → Row} {k : Nat} {C D : List Nat} {ρ : Nat → Nat → F} (h : LS F g r k C ρ) (p : D.Perm C) (ha : D.Pairwise (· < ·)) : RB (fun v => ∃ i, i < k ∧ v = fun j => ph F (r i j)) D ρ :=
  ⟨h.red.perm p, ha, fun v ⟨i, hi, e⟩ => by
    subst e
    intro j
    rw [sm_perm _ p]
    exact h.ins i hi j, fun c hc => h.gen c (p.mem_iff.1 hc)⟩
theorem gen_mix : ∀ (R : List Row) (T : List Int), T.length = R.length → Gen (fun v => ∃ x ∈ R, v = fun j => ph F (x j)) (fun j => ph F (mix T R j))
  | [], T, _ => by
    have e : (fun j => ph F (mix T [] j)) = fun _ : Nat => (0 : F) := funext fun j => by cases T <;> exact ph_zero
    rw [e]; exact .zero
  | x :: R, [], h => absurd h (by simp)
  | x :: R, t :: T, h => by
    have h1 := (gen_mix R T (by simpa using h)).mono (T := fun v => ∃ y ∈ x :: R, v = fun j => ph F (y j)) fun v ⟨y, hy, e⟩ => ⟨y, by simp [hy], e⟩
    have h2 : Gen (fun v => ∃ y ∈ x :: R, v = fun j => ph F (y j)) (fun j => ph F (x j)) := .mem ⟨x, by simp, rfl⟩
    have h3 := (h2.mul (ph F t)).add h1
    have e : (fun j => ph F t * ph F (x j) + ph F (mix T R j)) = fun j => ph F (mix (t :: T) (x :: R) j) := funext fun j => by simp only [mix, ph_add, ph_mul]
    rwa [e] at h3
theorem zero_beyond {R : List Row} {W : Nat} {f : Row} (h : InSpan R f) (hz : ∀ x ∈ R, ∀ j, W ≤ j → x j = 0) : ∀ j, W ≤ j → f j = 0 := by
  obtain ⟨T, hT, h⟩ := h
  intro j hj
  rw [h]
  clear h
  induction R generalizing T with
  | nil => cases T <;> rfl
  | cons x R ih =>
    cases T with
    | nil => rfl
    | cons t T =>
      simp only [mix]
      rw [hz x (by simp) j hj, ih (fun y hy => hz y (by simp [hy])) T (by simpa using hT)]
      simp
theorem CSt.rb {g : Nat} {A : List (List Int)} {W : Nat} {M : List (List Int)} {C : List Nat} {lead : Int} {R X : List Row} (h : CSt F g A W W M C lead R X) (hW : ∀ ns ∈ A, ns.length = W) : RB (fun v => ∃ ns ∈ A, v = fun j => ph F (fn ns j)) C (rho F R C) := by
  have hA : ∀ x, x ∈ R ++ X ↔ ∃ ns ∈ A, fn ns = x := fun x => by rw [h.perm.mem_iff, List.mem_map]
  have hz : ∀ x ∈ R ++ X, ∀ j, W ≤ j → x j = 0 := fun x hx j hj => by
    obtain ⟨ns, hns, rfl⟩ := (hA x).1 hx
    unfold fn
    rw [List.getD_eq_getElem?_getD, List.getElem?_eq_none (by rw [hW ns hns]; exact hj)]; rfl
  refine ⟨h.cl.red, h.cl.asc, fun v ⟨ns, hns, e⟩ => ?_, fun c hc => ?_⟩
  · subst e
    intro j
    have hm := (hA (fn ns)).2 ⟨ns, hns, rfl⟩
    by_cases hj : j < W
    · refine h.cl.inAt (fn ns) j ?_
      rcases List.mem_append.1 hm with hm | hm
      · rw [h.cl.good.low_row hm, ph_zero]
      · exact h.cl.lowz _ hm j hj
    · have hj2 : W ≤ j := by omega
      show ph F (fn ns j) = sm C fun c => ph F (fn ns c) * rho F R C c j
      rw [hz _ hm j hj2, ph_zero, sm_zero]
      intro c hc
      have : rho F R C c j = 0 := by
        unfold rho
        rw [zero_beyond (upp_span R C c) (fun x hx => hz x (by simp [hx])) j hj2, ph_zero]; grind
      rw [this]; grind
  · obtain ⟨T, hT, e⟩ := upp_span R C c
    have h1 := (gen_mix (F := F) R T hT).mul ((ph F (det R C))⁻¹)
    have h2 : (fun j => (ph F (det R C))⁻¹ * ph F (mix T R j)) = rho F R C c := funext fun j => by unfold rho; rw [e]; grind
    rw [h2] at h1
    exact h1.mono fun v ⟨x, hx, e⟩ => by
      obtain ⟨ns, hns, rfl⟩ := (hA x).1 (by simp [hx])
      exact ⟨ns, hns, e⟩
theorem Gen.coef {J : List Nat} {u : Nat → Nat → F} (hJ : J.Nodup) {v : Nat → F} (hv : Gen (fun v => ∃ j ∈ J, v = u j) v) : ∃ m : Nat → F, ∀ i, v i = sm J (fun j => m j * u j i) := by
  induction hv with
  | mem hs =>
    obtain ⟨j, hj, rfl⟩ := hs
    refine ⟨fun k => if k = j then 1 else 0, fun i => ?_⟩
    dsimp only
    rw [sm_delta _ j J hJ hj (fun k hk hn => by rw [if_neg hn]; grind), if_pos rfl]; grind
  | zero => exact ⟨fun _ => 0, fun i => by rw [sm_zero]; intro j _; grind⟩
  | add _ _ h1 h2 =>
    obtain ⟨m, h1⟩ := h1
    obtain ⟨n, h2⟩ := h2
    refine ⟨fun j => m j + n j, fun i => ?_⟩
    dsimp only
    rw [h1, h2, ← sm_add]
    exact sm_congr _ fun j _ => by grind
  | mul k _ h1 =>
    obtain ⟨m, h1⟩ := h1
    refine ⟨fun j => k * m j, fun i => ?_⟩
    dsimp only
    rw [h1, ← sm_mul]
    exact sm_congr _ fun j _ => by grind
theorem rank_le {a : Nat → Nat → F} {h W : Nat} {C D : List Nat} {ρ σ : Nat → Nat → F} (hC : RB (fun v => ∃ i, i < h ∧ v = a i) C ρ) (hD : RB (fun v => ∃ j, j < W ∧ v = fun i => a i j) D σ) (hz : ∀ i j, h ≤ i → a i j = 0) : D.length ≤ C.length := by
  have hg : ∀ d ∈ D, ∃ m : Nat → F, ∀ i, σ d i = sm (List.range W) (fun j => m j * a i j) := fun d hd =>
    Gen.coef (u := fun j i => a i j) List.nodup_range ((hD.gen d hd).mono fun v ⟨j, hj, e⟩ => ⟨j, by simpa using hj, e⟩)
  classical
  refine turn_le (J := List.range W) (ρ := ρ) a (fun d => if hd : d ∈ D then (hg d hd).choose else fun _ => 0) hD.red (fun i hi j _ => ?_) (fun d hd i _ => ?_)
  · by_cases e : i < h
    · exact hC.ins _ ⟨i, e, rfl⟩ j
    · rw [hz i j (by omega), sm_zero]
      intro c _
      rw [hz i c (by omega)]; grind
  · simp only [dif_pos hd]
    exact (hg d hd).choose_spec i
theorem rank_eq {a : Nat → Nat → F} {h W : Nat} {C D : List Nat} {ρ σ : Nat → Nat → F} (hC : RB (fun v => ∃ i, i < h ∧ v = a i) C ρ) (hD : RB (fun v => ∃ j, j < W ∧ v = fun i => a i j) D σ) (hz : ∀ i j, h ≤ i → a i j = 0) (hz2 : ∀ i j, W ≤ j → a i j = 0) : C.length = D.length := by
  have h1 := rank_le hC hD hz
  have h2 := rank_le (a := fun j i => a i j) (h := W) (W := h) hD hC (fun i j hi => hz2 j i hi)
  omega
end
end Lin
/-! Determinants of one to four rows over a field. -/
namespace Lin
section
variable {F : Type} [Lean.Grind.Field F]
def D (n : Nat) (a : Nat → Nat → F) : F := match n with
  | 1 => a 0 0
  | 2 => a 0 0 * a 1 1 - a 0 1 * a 1 0
  | 3 => a 0 0 * (a 1 1 * a 2 2 - a 1 2 * a 2 1) - a 0 1 * (a 1 0 * a 2 2 - a 1 2 * a 2 0) + a 0 2 * (a 1 0 * a 2 1 - a 1 1 * a 2 0)
  | 4 => (a 0 0 * a 1 1 - a 0 1 * a 1 0) * (a 2 2 * a 3 3 - a 2 3 * a 3 2) - (a 0 0 * a 1 2 - a 0 2 * a 1 0) * (a 2 1 * a 3 3 - a 2 3 * a 3 1) + (a 0 0 * a 1 3 - a 0 3 * a 1 0) * (a 2 1 * a 3 2 - a 2 2 * a 3 1)
       + (a 0 1 * a 1 2 - a 0 2 * a 1 1) * (a 2 0 * a 3 3 - a 2 3 * a 3 0) - (a 0 1 * a 1 3 - a 0 3 * a 1 1) * (a 2 0 * a 3 2 - a 2 2 * a 3 0) + (a 0 2 * a 1 3 - a 0 3 * a 1 2) * (a 2 0 * a 3 1 - a 2 1 * a 3 0)
  | _ => 0
theorem D_turn (n : Nat) (a : Nat → Nat → F) : D n (fun i j => a j i) = D n a := by
  match n with
  | 0 | 1 => rfl
  | 2 => simp only [D]; grind
  | 3 => simp only [D]; grind
  | 4 => simp only [D]; grind
  | n + 5 => rfl
theorem D_scale (n : Nat) (a : Nat → Nat → F) (w : Nat → F) (p : F) (hp : p = match n with | 1 => w 0 | 2 => w 0 * w 1 | 3 => w 0 * w 1 * w 2 | _ => w 0 * w 1 * w 2 * w 3) : D n (fun i j => w i * a i j) = p * D n a := by
  subst hp
  match n with
  | 0 => simp only [D]; grind
  | 1 => rfl
  | 2 => simp only [D]; grind
  | 3 => simp only [D]; grind
  | 4 => simp only [D]; grind
  | n + 5 => simp only [D]; grind
theorem D_swap {n i j : Nat} {a b : Nat → Nat → F} (hi : i < n) (hj : j < n) (hij : i ≠ j) (h : ∀ k, b k = if k = j then a i else if k = i then a j else a k) : D n b = - D n a := by
  have e0 := h 0
  have e1 := h 1
  have e2 := h 2
  have e3 := h 3
  clear h
  match n, i, j, hi, hj, hij with
  | 1, i, j, hi, hj, hij => omega
  | 2, 0, 1, _, _, _ => simp at e0 e1; simp only [D, e0, e1]; grind
  | 2, 1, 0, _, _, _ => simp at e0 e1; simp only [D, e0, e1]; grind
  | 3, 0, 1, _, _, _ => simp at e0 e1 e2; simp only [D, e0, e1, e2]; grind
  | 3, 0, 2, _, _, _ => simp at e0 e1 e2; simp only [D, e0, e1, e2]; grind
  | 3, 1, 0, _, _, _ => simp at e0 e1 e2; simp only [D, e0, e1, e2]; grind
  | 3, 1, 2, _, _, _ => simp at e0 e1 e2; simp only [D, e0, e1, e2]; grind
  | 3, 2, 0, _, _, _ => simp at e0 e1 e2; simp only [D, e0, e1, e2]; grind
  | 3, 2, 1, _, _, _ => simp at e0 e1 e2; simp only [D, e0, e1, e2]; grind
  | 4, 0, 1, _, _, _ => simp at e0 e1 e2 e3; simp only [D, e0, e1, e2, e3]; grind
  | 4, 0, 2, _, _, _ => simp at e0 e1 e2 e3; simp only [D, e0, e1, e2, e3]; grind
  | 4, 0, 3, _, _, _ => simp at e0 e1 e2 e3; simp only [D, e0, e1, e2, e3]; grind
  | 4, 1, 0, _, _, _ => simp at e0 e1 e2 e3; simp only [D, e0, e1, e2, e3]; grind
  | 4, 1, 2, _, _, _ => simp at e0 e1 e2 e3; simp only [D, e0, e1, e2, e3]; grind
  | 4, 1, 3, _, _, _ => simp at e0 e1 e2 e3; simp only [D, e0, e1, e2, e3]; grind
  | 4, 2, 0, _, _, _ => simp at e0 e1 e2 e3; simp only [D, e0, e1, e2, e3]; grind
  | 4, 2, 1, _, _, _ => simp at e0 e1 e2 e3; simp only [D, e0, e1, e2, e3]; grind
  | 4, 2, 3, _, _, _ => simp at e0 e1 e2 e3; simp only [D, e0, e1, e2, e3]; grind
  | 4, 3, 0, _, _, _ => simp at e0 e1 e2 e3; simp only [D, e0, e1, e2, e3]; grind
  | 4, 3, 1, _, _, _ => simp at e0 e1 e2 e3; simp only [D, e0, e1, e2, e3]; grind
  | 4, 3, 2, _, _, _ => simp at e0 e1 e2 e3; simp only [D, e0, e1, e2, e3]; grind
  | 0, _, _, hi, _, _ => omega
  | n + 5, i, j, _, _, _ => simp only [D]; grind
  | 2, 0, 0, _, _, h => exact absurd rfl h
  | 2, 1, 1, _, _, h => exact absurd rfl h
  | 3, 0, 0, _, _, h => exact absurd rfl h
  | 3, 1, 1, _, _, h => exact absurd rfl h
  | 3, 2, 2, _, _, h => exact absurd rfl h
  | 4, 0, 0, _, _, h => exact absurd rfl h
  | 4, 1, 1, _, _, h => exact absurd rfl h
  | 4, 2, 2, _, _, h => exact absurd rfl h
  | 4, 3, 3, _, _, h => exact absurd rfl h
def mn (r s : Nat → F) (p q : Nat) : F := r p * s q - r q * s p
def sm4 (f : Nat → F) : F := f 0 + f 1 + f 2 + f 3
theorem D4_lap (a : Nat → Nat → F) : D 4 a = ((mn (a 0) (a 1) 0 1 * mn (a 2) (a 3) 2 3)) + (-(mn (a 0) (a 1) 0 2 * mn (a 2) (a 3) 1 3)) + ((mn (a 0) (a 1) 0 3 * mn (a 2) (a 3) 1 2)) + ((mn (a 0) (a 1) 1 2 * mn (a 2) (a 3) 0 3)) + (-(mn (a 0) (a 1) 1 3 * mn (a 2) (a 3) 0 2)) + ((mn (a 0) (a 1) 2 3 * mn (a 2) (a 3) 0 1)) := by
  simp only [D, mn]; grind
theorem mn_prod (b : Nat → Nat → F) (r s r' s' : Nat → F) (p q : Nat) (hr : ∀ j, r' j = sm4 fun k => r k * b k j) (hs : ∀ j, s' j = sm4 fun k => s k * b k j) : mn r' s' p q = mn r s 0 1 * mn (b 0) (b 1) p q + mn r s 0 2 * mn (b 0) (b 2) p q + mn r s 0 3 * mn (b 0) (b 3) p q + mn r s 1 2 * mn (b 1) (b 2) p q + mn r s 1 3 * mn (b 1) (b 3) p q + mn r s 2 3 * mn (b 2) (b 3) p q := by
  simp only [mn, hr, hs, sm4]; grind
theorem lap_01_01 (b : Nat → Nat → F) : ((mn (b 0) (b 1) 0 1 * mn (b 0) (b 1) 2 3)) + (-(mn (b 0) (b 1) 0 2 * mn (b 0) (b 1) 1 3)) + ((mn (b 0) (b 1) 0 3 * mn (b 0) (b 1) 1 2)) + ((mn (b 0) (b 1) 1 2 * mn (b 0) (b 1) 0 3)) + (-(mn (b 0) (b 1) 1 3 * mn (b 0) (b 1) 0 2)) + ((mn (b 0) (b 1) 2 3 * mn (b 0) (b 1) 0 1)) = 0 := by
  simp only [D, mn]; grind
theorem lap_01_02 (b : Nat → Nat → F) : ((mn (b 0) (b 1) 0 1 * mn (b 0) (b 2) 2 3)) + (-(mn (b 0) (b 1) 0 2 * mn (b 0) (b 2) 1 3)) + ((mn (b 0) (b 1) 0 3 * mn (b 0) (b 2) 1 2)) + ((mn (b 0) (b 1) 1 2 * mn (b 0) (b 2) 0 3)) + (-(mn (b 0) (b 1) 1 3 * mn (b 0) (b 2) 0 2)) + ((mn (b 0) (b 1) 2 3 * mn (b 0) (b 2) 0 1)) = 0 := by
  simp only [D, mn]; grind
theorem lap_01_03 (b : Nat → Nat → F) : ((mn (b 0) (b 1) 0 1 * mn (b 0) (b 3) 2 3)) + (-(mn (b 0) (b 1) 0 2 * mn (b 0) (b 3) 1 3)) + ((mn (b 0) (b 1) 0 3 * mn (b 0) (b 3) 1 2)) + ((mn (b 0) (b 1) 1 2 * mn (b 0) (b 3) 0 3)) + (-(mn (b 0) (b 1) 1 3 * mn (b 0) (b 3) 0 2)) + ((mn (b 0) (b 1) 2 3 * mn (b 0) (b 3) 0 1)) = 0 := by
  simp only [D, mn]; grind
theorem lap_01_12 (b : Nat → Nat → F) : ((mn (b 0) (b 1) 0 1 * mn (b 1) (b 2) 2 3)) + (-(mn (b 0) (b 1) 0 2 * mn (b 1) (b 2) 1 3)) + ((mn (b 0) (b 1) 0 3 * mn (b 1) (b 2) 1 2)) + ((mn (b 0) (b 1) 1 2 * mn (b 1) (b 2) 0 3)) + (-(mn (b 0) (b 1) 1 3 * mn (b 1) (b 2) 0 2)) + ((mn (b 0) (b 1) 2 3 * mn (b 1) (b 2) 0 1)) = 0 := by
  simp only [D, mn]; grind
theorem lap_01_13 (b : Nat → Nat → F) : ((mn (b 0) (b 1) 0 1 * mn (b 1) (b 3) 2 3)) + (-(mn (b 0) (b 1) 0 2 * mn (b 1) (b 3) 1 3)) + ((mn (b 0) (b 1) 0 3 * mn (b 1) (b 3) 1 2)) + ((mn (b 0) (b 1) 1 2 * mn (b 1) (b 3) 0 3)) + (-(mn (b 0) (b 1) 1 3 * mn (b 1) (b 3) 0 2)) + ((mn (b 0) (b 1) 2 3 * mn (b 1) (b 3) 0 1)) = 0 := by
  simp only [D, mn]; grind
theorem lap_01_23 (b : Nat → Nat → F) : ((mn (b 0) (b 1) 0 1 * mn (b 2) (b 3) 2 3)) + (-(mn (b 0) (b 1) 0 2 * mn (b 2) (b 3) 1 3)) + ((mn (b 0) (b 1) 0 3 * mn (b 2) (b 3) 1 2)) + ((mn (b 0) (b 1) 1 2 * mn (b 2) (b 3) 0 3)) + (-(mn (b 0) (b 1) 1 3 * mn (b 2) (b 3) 0 2)) + ((mn (b 0) (b 1) 2 3 * mn (b 2) (b 3) 0 1)) = D 4 b := by
  simp only [D, mn]; grind
theorem lap_02_01 (b : Nat → Nat → F) : ((mn (b 0) (b 2) 0 1 * mn (b 0) (b 1) 2 3)) + (-(mn (b 0) (b 2) 0 2 * mn (b 0) (b 1) 1 3)) + ((mn (b 0) (b 2) 0 3 * mn (b 0) (b 1) 1 2)) + ((mn (b 0) (b 2) 1 2 * mn (b 0) (b 1) 0 3)) + (-(mn (b 0) (b 2) 1 3 * mn (b 0) (b 1) 0 2)) + ((mn (b 0) (b 2) 2 3 * mn (b 0) (b 1) 0 1)) = 0 := by
  simp only [D, mn]; grind
theorem lap_02_02 (b : Nat → Nat → F) : ((mn (b 0) (b 2) 0 1 * mn (b 0) (b 2) 2 3)) + (-(mn (b 0) (b 2) 0 2 * mn (b 0) (b 2) 1 3)) + ((mn (b 0) (b 2) 0 3 * mn (b 0) (b 2) 1 2)) + ((mn (b 0) (b 2) 1 2 * mn (b 0) (b 2) 0 3)) + (-(mn (b 0) (b 2) 1 3 * mn (b 0) (b 2) 0 2)) + ((mn (b 0) (b 2) 2 3 * mn (b 0) (b 2) 0 1)) = 0 := by
  simp only [D, mn]; grind
theorem lap_02_03 (b : Nat → Nat → F) : ((mn (b 0) (b 2) 0 1 * mn (b 0) (b 3) 2 3)) + (-(mn (b 0) (b 2) 0 2 * mn (b 0) (b 3) 1 3)) + ((mn (b 0) (b 2) 0 3 * mn (b 0) (b 3) 1 2)) + ((mn (b 0) (b 2) 1 2 * mn (b 0) (b 3) 0 3)) + (-(mn (b 0) (b 2) 1 3 * mn (b 0) (b 3) 0 2)) + ((mn (b 0) (b 2) 2 3 * mn (b 0) (b 3) 0 1)) = 0 := by
  simp only [D, mn]; grind
theorem lap_02_12 (b : Nat → Nat → F) : ((mn (b 0) (b 2) 0 1 * mn (b 1) (b 2) 2 3)) + (-(mn (b 0) (b 2) 0 2 * mn (b 1) (b 2) 1 3)) + ((mn (b 0) (b 2) 0 3 * mn (b 1) (b 2) 1 2)) + ((mn (b 0) (b 2) 1 2 * mn (b 1) (b 2) 0 3)) + (-(mn (b 0) (b 2) 1 3 * mn (b 1) (b 2) 0 2)) + ((mn (b 0) (b 2) 2 3 * mn (b 1) (b 2) 0 1)) = 0 := by
  simp only [D, mn]; grind
theorem lap_02_13 (b : Nat → Nat → F) : ((mn (b 0) (b 2) 0 1 * mn (b 1) (b 3) 2 3)) + (-(mn (b 0) (b 2) 0 2 * mn (b 1) (b 3) 1 3)) + ((mn (b 0) (b 2) 0 3 * mn (b 1) (b 3) 1 2)) + ((mn (b 0) (b 2) 1 2 * mn (b 1) (b 3) 0 3)) + (-(mn (b 0) (b 2) 1 3 * mn (b 1) (b 3) 0 2)) + ((mn (b 0) (b 2) 2 3 * mn (b 1) (b 3) 0 1)) = - D 4 b := by
  simp only [D, mn]; grind
theorem lap_02_23 (b : Nat → Nat → F) : ((mn (b 0) (b 2) 0 1 * mn (b 2) (b 3) 2 3)) + (-(mn (b 0) (b 2) 0 2 * mn (b 2) (b 3) 1 3)) + ((mn (b 0) (b 2) 0 3 * mn (b 2) (b 3) 1 2)) + ((mn (b 0) (b 2) 1 2 * mn (b 2) (b 3) 0 3)) + (-(mn (b 0) (b 2) 1 3 * mn (b 2) (b 3) 0 2)) + ((mn (b 0) (b 2) 2 3 * mn (b 2) (b 3) 0 1)) = 0 := by
  simp only [D, mn]; grind
theorem lap_03_01 (b : Nat → Nat → F) : ((mn (b 0) (b 3) 0 1 * mn (b 0) (b 1) 2 3)) + (-(mn (b 0) (b 3) 0 2 * mn (b 0) (b 1) 1 3)) + ((mn (b 0) (b 3) 0 3 * mn (b 0) (b 1) 1 2)) + ((mn (b 0) (b 3) 1 2 * mn (b 0) (b 1) 0 3)) + (-(mn (b 0) (b 3) 1 3 * mn (b 0) (b 1) 0 2)) + ((mn (b 0) (b 3) 2 3 * mn (b 0) (b 1) 0 1)) = 0 := by
  simp only [D, mn]; grind
theorem lap_03_02 (b : Nat → Nat → F) : ((mn (b 0) (b 3) 0 1 * mn (b 0) (b 2) 2 3)) + (-(mn (b 0) (b 3) 0 2 * mn (b 0) (b 2) 1 3)) + ((mn (b 0) (b 3) 0 3 * mn (b 0) (b 2) 1 2)) + ((mn (b 0) (b 3) 1 2 * mn (b 0) (b 2) 0 3)) + (-(mn (b 0) (b 3) 1 3 * mn (b 0) (b 2) 0 2)) + ((mn (b 0) (b 3) 2 3 * mn (b 0) (b 2) 0 1)) = 0 := by
  simp only [D, mn]; grind
theorem lap_03_03 (b : Nat → Nat → F) : ((mn (b 0) (b 3) 0 1 * mn (b 0) (b 3) 2 3)) + (-(mn (b 0) (b 3) 0 2 * mn (b 0) (b 3) 1 3)) + ((mn (b 0) (b 3) 0 3 * mn (b 0) (b 3) 1 2)) + ((mn (b 0) (b 3) 1 2 * mn (b 0) (b 3) 0 3)) + (-(mn (b 0) (b 3) 1 3 * mn (b 0) (b 3) 0 2)) + ((mn (b 0) (b 3) 2 3 * mn (b 0) (b 3) 0 1)) = 0 := by
  simp only [D, mn]; grind
theorem lap_03_12 (b : Nat → Nat → F) : ((mn (b 0) (b 3) 0 1 * mn (b 1) (b 2) 2 3)) + (-(mn (b 0) (b 3) 0 2 * mn (b 1) (b 2) 1 3)) + ((mn (b 0) (b 3) 0 3 * mn (b 1) (b 2) 1 2)) + ((mn (b 0) (b 3) 1 2 * mn (b 1) (b 2) 0 3)) + (-(mn (b 0) (b 3) 1 3 * mn (b 1) (b 2) 0 2)) + ((mn (b 0) (b 3) 2 3 * mn (b 1) (b 2) 0 1)) = D 4 b := by
  simp only [D, mn]; grind
theorem lap_03_13 (b : Nat → Nat → F) : ((mn (b 0) (b 3) 0 1 * mn (b 1) (b 3) 2 3)) + (-(mn (b 0) (b 3) 0 2 * mn (b 1) (b 3) 1 3)) + ((mn (b 0) (b 3) 0 3 * mn (b 1) (b 3) 1 2)) + ((mn (b 0) (b 3) 1 2 * mn (b 1) (b 3) 0 3)) + (-(mn (b 0) (b 3) 1 3 * mn (b 1) (b 3) 0 2)) + ((mn (b 0) (b 3) 2 3 * mn (b 1) (b 3) 0 1)) = 0 := by
  simp only [D, mn]; grind
theorem lap_03_23 (b : Nat → Nat → F) : ((mn (b 0) (b 3) 0 1 * mn (b 2) (b 3) 2 3)) + (-(mn (b 0) (b 3) 0 2 * mn (b 2) (b 3) 1 3)) + ((mn (b 0) (b 3) 0 3 * mn (b 2) (b 3) 1 2)) + ((mn (b 0) (b 3) 1 2 * mn (b 2) (b 3) 0 3)) + (-(mn (b 0) (b 3) 1 3 * mn (b 2) (b 3) 0 2)) + ((mn (b 0) (b 3) 2 3 * mn (b 2) (b 3) 0 1)) = 0 := by
  simp only [D, mn]; grind
theorem lap_12_01 (b : Nat → Nat → F) : ((mn (b 1) (b 2) 0 1 * mn (b 0) (b 1) 2 3)) + (-(mn (b 1) (b 2) 0 2 * mn (b 0) (b 1) 1 3)) + ((mn (b 1) (b 2) 0 3 * mn (b 0) (b 1) 1 2)) + ((mn (b 1) (b 2) 1 2 * mn (b 0) (b 1) 0 3)) + (-(mn (b 1) (b 2) 1 3 * mn (b 0) (b 1) 0 2)) + ((mn (b 1) (b 2) 2 3 * mn (b 0) (b 1) 0 1)) = 0 := by
  simp only [D, mn]; grind
theorem lap_12_02 (b : Nat → Nat → F) : ((mn (b 1) (b 2) 0 1 * mn (b 0) (b 2) 2 3)) + (-(mn (b 1) (b 2) 0 2 * mn (b 0) (b 2) 1 3)) + ((mn (b 1) (b 2) 0 3 * mn (b 0) (b 2) 1 2)) + ((mn (b 1) (b 2) 1 2 * mn (b 0) (b 2) 0 3)) + (-(mn (b 1) (b 2) 1 3 * mn (b 0) (b 2) 0 2)) + ((mn (b 1) (b 2) 2 3 * mn (b 0) (b 2) 0 1)) = 0 := by
  simp only [D, mn]; grind
theorem lap_12_03 (b : Nat → Nat → F) : ((mn (b 1) (b 2) 0 1 * mn (b 0) (b 3) 2 3)) + (-(mn (b 1) (b 2) 0 2 * mn (b 0) (b 3) 1 3)) + ((mn (b 1) (b 2) 0 3 * mn (b 0) (b 3) 1 2)) + ((mn (b 1) (b 2) 1 2 * mn (b 0) (b 3) 0 3)) + (-(mn (b 1) (b 2) 1 3 * mn (b 0) (b 3) 0 2)) + ((mn (b 1) (b 2) 2 3 * mn (b 0) (b 3) 0 1)) = D 4 b := by
  simp only [D, mn]; grind
theorem lap_12_12 (b : Nat → Nat → F) : ((mn (b 1) (b 2) 0 1 * mn (b 1) (b 2) 2 3)) + (-(mn (b 1) (b 2) 0 2 * mn (b 1) (b 2) 1 3)) + ((mn (b 1) (b 2) 0 3 * mn (b 1) (b 2) 1 2)) + ((mn (b 1) (b 2) 1 2 * mn (b 1) (b 2) 0 3)) + (-(mn (b 1) (b 2) 1 3 * mn (b 1) (b 2) 0 2)) + ((mn (b 1) (b 2) 2 3 * mn (b 1) (b 2) 0 1)) = 0 := by
  simp only [D, mn]; grind
theorem lap_12_13 (b : Nat → Nat → F) : ((mn (b 1) (b 2) 0 1 * mn (b 1) (b 3) 2 3)) + (-(mn (b 1) (b 2) 0 2 * mn (b 1) (b 3) 1 3)) + ((mn (b 1) (b 2) 0 3 * mn (b 1) (b 3) 1 2)) + ((mn (b 1) (b 2) 1 2 * mn (b 1) (b 3) 0 3)) + (-(mn (b 1) (b 2) 1 3 * mn (b 1) (b 3) 0 2)) + ((mn (b 1) (b 2) 2 3 * mn (b 1) (b 3) 0 1)) = 0 := by
  simp only [D, mn]; grind
theorem lap_12_23 (b : Nat → Nat → F) : ((mn (b 1) (b 2) 0 1 * mn (b 2) (b 3) 2 3)) + (-(mn (b 1) (b 2) 0 2 * mn (b 2) (b 3) 1 3)) + ((mn (b 1) (b 2) 0 3 * mn (b 2) (b 3) 1 2)) + ((mn (b 1) (b 2) 1 2 * mn (b 2) (b 3) 0 3)) + (-(mn (b 1) (b 2) 1 3 * mn (b 2) (b 3) 0 2)) + ((mn (b 1) (b 2) 2 3 * mn (b 2) (b 3) 0 1)) = 0 := by
  simp only [D, mn]; grind
theorem lap_13_01 (b : Nat → Nat → F) : ((mn (b 1) (b 3) 0 1 * mn (b 0) (b 1) 2 3)) + (-(mn (b 1) (b 3) 0 2 * mn (b 0) (b 1) 1 3)) + ((mn (b 1) (b 3) 0 3 * mn (b 0) (b 1) 1 2)) + ((mn (b 1) (b 3) 1 2 * mn (b 0) (b 1) 0 3)) + (-(mn (b 1) (b 3) 1 3 * mn (b 0) (b 1) 0 2)) + ((mn (b 1) (b 3) 2 3 * mn (b 0) (b 1) 0 1)) = 0 := by
  simp only [D, mn]; grind
theorem lap_13_02 (b : Nat → Nat → F) : ((mn (b 1) (b 3) 0 1 * mn (b 0) (b 2) 2 3)) + (-(mn (b 1) (b 3) 0 2 * mn (b 0) (b 2) 1 3)) + ((mn (b 1) (b 3) 0 3 * mn (b 0) (b 2) 1 2)) + ((mn (b 1) (b 3) 1 2 * mn (b 0) (b 2) 0 3)) + (-(mn (b 1) (b 3) 1 3 * mn (b 0) (b 2) 0 2)) + ((mn (b 1) (b 3) 2 3 * mn (b 0) (b 2) 0 1)) = - D 4 b := by
  simp only [D, mn]; grind
theorem lap_13_03 (b : Nat → Nat → F) : ((mn (b 1) (b 3) 0 1 * mn (b 0) (b 3) 2 3)) + (-(mn (b 1) (b 3) 0 2 * mn (b 0) (b 3) 1 3)) + ((mn (b 1) (b 3) 0 3 * mn (b 0) (b 3) 1 2)) + ((mn (b 1) (b 3) 1 2 * mn (b 0) (b 3) 0 3)) + (-(mn (b 1) (b 3) 1 3 * mn (b 0) (b 3) 0 2)) + ((mn (b 1) (b 3) 2 3 * mn (b 0) (b 3) 0 1)) = 0 := by
  simp only [D, mn]; grind
theorem lap_13_12 (b : Nat → Nat → F) : ((mn (b 1) (b 3) 0 1 * mn (b 1) (b 2) 2 3)) + (-(mn (b 1) (b 3) 0 2 * mn (b 1) (b 2) 1 3)) + ((mn (b 1) (b 3) 0 3 * mn (b 1) (b 2) 1 2)) + ((mn (b 1) (b 3) 1 2 * mn (b 1) (b 2) 0 3)) + (-(mn (b 1) (b 3) 1 3 * mn (b 1) (b 2) 0 2)) + ((mn (b 1) (b 3) 2 3 * mn (b 1) (b 2) 0 1)) = 0 := by
  simp only [D, mn]; grind
theorem lap_13_13 (b : Nat → Nat → F) : ((mn (b 1) (b 3) 0 1 * mn (b 1) (b 3) 2 3)) + (-(mn (b 1) (b 3) 0 2 * mn (b 1) (b 3) 1 3)) + ((mn (b 1) (b 3) 0 3 * mn (b 1) (b 3) 1 2)) + ((mn (b 1) (b 3) 1 2 * mn (b 1) (b 3) 0 3)) + (-(mn (b 1) (b 3) 1 3 * mn (b 1) (b 3) 0 2)) + ((mn (b 1) (b 3) 2 3 * mn (b 1) (b 3) 0 1)) = 0 := by
  simp only [D, mn]; grind
theorem lap_13_23 (b : Nat → Nat → F) : ((mn (b 1) (b 3) 0 1 * mn (b 2) (b 3) 2 3)) + (-(mn (b 1) (b 3) 0 2 * mn (b 2) (b 3) 1 3)) + ((mn (b 1) (b 3) 0 3 * mn (b 2) (b 3) 1 2)) + ((mn (b 1) (b 3) 1 2 * mn (b 2) (b 3) 0 3)) + (-(mn (b 1) (b 3) 1 3 * mn (b 2) (b 3) 0 2)) + ((mn (b 1) (b 3) 2 3 * mn (b 2) (b 3) 0 1)) = 0 := by
  simp only [D, mn]; grind
theorem lap_23_01 (b : Nat → Nat → F) : ((mn (b 2) (b 3) 0 1 * mn (b 0) (b 1) 2 3)) + (-(mn (b 2) (b 3) 0 2 * mn (b 0) (b 1) 1 3)) + ((mn (b 2) (b 3) 0 3 * mn (b 0) (b 1) 1 2)) + ((mn (b 2) (b 3) 1 2 * mn (b 0) (b 1) 0 3)) + (-(mn (b 2) (b 3) 1 3 * mn (b 0) (b 1) 0 2)) + ((mn (b 2) (b 3) 2 3 * mn (b 0) (b 1) 0 1)) = D 4 b := by
  simp only [D, mn]; grind
theorem lap_23_02 (b : Nat → Nat → F) : ((mn (b 2) (b 3) 0 1 * mn (b 0) (b 2) 2 3)) + (-(mn (b 2) (b 3) 0 2 * mn (b 0) (b 2) 1 3)) + ((mn (b 2) (b 3) 0 3 * mn (b 0) (b 2) 1 2)) + ((mn (b 2) (b 3) 1 2 * mn (b 0) (b 2) 0 3)) + (-(mn (b 2) (b 3) 1 3 * mn (b 0) (b 2) 0 2)) + ((mn (b 2) (b 3) 2 3 * mn (b 0) (b 2) 0 1)) = 0 := by
  simp only [D, mn]; grind
theorem lap_23_03 (b : Nat → Nat → F) : ((mn (b 2) (b 3) 0 1 * mn (b 0) (b 3) 2 3)) + (-(mn (b 2) (b 3) 0 2 * mn (b 0) (b 3) 1 3)) + ((mn (b 2) (b 3) 0 3 * mn (b 0) (b 3) 1 2)) + ((mn (b 2) (b 3) 1 2 * mn (b 0) (b 3) 0 3)) + (-(mn (b 2) (b 3) 1 3 * mn (b 0) (b 3) 0 2)) + ((mn (b 2) (b 3) 2 3 * mn (b 0) (b 3) 0 1)) = 0 := by
  simp only [D, mn]; grind
theorem lap_23_12 (b : Nat → Nat → F) : ((mn (b 2) (b 3) 0 1 * mn (b 1) (b 2) 2 3)) + (-(mn (b 2) (b 3) 0 2 * mn (b 1) (b 2) 1 3)) + ((mn (b 2) (b 3) 0 3 * mn (b 1) (b 2) 1 2)) + ((mn (b 2) (b 3) 1 2 * mn (b 1) (b 2) 0 3)) + (-(mn (b 2) (b 3) 1 3 * mn (b 1) (b 2) 0 2)) + ((mn (b 2) (b 3) 2 3 * mn (b 1) (b 2) 0 1)) = 0 := by
  simp only [D, mn]; grind
theorem lap_23_13 (b : Nat → Nat → F) : ((mn (b 2) (b 3) 0 1 * mn (b 1) (b 3) 2 3)) + (-(mn (b 2) (b 3) 0 2 * mn (b 1) (b 3) 1 3)) + ((mn (b 2) (b 3) 0 3 * mn (b 1) (b 3) 1 2)) + ((mn (b 2) (b 3) 1 2 * mn (b 1) (b 3) 0 3)) + (-(mn (b 2) (b 3) 1 3 * mn (b 1) (b 3) 0 2)) + ((mn (b 2) (b 3) 2 3 * mn (b 1) (b 3) 0 1)) = 0 := by
  simp only [D, mn]; grind
theorem lap_23_23 (b : Nat → Nat → F) : ((mn (b 2) (b 3) 0 1 * mn (b 2) (b 3) 2 3)) + (-(mn (b 2) (b 3) 0 2 * mn (b 2) (b 3) 1 3)) + ((mn (b 2) (b 3) 0 3 * mn (b 2) (b 3) 1 2)) + ((mn (b 2) (b 3) 1 2 * mn (b 2) (b 3) 0 3)) + (-(mn (b 2) (b 3) 1 3 * mn (b 2) (b 3) 0 2)) + ((mn (b 2) (b 3) 2 3 * mn (b 2) (b 3) 0 1)) = 0 := by
  simp only [D, mn]; grind
theorem six_l (u01 u02 u03 u12 u13 u23 m0101 m0102 m0103 m0112 m0113 m0123 m0201 m0202 m0203 m0212 m0213 m0223 m0301 m0302 m0303 m0312 m0313 m0323 m1201 m1202 m1203 m1212 m1213 m1223 m1301 m1302 m1303 m1312 m1313 m1323 m2301 m2302 m2303 m2312 m2313 m2323 t0 t1 t2 t3 t4 t5 : F) : ((u01 * m0101 + u02 * m0201 + u03 * m0301 + u12 * m1201 + u13 * m1301 + u23 * m2301) * t0) + -((u01 * m0102 + u02 * m0202 + u03 * m0302 + u12 * m1202 + u13 * m1302 + u23 * m2302) * t1) + ((u01 * m0103 + u02 * m0203 + u03 * m0303 + u12 * m1203 + u13 * m1303 + u23 * m2303) * t2) + ((u01 * m0112 + u02 * m0212 + u03 * m0312 + u12 * m1212 + u13 * m1312 + u23 * m2312) * t3) + -((u01 * m0113 + u02 * m0213 + u03 * m0313 + u12 * m1213 + u13 * m1313 + u23 * m2313) * t4) + ((u01 * m0123 + u02 * m0223 + u03 * m0323 + u12 * m1223 + u13 * m1323 + u23 * m2323) * t5) = u01 * ((m0101 * t0) + -(m0102 * t1) + (m0103 * t2) + (m0112 * t3) + -(m0113 * t4) + (m0123 * t5)) + u02 * ((m0201 * t0) + -(m0202 * t1) + (m0203 * t2) + (m0212 * t3) + -(m0213 * t4) + (m0223 * t5)) + u03 * ((m0301 * t0) + -(m0302 * t1) + (m0303 * t2) + (m0312 * t3) + -(m0313 * t4) + (m0323 * t5)) + u12 * ((m1201 * t0) + -(m1202 * t1) + (m1203 * t2) + (m1212 * t3) + -(m1213 * t4) + (m1223 * t5)) + u13 * ((m1301 * t0) + -(m1302 * t1) + (m1303 * t2) + (m1312 * t3) + -(m1313 * t4) + (m1323 * t5)) + u23 * ((m2301 * t0) + -(m2302 * t1) + (m2303 * t2) + (m2312 * t3) + -(m2313 * t4) + (m2323 * t5)) := by
  grind
theorem six_r (m0 m1 m2 m3 m4 m5 v01 v02 v03 v12 v13 v23 n010 n011 n012 n013 n014 n015 n020 n021 n022 n023 n024 n025 n030 n031 n032 n033 n034 n035 n120 n121 n122 n123 n124 n125 n130 n131 n132 n133 n134 n135 n230 n231 n232 n233 n234 n235 : F) : (m0 * (v01 * n010 + v02 * n020 + v03 * n030 + v12 * n120 + v13 * n130 + v23 * n230)) + -(m1 * (v01 * n011 + v02 * n021 + v03 * n031 + v12 * n121 + v13 * n131 + v23 * n231)) + (m2 * (v01 * n012 + v02 * n022 + v03 * n032 + v12 * n122 + v13 * n132 + v23 * n232)) + (m3 * (v01 * n013 + v02 * n023 + v03 * n033 + v12 * n123 + v13 * n133 + v23 * n233)) + -(m4 * (v01 * n014 + v02 * n024 + v03 * n034 + v12 * n124 + v13 * n134 + v23 * n234)) + (m5 * (v01 * n015 + v02 * n025 + v03 * n035 + v12 * n125 + v13 * n135 + v23 * n235)) = v01 * ((m0 * n010) + -(m1 * n011) + (m2 * n012) + (m3 * n013) + -(m4 * n014) + (m5 * n015)) + v02 * ((m0 * n020) + -(m1 * n021) + (m2 * n022) + (m3 * n023) + -(m4 * n024) + (m5 * n025)) + v03 * ((m0 * n030) + -(m1 * n031) + (m2 * n032) + (m3 * n033) + -(m4 * n034) + (m5 * n035)) + v12 * ((m0 * n120) + -(m1 * n121) + (m2 * n122) + (m3 * n123) + -(m4 * n124) + (m5 * n125)) + v13 * ((m0 * n130) + -(m1 * n131) + (m2 * n132) + (m3 * n133) + -(m4 * n134) + (m5 * n135)) + v23 * ((m0 * n230) + -(m1 * n231) + (m2 * n232) + (m3 * n233) + -(m4 * n234) + (m5 * n235)) := by
  grind
theorem D3_prod (a b c : Nat → Nat → F) (h : ∀ i j, i < 3 → j < 3 → c i j = sm (List.range 3) fun k => a i k * b k j) : D 3 c = D 3 a * D 3 b := by
    have e := fun i j (hi : i < 3) (hj : j < 3) => h i j hi hj
    simp only [List.range, List.range.loop, sm] at e
    simp only [D, e 0 0 (by decide) (by decide), e 0 1 (by decide) (by decide), e 0 2 (by decide) (by decide), e 1 0 (by decide) (by decide), e 1 1 (by decide) (by decide), e 1 2 (by decide) (by decide), e 2 0 (by decide) (by decide), e 2 1 (by decide) (by decide), e 2 2 (by decide) (by decide)]; grind
theorem D4_re (a b c : Nat → Nat → F) (h : ∀ i j, i < 4 → j < 4 → c i j = sm (List.range 4) fun k => a i k * b k j) : D 4 c = D 4 (fun i j => sm4 fun k => a i k * b k j) := by
    have e : ∀ i j, i < 4 → j < 4 → c i j = sm4 fun k => a i k * b k j := fun i j hi hj => by
      rw [h i j hi hj]
      simp only [List.range, List.range.loop, sm, sm4]
      grind
    simp only [D]
    simp only [e 0 0 (by decide) (by decide), e 0 1 (by decide) (by decide), e 0 2 (by decide) (by decide), e 0 3 (by decide) (by decide), e 1 0 (by decide) (by decide), e 1 1 (by decide) (by decide), e 1 2 (by decide) (by decide), e 1 3 (by decide) (by decide), e 2 0 (by decide) (by decide), e 2 1 (by decide) (by decide), e 2 2 (by decide) (by decide), e 2 3 (by decide) (by decide), e 3 0 (by decide) (by decide), e 3 1 (by decide) (by decide), e 3 2 (by decide) (by decide), e 3 3 (by decide) (by decide)]
theorem D4_prod (a b c : Nat → Nat → F) (h : ∀ i j, i < 4 → j < 4 → c i j = sm (List.range 4) fun k => a i k * b k j) : D 4 c = D 4 a * D 4 b := by
  rw [D4_re a b c h]
  generalize hc : (fun i j => sm4 fun k => a i k * b k j) = c'
  have hc2 : ∀ i j, c' i j = sm4 fun k => a i k * b k j := fun i j => by rw [← hc]
  clear hc h c
  rw [D4_lap c', D4_lap a]
  rw [mn_prod b (a 0) (a 1) (c' 0) (c' 1) 0 1 (hc2 0) (hc2 1)]
  generalize mn_t23 : mn (c' 2) (c' 3) 2 3 = t23
  rw [mn_prod b (a 0) (a 1) (c' 0) (c' 1) 0 2 (hc2 0) (hc2 1)]
  generalize mn_t13 : mn (c' 2) (c' 3) 1 3 = t13
  rw [mn_prod b (a 0) (a 1) (c' 0) (c' 1) 0 3 (hc2 0) (hc2 1)]
  generalize mn_t12 : mn (c' 2) (c' 3) 1 2 = t12
  rw [mn_prod b (a 0) (a 1) (c' 0) (c' 1) 1 2 (hc2 0) (hc2 1)]
  generalize mn_t03 : mn (c' 2) (c' 3) 0 3 = t03
  rw [mn_prod b (a 0) (a 1) (c' 0) (c' 1) 1 3 (hc2 0) (hc2 1)]
  generalize mn_t02 : mn (c' 2) (c' 3) 0 2 = t02
  rw [mn_prod b (a 0) (a 1) (c' 0) (c' 1) 2 3 (hc2 0) (hc2 1)]
  generalize mn_t01 : mn (c' 2) (c' 3) 0 1 = t01
  rw [six_l]
  rw [← mn_t01, mn_prod b (a 2) (a 3) (c' 2) (c' 3) 0 1 (hc2 2) (hc2 3)]
  clear mn_t01
  rw [← mn_t02, mn_prod b (a 2) (a 3) (c' 2) (c' 3) 0 2 (hc2 2) (hc2 3)]
  clear mn_t02
  rw [← mn_t03, mn_prod b (a 2) (a 3) (c' 2) (c' 3) 0 3 (hc2 2) (hc2 3)]
  clear mn_t03
  rw [← mn_t12, mn_prod b (a 2) (a 3) (c' 2) (c' 3) 1 2 (hc2 2) (hc2 3)]
  clear mn_t12
  rw [← mn_t13, mn_prod b (a 2) (a 3) (c' 2) (c' 3) 1 3 (hc2 2) (hc2 3)]
  clear mn_t13
  rw [← mn_t23, mn_prod b (a 2) (a 3) (c' 2) (c' 3) 2 3 (hc2 2) (hc2 3)]
  clear mn_t23
  rw [six_r, six_r, six_r, six_r, six_r, six_r]
  rw [lap_01_01 b]
  rw [lap_01_02 b]
  rw [lap_01_03 b]
  rw [lap_01_12 b]
  rw [lap_01_13 b]
  rw [lap_01_23 b]
  rw [lap_02_01 b]
  rw [lap_02_02 b]
  rw [lap_02_03 b]
  rw [lap_02_12 b]
  rw [lap_02_13 b]
  rw [lap_02_23 b]
  rw [lap_03_01 b]
  rw [lap_03_02 b]
  rw [lap_03_03 b]
  rw [lap_03_12 b]
  rw [lap_03_13 b]
  rw [lap_03_23 b]
  rw [lap_12_01 b]
  rw [lap_12_02 b]
  rw [lap_12_03 b]
  rw [lap_12_12 b]
  rw [lap_12_13 b]
  rw [lap_12_23 b]
  rw [lap_13_01 b]
  rw [lap_13_02 b]
  rw [lap_13_03 b]
  rw [lap_13_12 b]
  rw [lap_13_13 b]
  rw [lap_13_23 b]
  rw [lap_23_01 b]
  rw [lap_23_02 b]
  rw [lap_23_03 b]
  rw [lap_23_12 b]
  rw [lap_23_13 b]
  rw [lap_23_23 b]
  generalize mn (a 0) (a 1) 0 1 = u01
  generalize mn (a 2) (a 3) 0 1 = v01
  generalize mn (a 0) (a 1) 0 2 = u02
  generalize mn (a 2) (a 3) 0 2 = v02
  generalize mn (a 0) (a 1) 0 3 = u03
  generalize mn (a 2) (a 3) 0 3 = v03
  generalize mn (a 0) (a 1) 1 2 = u12
  generalize mn (a 2) (a 3) 1 2 = v12
  generalize mn (a 0) (a 1) 1 3 = u13
  generalize mn (a 2) (a 3) 1 3 = v13
  generalize mn (a 0) (a 1) 2 3 = u23
  generalize mn (a 2) (a 3) 2 3 = v23
  generalize D 4 b = db
  clear hc2 c' b a
  grind
theorem D_prod (n : Nat) (a b c : Nat → Nat → F) (h : ∀ i j, i < n → j < n → c i j = sm (List.range n) fun k => a i k * b k j) : D n c = D n a * D n b := by
  match n with
  | 0 => simp only [D]; grind
  | 1 =>
    have e := h 0 0 (by decide) (by decide)
    simp only [List.range, List.range.loop, sm] at e
    simp only [D, e]; grind
  | 2 =>
    have e := fun i j (hi : i < 2) (hj : j < 2) => h i j hi hj
    simp only [List.range, List.range.loop, sm] at e
    simp only [D, e 0 0 (by decide) (by decide), e 0 1 (by decide) (by decide), e 1 0 (by decide) (by decide), e 1 1 (by decide) (by decide)]; grind
  | 3 => exact D3_prod a b c h
  | 4 => exact D4_prod a b c h
  | n + 5 => simp only [D]; grind
theorem D_one (n : Nat) (h : 1 ≤ n) (h4 : n ≤ 4) {a : Nat → Nat → F} (e : ∀ i j, i < n → j < n → a i j = if i = j then 1 else 0) : D n a = 1 := by
  match n with
  | 0 => omega
  | 1 => simp only [D, e 0 0 (by decide) (by decide)]; simp
  | 2 => simp only [D, e 0 0 (by decide) (by decide), e 0 1 (by decide) (by decide), e 1 0 (by decide) (by decide), e 1 1 (by decide) (by decide)]; simp; grind
  | 3 => simp only [D, e 0 0 (by decide) (by decide), e 0 1 (by decide) (by decide), e 0 2 (by decide) (by decide), e 1 0 (by decide) (by decide), e 1 1 (by decide) (by decide), e 1 2 (by decide) (by decide), e 2 0 (by decide) (by decide), e 2 1 (by decide) (by decide), e 2 2 (by decide) (by decide)]; simp; grind
  | 4 => simp only [D, e 0 0 (by decide) (by decide), e 0 1 (by decide) (by decide), e 0 2 (by decide) (by decide), e 0 3 (by decide) (by decide), e 1 0 (by decide) (by decide), e 1 1 (by decide) (by decide), e 1 2 (by decide) (by decide), e 1 3 (by decide) (by decide), e 2 0 (by decide) (by decide), e 2 1 (by decide) (by decide), e 2 2 (by decide) (by decide), e 2 3 (by decide) (by decide), e 3 0 (by decide) (by decide), e 3 1 (by decide) (by decide), e 3 2 (by decide) (by decide), e 3 3 (by decide) (by decide)]; simp; grind
  | n + 5 => omega
theorem D_ker (n : Nat) (a : Nat → Nat → F) (x : Nat → F) (f : Nat) (hf : f < n) (h : ∀ i, i < n → sm (List.range n) (fun j => a i j * x j) = 0) (hx : x f ≠ 0) : D n a = 0 := by
  have k : D n a * x f = 0 := by
    match n, f, hf with
    | 1, 0, _ =>
      have h0 := h 0 (by decide)
      simp only [List.range, List.range.loop, sm] at h0
      have e : D 1 a * x 0 = ((1)) * (a 0 0 * x 0) := by simp only [D]; grind
      have g0 : (a 0 0 * x 0) = 0 := by rw [← h0]; grind
      rw [e, g0]; grind
    | 2, 0, _ =>
      have h0 := h 0 (by decide)
      have h1 := h 1 (by decide)
      simp only [List.range, List.range.loop, sm] at h0 h1
      have e : D 2 a * x 0 = (((a 1 1 * (1)))) * (a 0 0 * x 0 + a 0 1 * x 1) + (-((a 0 1 * (1)))) * (a 1 0 * x 0 + a 1 1 * x 1) := by simp only [D]; grind
      have g0 : (a 0 0 * x 0 + a 0 1 * x 1) = 0 := by rw [← h0]; grind
      have g1 : (a 1 0 * x 0 + a 1 1 * x 1) = 0 := by rw [← h1]; grind
      rw [e, g0, g1]; grind
    | 2, 1, _ =>
      have h0 := h 0 (by decide)
      have h1 := h 1 (by decide)
      simp only [List.range, List.range.loop, sm] at h0 h1
      have e : D 2 a * x 1 = (-((a 1 0 * (1)))) * (a 0 0 * x 0 + a 0 1 * x 1) + (((a 0 0 * (1)))) * (a 1 0 * x 0 + a 1 1 * x 1) := by simp only [D]; grind
      have g0 : (a 0 0 * x 0 + a 0 1 * x 1) = 0 := by rw [← h0]; grind
      have g1 : (a 1 0 * x 0 + a 1 1 * x 1) = 0 := by rw [← h1]; grind
      rw [e, g0, g1]; grind
    | 3, 0, _ =>
      have h0 := h 0 (by decide)
      have h1 := h 1 (by decide)
      have h2 := h 2 (by decide)
      simp only [List.range, List.range.loop, sm] at h0 h1 h2
      have e : D 3 a * x 0 = (((a 1 1 * ((a 2 2 * (1)))) - (a 1 2 * ((a 2 1 * (1)))))) * (a 0 0 * x 0 + a 0 1 * x 1 + a 0 2 * x 2) + (-((a 0 1 * ((a 2 2 * (1)))) - (a 0 2 * ((a 2 1 * (1)))))) * (a 1 0 * x 0 + a 1 1 * x 1 + a 1 2 * x 2) + (((a 0 1 * ((a 1 2 * (1)))) - (a 0 2 * ((a 1 1 * (1)))))) * (a 2 0 * x 0 + a 2 1 * x 1 + a 2 2 * x 2) := by simp only [D]; grind
      have g0 : (a 0 0 * x 0 + a 0 1 * x 1 + a 0 2 * x 2) = 0 := by rw [← h0]; grind
      have g1 : (a 1 0 * x 0 + a 1 1 * x 1 + a 1 2 * x 2) = 0 := by rw [← h1]; grind
      have g2 : (a 2 0 * x 0 + a 2 1 * x 1 + a 2 2 * x 2) = 0 := by rw [← h2]; grind
      rw [e, g0, g1, g2]; grind
    | 3, 1, _ =>
      have h0 := h 0 (by decide)
      have h1 := h 1 (by decide)
      have h2 := h 2 (by decide)
      simp only [List.range, List.range.loop, sm] at h0 h1 h2
      have e : D 3 a * x 1 = (-((a 1 0 * ((a 2 2 * (1)))) - (a 1 2 * ((a 2 0 * (1)))))) * (a 0 0 * x 0 + a 0 1 * x 1 + a 0 2 * x 2) + (((a 0 0 * ((a 2 2 * (1)))) - (a 0 2 * ((a 2 0 * (1)))))) * (a 1 0 * x 0 + a 1 1 * x 1 + a 1 2 * x 2) + (-((a 0 0 * ((a 1 2 * (1)))) - (a 0 2 * ((a 1 0 * (1)))))) * (a 2 0 * x 0 + a 2 1 * x 1 + a 2 2 * x 2) := by simp only [D]; grind
      have g0 : (a 0 0 * x 0 + a 0 1 * x 1 + a 0 2 * x 2) = 0 := by rw [← h0]; grind
      have g1 : (a 1 0 * x 0 + a 1 1 * x 1 + a 1 2 * x 2) = 0 := by rw [← h1]; grind
      have g2 : (a 2 0 * x 0 + a 2 1 * x 1 + a 2 2 * x 2) = 0 := by rw [← h2]; grind
      rw [e, g0, g1, g2]; grind
    | 3, 2, _ =>
      have h0 := h 0 (by decide)
      have h1 := h 1 (by decide)
      have h2 := h 2 (by decide)
      simp only [List.range, List.range.loop, sm] at h0 h1 h2
      have e : D 3 a * x 2 = (((a 1 0 * ((a 2 1 * (1)))) - (a 1 1 * ((a 2 0 * (1)))))) * (a 0 0 * x 0 + a 0 1 * x 1 + a 0 2 * x 2) + (-((a 0 0 * ((a 2 1 * (1)))) - (a 0 1 * ((a 2 0 * (1)))))) * (a 1 0 * x 0 + a 1 1 * x 1 + a 1 2 * x 2) + (((a 0 0 * ((a 1 1 * (1)))) - (a 0 1 * ((a 1 0 * (1)))))) * (a 2 0 * x 0 + a 2 1 * x 1 + a 2 2 * x 2) := by simp only [D]; grind
      have g0 : (a 0 0 * x 0 + a 0 1 * x 1 + a 0 2 * x 2) = 0 := by rw [← h0]; grind
      have g1 : (a 1 0 * x 0 + a 1 1 * x 1 + a 1 2 * x 2) = 0 := by rw [← h1]; grind
      have g2 : (a 2 0 * x 0 + a 2 1 * x 1 + a 2 2 * x 2) = 0 := by rw [← h2]; grind
      rw [e, g0, g1, g2]; grind
    | 4, 0, _ =>
      have h0 := h 0 (by decide)
      have h1 := h 1 (by decide)
      have h2 := h 2 (by decide)
      have h3 := h 3 (by decide)
      simp only [List.range, List.range.loop, sm] at h0 h1 h2 h3
      have e : D 4 a * x 0 = (((a 1 1 * ((a 2 2 * ((a 3 3 * (1)))) - (a 2 3 * ((a 3 2 * (1)))))) - (a 1 2 * ((a 2 1 * ((a 3 3 * (1)))) - (a 2 3 * ((a 3 1 * (1)))))) + (a 1 3 * ((a 2 1 * ((a 3 2 * (1)))) - (a 2 2 * ((a 3 1 * (1)))))))) * (a 0 0 * x 0 + a 0 1 * x 1 + a 0 2 * x 2 + a 0 3 * x 3) + (-((a 0 1 * ((a 2 2 * ((a 3 3 * (1)))) - (a 2 3 * ((a 3 2 * (1)))))) - (a 0 2 * ((a 2 1 * ((a 3 3 * (1)))) - (a 2 3 * ((a 3 1 * (1)))))) + (a 0 3 * ((a 2 1 * ((a 3 2 * (1)))) - (a 2 2 * ((a 3 1 * (1)))))))) * (a 1 0 * x 0 + a 1 1 * x 1 + a 1 2 * x 2 + a 1 3 * x 3) + (((a 0 1 * ((a 1 2 * ((a 3 3 * (1)))) - (a 1 3 * ((a 3 2 * (1)))))) - (a 0 2 * ((a 1 1 * ((a 3 3 * (1)))) - (a 1 3 * ((a 3 1 * (1)))))) + (a 0 3 * ((a 1 1 * ((a 3 2 * (1)))) - (a 1 2 * ((a 3 1 * (1)))))))) * (a 2 0 * x 0 + a 2 1 * x 1 + a 2 2 * x 2 + a 2 3 * x 3) + (-((a 0 1 * ((a 1 2 * ((a 2 3 * (1)))) - (a 1 3 * ((a 2 2 * (1)))))) - (a 0 2 * ((a 1 1 * ((a 2 3 * (1)))) - (a 1 3 * ((a 2 1 * (1)))))) + (a 0 3 * ((a 1 1 * ((a 2 2 * (1)))) - (a 1 2 * ((a 2 1 * (1)))))))) * (a 3 0 * x 0 + a 3 1 * x 1 + a 3 2 * x 2 + a 3 3 * x 3) := by simp only [D]; grind
      have g0 : (a 0 0 * x 0 + a 0 1 * x 1 + a 0 2 * x 2 + a 0 3 * x 3) = 0 := by rw [← h0]; grind
      have g1 : (a 1 0 * x 0 + a 1 1 * x 1 + a 1 2 * x 2 + a 1 3 * x 3) = 0 := by rw [← h1]; grind
      have g2 : (a 2 0 * x 0 + a 2 1 * x 1 + a 2 2 * x 2 + a 2 3 * x 3) = 0 := by rw [← h2]; grind
      have g3 : (a 3 0 * x 0 + a 3 1 * x 1 + a 3 2 * x 2 + a 3 3 * x 3) = 0 := by rw [← h3]; grind
      rw [e, g0, g1, g2, g3]; grind
    | 4, 1, _ =>
      have h0 := h 0 (by decide)
      have h1 := h 1 (by decide)
      have h2 := h 2 (by decide)
      have h3 := h 3 (by decide)
      simp only [List.range, List.range.loop, sm] at h0 h1 h2 h3
      have e : D 4 a * x 1 = (-((a 1 0 * ((a 2 2 * ((a 3 3 * (1)))) - (a 2 3 * ((a 3 2 * (1)))))) - (a 1 2 * ((a 2 0 * ((a 3 3 * (1)))) - (a 2 3 * ((a 3 0 * (1)))))) + (a 1 3 * ((a 2 0 * ((a 3 2 * (1)))) - (a 2 2 * ((a 3 0 * (1)))))))) * (a 0 0 * x 0 + a 0 1 * x 1 + a 0 2 * x 2 + a 0 3 * x 3) + (((a 0 0 * ((a 2 2 * ((a 3 3 * (1)))) - (a 2 3 * ((a 3 2 * (1)))))) - (a 0 2 * ((a 2 0 * ((a 3 3 * (1)))) - (a 2 3 * ((a 3 0 * (1)))))) + (a 0 3 * ((a 2 0 * ((a 3 2 * (1)))) - (a 2 2 * ((a 3 0 * (1)))))))) * (a 1 0 * x 0 + a 1 1 * x 1 + a 1 2 * x 2 + a 1 3 * x 3) + (-((a 0 0 * ((a 1 2 * ((a 3 3 * (1)))) - (a 1 3 * ((a 3 2 * (1)))))) - (a 0 2 * ((a 1 0 * ((a 3 3 * (1)))) - (a 1 3 * ((a 3 0 * (1)))))) + (a 0 3 * ((a 1 0 * ((a 3 2 * (1)))) - (a 1 2 * ((a 3 0 * (1)))))))) * (a 2 0 * x 0 + a 2 1 * x 1 + a 2 2 * x 2 + a 2 3 * x 3) + (((a 0 0 * ((a 1 2 * ((a 2 3 * (1)))) - (a 1 3 * ((a 2 2 * (1)))))) - (a 0 2 * ((a 1 0 * ((a 2 3 * (1)))) - (a 1 3 * ((a 2 0 * (1)))))) + (a 0 3 * ((a 1 0 * ((a 2 2 * (1)))) - (a 1 2 * ((a 2 0 * (1)))))))) * (a 3 0 * x 0 + a 3 1 * x 1 + a 3 2 * x 2 + a 3 3 * x 3) := by simp only [D]; grind
      have g0 : (a 0 0 * x 0 + a 0 1 * x 1 + a 0 2 * x 2 + a 0 3 * x 3) = 0 := by rw [← h0]; grind
      have g1 : (a 1 0 * x 0 + a 1 1 * x 1 + a 1 2 * x 2 + a 1 3 * x 3) = 0 := by rw [← h1]; grind
      have g2 : (a 2 0 * x 0 + a 2 1 * x 1 + a 2 2 * x 2 + a 2 3 * x 3) = 0 := by rw [← h2]; grind
      have g3 : (a 3 0 * x 0 + a 3 1 * x 1 + a 3 2 * x 2 + a 3 3 * x 3) = 0 := by rw [← h3]; grind
      rw [e, g0, g1, g2, g3]; grind
    | 4, 2, _ =>
      have h0 := h 0 (by decide)
      have h1 := h 1 (by decide)
      have h2 := h 2 (by decide)
      have h3 := h 3 (by decide)
      simp only [List.range, List.range.loop, sm] at h0 h1 h2 h3
      have e : D 4 a * x 2 = (((a 1 0 * ((a 2 1 * ((a 3 3 * (1)))) - (a 2 3 * ((a 3 1 * (1)))))) - (a 1 1 * ((a 2 0 * ((a 3 3 * (1)))) - (a 2 3 * ((a 3 0 * (1)))))) + (a 1 3 * ((a 2 0 * ((a 3 1 * (1)))) - (a 2 1 * ((a 3 0 * (1)))))))) * (a 0 0 * x 0 + a 0 1 * x 1 + a 0 2 * x 2 + a 0 3 * x 3) + (-((a 0 0 * ((a 2 1 * ((a 3 3 * (1)))) - (a 2 3 * ((a 3 1 * (1)))))) - (a 0 1 * ((a 2 0 * ((a 3 3 * (1)))) - (a 2 3 * ((a 3 0 * (1)))))) + (a 0 3 * ((a 2 0 * ((a 3 1 * (1)))) - (a 2 1 * ((a 3 0 * (1)))))))) * (a 1 0 * x 0 + a 1 1 * x 1 + a 1 2 * x 2 + a 1 3 * x 3) + (((a 0 0 * ((a 1 1 * ((a 3 3 * (1)))) - (a 1 3 * ((a 3 1 * (1)))))) - (a 0 1 * ((a 1 0 * ((a 3 3 * (1)))) - (a 1 3 * ((a 3 0 * (1)))))) + (a 0 3 * ((a 1 0 * ((a 3 1 * (1)))) - (a 1 1 * ((a 3 0 * (1)))))))) * (a 2 0 * x 0 + a 2 1 * x 1 + a 2 2 * x 2 + a 2 3 * x 3) + (-((a 0 0 * ((a 1 1 * ((a 2 3 * (1)))) - (a 1 3 * ((a 2 1 * (1)))))) - (a 0 1 * ((a 1 0 * ((a 2 3 * (1)))) - (a 1 3 * ((a 2 0 * (1)))))) + (a 0 3 * ((a 1 0 * ((a 2 1 * (1)))) - (a 1 1 * ((a 2 0 * (1)))))))) * (a 3 0 * x 0 + a 3 1 * x 1 + a 3 2 * x 2 + a 3 3 * x 3) := by simp only [D]; grind
      have g0 : (a 0 0 * x 0 + a 0 1 * x 1 + a 0 2 * x 2 + a 0 3 * x 3) = 0 := by rw [← h0]; grind
      have g1 : (a 1 0 * x 0 + a 1 1 * x 1 + a 1 2 * x 2 + a 1 3 * x 3) = 0 := by rw [← h1]; grind
      have g2 : (a 2 0 * x 0 + a 2 1 * x 1 + a 2 2 * x 2 + a 2 3 * x 3) = 0 := by rw [← h2]; grind
      have g3 : (a 3 0 * x 0 + a 3 1 * x 1 + a 3 2 * x 2 + a 3 3 * x 3) = 0 := by rw [← h3]; grind
      rw [e, g0, g1, g2, g3]; grind
    | 4, 3, _ =>
      have h0 := h 0 (by decide)
      have h1 := h 1 (by decide)
      have h2 := h 2 (by decide)
      have h3 := h 3 (by decide)
      simp only [List.range, List.range.loop, sm] at h0 h1 h2 h3
      have e : D 4 a * x 3 = (-((a 1 0 * ((a 2 1 * ((a 3 2 * (1)))) - (a 2 2 * ((a 3 1 * (1)))))) - (a 1 1 * ((a 2 0 * ((a 3 2 * (1)))) - (a 2 2 * ((a 3 0 * (1)))))) + (a 1 2 * ((a 2 0 * ((a 3 1 * (1)))) - (a 2 1 * ((a 3 0 * (1)))))))) * (a 0 0 * x 0 + a 0 1 * x 1 + a 0 2 * x 2 + a 0 3 * x 3) + (((a 0 0 * ((a 2 1 * ((a 3 2 * (1)))) - (a 2 2 * ((a 3 1 * (1)))))) - (a 0 1 * ((a 2 0 * ((a 3 2 * (1)))) - (a 2 2 * ((a 3 0 * (1)))))) + (a 0 2 * ((a 2 0 * ((a 3 1 * (1)))) - (a 2 1 * ((a 3 0 * (1)))))))) * (a 1 0 * x 0 + a 1 1 * x 1 + a 1 2 * x 2 + a 1 3 * x 3) + (-((a 0 0 * ((a 1 1 * ((a 3 2 * (1)))) - (a 1 2 * ((a 3 1 * (1)))))) - (a 0 1 * ((a 1 0 * ((a 3 2 * (1)))) - (a 1 2 * ((a 3 0 * (1)))))) + (a 0 2 * ((a 1 0 * ((a 3 1 * (1)))) - (a 1 1 * ((a 3 0 * (1)))))))) * (a 2 0 * x 0 + a 2 1 * x 1 + a 2 2 * x 2 + a 2 3 * x 3) + (((a 0 0 * ((a 1 1 * ((a 2 2 * (1)))) - (a 1 2 * ((a 2 1 * (1)))))) - (a 0 1 * ((a 1 0 * ((a 2 2 * (1)))) - (a 1 2 * ((a 2 0 * (1)))))) + (a 0 2 * ((a 1 0 * ((a 2 1 * (1)))) - (a 1 1 * ((a 2 0 * (1)))))))) * (a 3 0 * x 0 + a 3 1 * x 1 + a 3 2 * x 2 + a 3 3 * x 3) := by simp only [D]; grind
      have g0 : (a 0 0 * x 0 + a 0 1 * x 1 + a 0 2 * x 2 + a 0 3 * x 3) = 0 := by rw [← h0]; grind
      have g1 : (a 1 0 * x 0 + a 1 1 * x 1 + a 1 2 * x 2 + a 1 3 * x 3) = 0 := by rw [← h1]; grind
      have g2 : (a 2 0 * x 0 + a 2 1 * x 1 + a 2 2 * x 2 + a 2 3 * x 3) = 0 := by rw [← h2]; grind
      have g3 : (a 3 0 * x 0 + a 3 1 * x 1 + a 3 2 * x 2 + a 3 3 * x 3) = 0 := by rw [← h3]; grind
      rw [e, g0, g1, g2, g3]; grind
    | n + 5, f, _ => simp only [D]; grind
    | 0, _, hf => omega
  grind
/-- the determinant of integer rows, seen in the field -/
def rowsF (F : Type) [Lean.Grind.Field F] (L : List Row) (i j : Nat) : F := ph F (L.getD i (fun _ => 0) j)
theorem det_D (R : List Row) (n : Nat) (h1 : 1 ≤ n) (h4 : n ≤ 4) (hR : R.length = n) : ph F (det R (List.range n)) = D n (rowsF F R) := by
  match R, n, hR with
  | [a], _, rfl => simp [List.range, List.range.loop, det, ex, D, rowsF]
  | [a, b], _, rfl => simp [List.range, List.range.loop, det, ex, D, rowsF, ph_add, ph_mul, ph_neg, ph_zero, ph_one]; grind
  | [a, b, c], _, rfl => simp [List.range, List.range.loop, det, ex, D, rowsF, ph_add, ph_mul, ph_neg, ph_zero, ph_one]; grind
  | [a, b, c, d], _, rfl => simp [List.range, List.range.loop, det, ex, D, rowsF, ph_add, ph_mul, ph_neg, ph_zero, ph_one]; grind
  | [], _, rfl => simp at h1
  | _ :: _ :: _ :: _ :: _ :: _, _, rfl => simp at h4
theorem alt_D : Alt (F := F) fun L => D L.length (rowsF F L) := fun L i j u v n hi hj => by
  have li := (List.getElem?_eq_some_iff.mp hi).1
  have lj := (List.getElem?_eq_some_iff.mp hj).1
  have e : (swapL L i j u v).length = L.length := by simp [swapL]
  simp only [e]
  refine D_swap li lj n fun k => ?_
  funext c
  have ev : (swapL L i j u v)[k]? = if k = j then some u else if k = i then some v else L[k]? := swap_at hi hj
  unfold rowsF
  by_cases h1 : k = j
  · rw [if_pos h1] at ev ⊢
    rw [getD_some ev, getD_some hi]
  · by_cases h2 : k = i
    · rw [if_neg h1, if_pos h2] at ev ⊢
      rw [getD_some ev, getD_some hj]
    · rw [if_neg h1, if_neg h2] at ev ⊢
      rw [List.getD_eq_getElem?_getD, ev, ← List.getD_eq_getElem?_getD]
theorem asc_all : ∀ (C : List Nat) (lo : Nat), C.Pairwise (· < ·) → (∀ c ∈ C, lo ≤ c ∧ c < lo + C.length) → C = List.range' lo C.length
  | [], _, _, _ => rfl
  | c :: C, lo, hp, h => by
    obtain ⟨p1, p2⟩ := List.pairwise_cons.mp hp
    have hc := h c (by simp)
    have ih := asc_all C (lo + 1) p2 fun d hd => by
      have h1 := p1 d hd
      have h2 := h d (by simp [hd])
      simp at h2
      omega
    have e : c = lo := by
      match C, ih, p1, hc with
      | [], _, _, hc => simp at hc; omega
      | d :: C, ih, p1, hc =>
        simp only [List.length_cons, List.range'_succ] at ih
        have := (List.cons.inj ih).1
        have := p1 d (by simp)
        omega
    rw [List.length_cons, List.range'_succ, ← ih, e]
theorem rows_fn {A : List (List Int)} {i : Nat} {ns : List Int} (h : A[i]? = some ns) (j : Nat) : rowsF F (A.map fn) i j = ph F (fn ns j) := by
  unfold rowsF
  rw [getD_some (by rw [List.getElem?_map, h]; rfl)]
theorem CSt.det_low {g : Nat} {A : List (List Int)} {n : Nat} {M : List (List Int)} {C : List Nat} {lead : Int} {R X : List Row} (h : CSt F g A n n M C lead R X) (hA : A.length = n) (hW : ∀ ns ∈ A, ns.length = n) (hlt : C.length < n) : D n (rowsF F (A.map fn)) = 0 := by
  have rb := h.rb hW
  have ex : ∃ f, f < n ∧ f ∉ C := Classical.byContradiction fun hne => by
    have e : C = List.range n := asc_eq h.cl.asc List.pairwise_lt_range fun c => ⟨fun hc => List.mem_range.mpr (h.cl.lt c hc), fun hc => Classical.byContradiction fun hn => hne ⟨c, List.mem_range.mp hc, hn⟩⟩
    rw [e, List.length_range] at hlt
    omega
  obtain ⟨f, hf, hfC⟩ := ex
  refine D_ker n _ (ker (rho F R C) C f) f hf (fun i hi => ?_) (by rw [ker, if_pos rfl]; exact one_ne)
  have e := List.getElem?_eq_getElem (show i < A.length by omega)
  have hm := List.getElem_mem (show i < A.length by omega)
  generalize A[i] = ns at e hm
  have hz := ker_zero rb.red (rb.ins _ ⟨ns, hm, rfl⟩) (J := List.range n) (List.mem_range.mpr hf) hfC List.nodup_range (fun c hc => List.mem_range.mpr (h.cl.lt c hc)) rb.red.nodup
  rw [← hz]
  exact sm_congr _ fun j _ => by rw [rows_fn e]
theorem CSt.det_full {g : Nat} {A : List (List Int)} {n : Nat} {M : List (List Int)} {C : List Nat} {lead s : Int} {R X : List Row} (h : CSt F g A n n M C lead R X) (hA : A.length = n) (h1 : 1 ≤ n) (h4 : n ≤ 4) (hlt : ¬ C.length < n) (hs : SgP F s (A.map fn) (R ++ X)) (hs1 : s = 1 ∨ s = -1) : D n (rowsF F (A.map fn)) = ph F s * ph F lead := by
  have hl := h.perm.length_eq
  have hR := h.cl.good.len
  simp only [List.length_append, List.length_map] at hl
  have hC : C.length = n := by omega
  have hX : X = [] := List.eq_nil_of_length_eq_zero (by omega)
  subst hX
  rw [List.append_nil] at hs
  have eC : C = List.range n := by
    have := asc_all C 0 h.cl.asc fun c hc => ⟨Nat.zero_le _, by have := h.cl.lt c hc; omega⟩
    rw [this, hC, List.range_eq_range']
  have hd := det_D (F := F) R n h1 h4 (by omega)
  have hsd := hs _ alt_D
  simp only [List.length_map] at hsd
  rw [show R.length = n by omega, hA, ← hd, ← eC, ← h.ld] at hsd
  rw [hsd]
  rcases hs1 with rfl | rfl
  · rw [ph_one]; grind
  · rw [ph_neg, ph_one]; grind
/-- rows beside the unit rows, cleared whole: what stands beside undoes the rows, from both sides -/
theorem mix_side {n : Nat} {a : Nat → Nat → F} : ∀ (R : List Row) (T : List Int), T.length = R.length → (∀ x ∈ R, ∀ j, j < n → ph F (x j) = sm (List.range n) fun k => ph F (x (n + k)) * a k j) → ∀ j, j < n → ph F (mix T R j) = sm (List.range n) fun k => ph F (mix T R (n + k)) * a k j
  | [], [], _, _, j, _ => by
    simp only [mix, ph_zero]
    exact (sm_zero _ fun i _ => by grind).symm
  | r :: R, t :: T, hl, h, j, hj => by
    have ih := mix_side R T (by simpa using hl) (fun x hx => h x (by simp [hx])) j hj
    have h1 := h r (by simp) j hj
    simp only [mix, ph_add, ph_mul]
    rw [ih, h1, ← sm_mul, ← sm_add]
    exact sm_congr _ fun k _ => by grind
theorem CSt.sides {g n : Nat} {A M : List (List Int)} {C : List Nat} {lead : Int} {R X : List Row} (h : CSt F g A (n + n) n M C lead R X) (hA : A.length = n) (hlt : ¬ C.length < n) {a : Nat → Nat → F} {w : Nat → F} (hw : ∀ i, i < n → w i ≠ 0)
    (hr : ∀ i ns, A[i]? = some ns → (∀ j, j < n → ph F (fn ns j) = w i * a i j) ∧ ∀ j, j < n → ph F (fn ns (n + j)) = w i * if i = j then 1 else 0) {b : Nat → Nat → F} (hb : ∀ i j, i < n → j < n → b i j = ph F (gI M i (n + j)) * (ph F lead)⁻¹) :
    (∀ i j, i < n → j < n → sm (List.range n) (fun k => a i k * b k j) = if i = j then 1 else 0) ∧ ∀ i j, i < n → j < n → sm (List.range n) (fun k => b i k * a k j) = if i = j then 1 else 0 := by
  have hl := h.perm.length_eq
  have hR := h.cl.good.len
  simp only [List.length_append, List.length_map] at hl
  have hC : C.length = n := by omega
  have hX : X = [] := List.eq_nil_of_length_eq_zero (by omega)
  subst hX
  have eC : C = List.range n := by
    have := asc_all C 0 h.cl.asc fun c hc => ⟨Nat.zero_le _, by have := h.cl.lt c hc; omega⟩
    rw [this, hC, List.range_eq_range']
  have hp : ∀ x, x ∈ R ↔ x ∈ A.map fn := fun x => by rw [← h.perm.mem_iff, List.append_nil]
  have hbr : ∀ i j, i < n → j < n → b i j = rho F R C i (n + j) := fun i j hi hj => by
    have h1 := h.upper i (by omega) (n + j) (by omega)
    have e : C.getD i 0 = i := by rw [eC, List.getD_eq_getElem?_getD, List.getElem?_range hi]; rfl
    rw [hb i j hi hj, h1, e, h.ld]
    rfl
  refine ⟨fun i j hi hj => ?_, fun i j hi hj => ?_⟩
  · have ea := List.getElem?_eq_getElem (show i < A.length by omega)
    have hm := List.getElem_mem (show i < A.length by omega)
    generalize A[i] = ns at ea hm
    obtain ⟨r1, r2⟩ := hr i ns ea
    have hz := h.cl.good.low_row ((hp (fn ns)).2 (List.mem_map.mpr ⟨ns, hm, rfl⟩)) (n + j)
    have hin := h.cl.inAt (fn ns) (n + j) (by rw [hz, ph_zero])
    rw [r2 j hj, eC] at hin
    have e2 : sm (List.range n) (fun c => ph F (fn ns c) * rho F R (List.range n) c (n + j)) = w i * sm (List.range n) fun k => a i k * b k j := by
      rw [← sm_mul]
      refine sm_congr _ fun k hk => ?_
      have hk := List.mem_range.mp hk
      rw [r1 k hk, hbr k j hk hj, eC]
      grind
    rw [e2] at hin
    have := hw i hi
    grind
  · have side : ∀ x ∈ R, ∀ j, j < n → ph F (x j) = sm (List.range n) fun k => ph F (x (n + k)) * a k j := fun x hx j hj => by
      obtain ⟨ns, hns, rfl⟩ := List.mem_map.mp ((hp x).1 hx)
      obtain ⟨k, hk⟩ := List.mem_iff_getElem?.mp hns
      have hkn : k < n := by rw [← hA]; exact (List.getElem?_eq_some_iff.mp hk).1
      obtain ⟨r1, r2⟩ := hr k ns hk
      rw [r1 j hj, sm_delta _ k _ List.nodup_range (List.mem_range.mpr hkn) fun l hl hne => by rw [r2 l (List.mem_range.mp hl), if_neg (fun e => hne e.symm)]; grind]
      rw [r2 k hkn, if_pos rfl]
      grind
    obtain ⟨T, hT, eT⟩ := upp_span R C i
    have h1 := mix_side R T hT side j hj
    have red := h.cl.red
    have hiC : i ∈ C := by rw [eC]; exact List.mem_range.mpr hi
    have hjC : j ∈ C := by rw [eC]; exact List.mem_range.mpr hj
    have e3 : rho F R C i j = if i = j then 1 else 0 := by
      by_cases e : i = j
      · rw [if_pos e, ← e]; exact red.one i hiC
      · rw [if_neg e]; exact red.zero i hiC j hjC (fun e2 => e e2.symm)
    rw [← e3, rho, eT j, h1]
    have e4 : sm (List.range n) (fun k => b i k * a k j) = (ph F (det R C))⁻¹ * sm (List.range n) fun k => ph F (mix T R (n + k)) * a k j := by
      rw [← sm_mul]
      refine sm_congr _ fun k hk => ?_
      rw [hbr i k hi (List.mem_range.mp hk), rho, eT (n + k)]
      grind
    rw [e4]
    grind
theorem CSt.side_low {g n W : Nat} {A M : List (List Int)} {C : List Nat} {lead : Int} {R X : List Row} (h : CSt F g A W n M C lead R X) (hA : A.length = n) (hlt : C.length < n) {a : Nat → Nat → F} {w : Nat → F} (hw : ∀ i, i < n → w i ≠ 0)
    (hr : ∀ i ns, A[i]? = some ns → ∀ j, j < n → ph F (fn ns j) = w i * a i j) : D n a = 0 := by
  have ex : ∃ f, f < n ∧ f ∉ C := Classical.byContradiction fun hne => by
    have e : C = List.range n := asc_eq h.cl.asc List.pairwise_lt_range fun c => ⟨fun hc => List.mem_range.mpr (h.cl.lt c hc), fun hc => Classical.byContradiction fun hn => hne ⟨c, List.mem_range.mp hc, hn⟩⟩
    rw [e, List.length_range] at hlt
    omega
  obtain ⟨f, hf, hfC⟩ := ex
  refine D_ker n _ (ker (rho F R C) C f) f hf (fun i hi => ?_) (by rw [ker, if_pos rfl]; exact one_ne)
  have e := List.getElem?_eq_getElem (show i < A.length by omega)
  have hm := List.getElem_mem (show i < A.length by omega)
  generalize A[i] = ns at e hm
  have hmem : fn ns ∈ R ++ X := (h.perm.mem_iff).2 (List.mem_map.mpr ⟨ns, hm, rfl⟩)
  have hin : ∀ j, j < n → ph F (fn ns j) = sm C fun c => ph F (fn ns c) * rho F R C c j := fun j hj => by
    refine h.cl.inAt (fn ns) j ?_
    rcases List.mem_append.mp hmem with hx | hx
    · rw [h.cl.good.low_row hx j, ph_zero]
    · exact h.cl.lowz _ hx j hj
  have vin : In C (rho F R C) (fun j => sm C fun c => ph F (fn ns c) * rho F R C c j) := fun j => sm_congr _ fun c hc => by
    dsimp only
    rw [← hin c (h.cl.lt c hc)]
  have hz := ker_zero h.cl.red vin (J := List.range n) (List.mem_range.mpr hf) hfC List.nodup_range (fun c hc => List.mem_range.mpr (h.cl.lt c hc)) h.cl.nodup
  have e2 : sm (List.range n) (fun j => (sm C fun c => ph F (fn ns c) * rho F R C c j) * ker (rho F R C) C f j) = w i * sm (List.range n) fun j => a i j * ker (rho F R C) C f j := by
    rw [← sm_mul]
    refine sm_congr _ fun j hj => ?_
    have hj := List.mem_range.mp hj
    rw [← hin j hj, hr i ns e j hj]
    grind
  rw [e2] at hz
  have := hw i hi
  grind
theorem alt_perm {P Q : List Row} (h : P.Perm Q) : ∀ Δ : List Row → F, Alt Δ → Δ Q = Δ P ∨ Δ Q = - Δ P := by
  induction h with
  | nil => exact fun Δ _ => .inl rfl
  | cons x _ ih =>
    intro Δ a
    exact ih (fun L => Δ (x :: L)) fun L i j u v n hi hj => by
      have := a (x :: L) (i + 1) (j + 1) u v (by omega) (by simpa using hi) (by simpa using hj)
      simpa [swapL] using this
  | swap x y l =>
    intro Δ a
    have := a (y :: x :: l) 0 1 y x (by decide) rfl rfl
    exact .inr (by simpa [swapL] using this)
  | trans _ _ i1 i2 =>
    intro Δ a
    rcases i1 Δ a with h | h <;> rcases i2 Δ a with k | k <;> rw [k, h] <;> grind
/-- as many leads as rows: no determinant 0 -/
theorem CSt.det_ne {g : Nat} {A : List (List Int)} {n : Nat} {M : List (List Int)} {C : List Nat} {lead : Int} {R X : List Row} (h : CSt F g A n n M C lead R X) (hA : A.length = n) (h1 : 1 ≤ n) (h4 : n ≤ 4) (hlt : ¬ C.length < n) : D n (rowsF F (A.map fn)) ≠ 0 := by
  have hl := h.perm.length_eq
  have hR := h.cl.good.len
  simp only [List.length_append, List.length_map] at hl
  have hC : C.length = n := by omega
  have hX : X = [] := List.eq_nil_of_length_eq_zero (by omega)
  subst hX
  have hp := h.perm
  rw [List.append_nil] at hp
  have eC : C = List.range n := by
    have := asc_all C 0 h.cl.asc fun c hc => ⟨Nat.zero_le _, by have := h.cl.lt c hc; omega⟩
    rw [this, hC, List.range_eq_range']
  have hd := det_D (F := F) R n h1 h4 (by omega)
  have hsd := alt_perm hp (fun L => D L.length (rowsF F L)) alt_D
  simp only [List.length_map] at hsd
  have hne := h.ldne
  rw [h.ld, eC, hd] at hne
  rw [show R.length = n by omega, hA] at hsd
  rcases hsd with e | e <;> rw [e]
  · exact hne
  · intro c
    exact hne (by grind)
end
end Lin

namespace L2.Z
open PySem PySem.Spec PyProof.Rows
local macro_rules | `(tactic| walk_at "z") => `(tactic| (try simp only [↓z_var0, ↓z_varS, ↓z_C, ↓z_op, ↓z_un, ↓z_I0, ↓z_I, ↓z_U, ↓z_eqI, ↓z_neI, ↓z_bl, ↓z_test, ↓z_B, ↓z_and, ↓z_or, ↓z_not, ↓z_andV, ↓z_orV, ↓z_notV, ↓z_if, ↓z_ifS, ↓z_seq, ↓z_next, ↓z_ret, ↓z_retN, ↓z_asg, ↓z_gname, ↓z_drop, ↓z_nil, ↓z_cons, ↓z_call, ↓z_CB, ↓z_par, ↓z_pair, ↓z_aug0, ↓z_ipI, ↓z_abs, ↓z_max, ↓z_min, ↓z_int, ↓z_intB, ↓z_gcd, ↓z_tup, ↓z_lst, ↓z_chain, z_some, z_bl, z_pair, decide_eq_true_eq, Bool.not_eq_true', decide_eq_false_iff_not, List.set_cons_zero, List.set_cons_succ, List.getElem?_cons_zero, List.getElem?_cons_succ, Bool.false_eq_true, Bool.true_eq_false, if_true, if_false, ↓reduceIte, ↓z_isN, ↓z_gtup, ↓z_gcons, ↓z_gnil, ↓z_yes, ↓z_wipe0, ↓z_wipeS, ↓z_itup, ↓z_ilist, ↓z_irng1, ↓z_irng2, ↓z_lc, ↓z_lc2, ↓z_izip, ↓z_ient, ↓z_chain3, ↓z_inT, ↓z_izipX, ↓z_iseqB, ↓z_lenSc, ↓z_raise1, ↓z_raise0, ↓z_lam, ↓z_callS, ↓z_par3, z_trip, ↓z_rg1, ↓z_rg2, z_ii, z_i1, ↓z_lstrg, ↓z_disp, ↓z_tp0, ↓z_tpS, ↓z_dnew, ↓z_din, ↓z_tru, ↓z_dget, ↓z_dget2, ↓z_dput, ↓z_cont, ↓z_sl, ↓z_part, ↓z_nopart, ↓z_strI, ↓z_gsub, ↓z_for, true_and, and_true, decide_true, decide_false, not_true_eq_false, not_false_eq_true, ↓z_bm, ↓z_bm0, ↓z_notN, z_dn1, z_dn2, z_dn3, z_dn4, z_dn5, Nat.zero_add, Nat.reduceAdd, Nat.reduceSub, List.replicate_succ, List.replicate_zero, start, List.map_cons, List.map_nil, List.length_cons, List.length_nil, List.cons_append, List.nil_append]))
def top (i : Nat) : Stmt := PySem.Challenge.pw_zeroorone_k12_errors_of_tables.main.body.getD i (.Pass ⟨0, 0, 0, 0⟩)
abbrev s_is_int : Stmt := top 10
abbrev s_has_no_parts : Stmt := top 13
abbrev s_bezout : Stmt := top 18
abbrev s_common_multiple : Stmt := top 20
abbrev s_top_of : Stmt := top 22
abbrev s_bottom_of : Stmt := top 23
abbrev s_number_of : Stmt := top 24
abbrev s_integer_dot : Stmt := top 26
abbrev s_length_fits : Stmt := top 31
abbrev s_turned : Stmt := top 34
abbrev s_beside : Stmt := top 38
abbrev s_find_lead : Stmt := top 40
abbrev s_is_below : Stmt := top 11
abbrev s_is_between : Stmt := top 12
abbrev s_undone_modulo : Stmt := top 19
abbrev s_whole_row : Stmt := top 25
abbrev s_check_between : Stmt := top 29
abbrev s_rows_fit : Stmt := top 32
abbrev s_unit_rows : Stmt := top 35
abbrev s_prime_fits : Stmt := top 14
abbrev s_number_fits : Stmt := top 16
abbrev s_quotient : Stmt := top 21
abbrev s_lowered : Stmt := top 39
abbrev s_ground_fits : Stmt := top 15
abbrev s_vector_fits : Stmt := top 17
abbrev s_product_rows : Stmt := top 36
abbrev s_cleared : Stmt := top 41
abbrev s_numbers_over : Stmt := top 43
abbrev s_solution : Stmt := top 61
abbrev s_check_ground : Stmt := top 28
abbrev s_table_fits : Stmt := top 33
abbrev s_cleared_table : Stmt := top 42
abbrev s_undone_rows : Stmt := top 44
abbrev s_kernel_rows : Stmt := top 45
abbrev s_is_table : Stmt := top 50
abbrev s_unit_table : Stmt := top 52
abbrev s_rank_paper : Stmt := top 46
abbrev s_check_table : Stmt := top 51
abbrev s_table_product : Stmt := top 53
abbrev s_reduced_rows : Stmt := top 54
abbrev s_leads : Stmt := top 55
abbrev s_kernel : Stmt := top 57
abbrev s_check_square : Stmt := top 58
abbrev s_solve_answer : Stmt := top 62
abbrev s_rank_answer : Stmt := top 63
abbrev s_rank : Stmt := top 56
abbrev s_determinant : Stmt := top 59
abbrev s_undoing : Stmt := top 60
abbrev s__law_dice : Stmt := top 65
abbrev s__law_roll : Stmt := top 66
abbrev s__law_unit : Stmt := top 68
abbrev s__law_pick : Stmt := top 67
abbrev s__law_eq_ground : Stmt := top 69
abbrev s__law_bad_table : Stmt := top 71
abbrev s__law_right : Stmt := top 72
abbrev s_law : Stmt := top 73
abbrev s__law_fault : Stmt := top 70
def bm_ArithmeticError : List Value := [.type "ArithmeticError", .type "Exception", .type "BaseException", .type "object"]
def bm_IndexError : List Value := [.type "IndexError", .type "LookupError", .type "Exception", .type "BaseException", .type "object"]
def bm_ValueError : List Value := [.type "ValueError", .type "Exception", .type "BaseException", .type "object"]
structure Tx (K : PySem.W.Frag) (mg : Str → Option Value) : Prop where
  f_is_int : ∃ fd, FunD K "is_int" "is_int" (defArgs s_is_int) (defBody s_is_int) (defScope s_is_int) [] [] (He.ga K "is_int") fd
  g_is_int : mg "is_int" = some (.ref (He.ga K "is_int"))
  f_has_no_parts : ∃ fd, FunD K "has_no_parts" "has_no_parts" (defArgs s_has_no_parts) (defBody s_has_no_parts) (defScope s_has_no_parts) [] [] (He.ga K "has_no_parts") fd
  g_has_no_parts : mg "has_no_parts" = some (.ref (He.ga K "has_no_parts"))
  f_bezout : ∃ fd, FunD K "bezout" "bezout" (defArgs s_bezout) (defBody s_bezout) (defScope s_bezout) [] [] (He.ga K "bezout") fd
  g_bezout : mg "bezout" = some (.ref (He.ga K "bezout"))
  f_common_multiple : ∃ fd, FunD K "common_multiple" "common_multiple" (defArgs s_common_multiple) (defBody s_common_multiple) (defScope s_common_multiple) [] [] (He.ga K "common_multiple") fd
  g_common_multiple : mg "common_multiple" = some (.ref (He.ga K "common_multiple"))
  f_top_of : ∃ fd, FunD K "top_of" "top_of" (defArgs s_top_of) (defBody s_top_of) (defScope s_top_of) [] [] (He.ga K "top_of") fd
  g_top_of : mg "top_of" = some (.ref (He.ga K "top_of"))
  f_bottom_of : ∃ fd, FunD K "bottom_of" "bottom_of" (defArgs s_bottom_of) (defBody s_bottom_of) (defScope s_bottom_of) [] [] (He.ga K "bottom_of") fd
  g_bottom_of : mg "bottom_of" = some (.ref (He.ga K "bottom_of"))
  f_number_of : ∃ fd, FunD K "number_of" "number_of" (defArgs s_number_of) (defBody s_number_of) (defScope s_number_of) [] [] (He.ga K "number_of") fd
  g_number_of : mg "number_of" = some (.ref (He.ga K "number_of"))
  f_integer_dot : ∃ fd, FunD K "integer_dot" "integer_dot" (defArgs s_integer_dot) (defBody s_integer_dot) (defScope s_integer_dot) [] [] (He.ga K "integer_dot") fd
  g_integer_dot : mg "integer_dot" = some (.ref (He.ga K "integer_dot"))
  f_length_fits : ∃ fd, FunD K "length_fits" "length_fits" (defArgs s_length_fits) (defBody s_length_fits) (defScope s_length_fits) [] [] (He.ga K "length_fits") fd
  g_length_fits : mg "length_fits" = some (.ref (He.ga K "length_fits"))
  f_turned : ∃ fd, FunD K "turned" "turned" (defArgs s_turned) (defBody s_turned) (defScope s_turned) [] [] (He.ga K "turned") fd
  g_turned : mg "turned" = some (.ref (He.ga K "turned"))
  f_beside : ∃ fd, FunD K "beside" "beside" (defArgs s_beside) (defBody s_beside) (defScope s_beside) [] [] (He.ga K "beside") fd
  g_beside : mg "beside" = some (.ref (He.ga K "beside"))
  f_find_lead : ∃ fd, FunD K "find_lead" "find_lead" (defArgs s_find_lead) (defBody s_find_lead) (defScope s_find_lead) [] [] (He.ga K "find_lead") fd
  g_find_lead : mg "find_lead" = some (.ref (He.ga K "find_lead"))
  f_is_below : ∃ fd, FunD K "is_below" "is_below" (defArgs s_is_below) (defBody s_is_below) (defScope s_is_below) [] [] (He.ga K "is_below") fd
  g_is_below : mg "is_below" = some (.ref (He.ga K "is_below"))
  f_is_between : ∃ fd, FunD K "is_between" "is_between" (defArgs s_is_between) (defBody s_is_between) (defScope s_is_between) [] [] (He.ga K "is_between") fd
  g_is_between : mg "is_between" = some (.ref (He.ga K "is_between"))
  f_undone_modulo : ∃ fd, FunD K "undone_modulo" "undone_modulo" (defArgs s_undone_modulo) (defBody s_undone_modulo) (defScope s_undone_modulo) [] [] (He.ga K "undone_modulo") fd
  g_undone_modulo : mg "undone_modulo" = some (.ref (He.ga K "undone_modulo"))
  f_whole_row : ∃ fd, FunD K "whole_row" "whole_row" (defArgs s_whole_row) (defBody s_whole_row) (defScope s_whole_row) [] [] (He.ga K "whole_row") fd
  g_whole_row : mg "whole_row" = some (.ref (He.ga K "whole_row"))
  f_check_between : ∃ fd, FunD K "check_between" "check_between" (defArgs s_check_between) (defBody s_check_between) (defScope s_check_between) [] [] (He.ga K "check_between") fd
  g_check_between : mg "check_between" = some (.ref (He.ga K "check_between"))
  f_rows_fit : ∃ fd, FunD K "rows_fit" "rows_fit" (defArgs s_rows_fit) (defBody s_rows_fit) (defScope s_rows_fit) [] [] (He.ga K "rows_fit") fd
  g_rows_fit : mg "rows_fit" = some (.ref (He.ga K "rows_fit"))
  f_unit_rows : ∃ fd, FunD K "unit_rows" "unit_rows" (defArgs s_unit_rows) (defBody s_unit_rows) (defScope s_unit_rows) [] [] (He.ga K "unit_rows") fd
  g_unit_rows : mg "unit_rows" = some (.ref (He.ga K "unit_rows"))
  f_prime_fits : ∃ fd, FunD K "prime_fits" "prime_fits" (defArgs s_prime_fits) (defBody s_prime_fits) (defScope s_prime_fits) [] [] (He.ga K "prime_fits") fd
  g_prime_fits : mg "prime_fits" = some (.ref (He.ga K "prime_fits"))
  f_number_fits : ∃ fd, FunD K "number_fits" "number_fits" (defArgs s_number_fits) (defBody s_number_fits) (defScope s_number_fits) [] [] (He.ga K "number_fits") fd
  g_number_fits : mg "number_fits" = some (.ref (He.ga K "number_fits"))
  f_quotient : ∃ fd, FunD K "quotient" "quotient" (defArgs s_quotient) (defBody s_quotient) (defScope s_quotient) [] [] (He.ga K "quotient") fd
  g_quotient : mg "quotient" = some (.ref (He.ga K "quotient"))
  f_lowered : ∃ fd, FunD K "lowered" "lowered" (defArgs s_lowered) (defBody s_lowered) (defScope s_lowered) [] [] (He.ga K "lowered") fd
  g_lowered : mg "lowered" = some (.ref (He.ga K "lowered"))
  f_ground_fits : ∃ fd, FunD K "ground_fits" "ground_fits" (defArgs s_ground_fits) (defBody s_ground_fits) (defScope s_ground_fits) [] [] (He.ga K "ground_fits") fd
  g_ground_fits : mg "ground_fits" = some (.ref (He.ga K "ground_fits"))
  f_vector_fits : ∃ fd, FunD K "vector_fits" "vector_fits" (defArgs s_vector_fits) (defBody s_vector_fits) (defScope s_vector_fits) [] [] (He.ga K "vector_fits") fd
  g_vector_fits : mg "vector_fits" = some (.ref (He.ga K "vector_fits"))
  f_product_rows : ∃ fd, FunD K "product_rows" "product_rows" (defArgs s_product_rows) (defBody s_product_rows) (defScope s_product_rows) [] [] (He.ga K "product_rows") fd
  g_product_rows : mg "product_rows" = some (.ref (He.ga K "product_rows"))
  f_cleared : ∃ fd, FunD K "cleared" "cleared" (defArgs s_cleared) (defBody s_cleared) (defScope s_cleared) [] [] (He.ga K "cleared") fd
  g_cleared : mg "cleared" = some (.ref (He.ga K "cleared"))
  f_numbers_over : ∃ fd, FunD K "numbers_over" "numbers_over" (defArgs s_numbers_over) (defBody s_numbers_over) (defScope s_numbers_over) [] [] (He.ga K "numbers_over") fd
  g_numbers_over : mg "numbers_over" = some (.ref (He.ga K "numbers_over"))
  f_solution : ∃ fd, FunD K "solution" "solution" (defArgs s_solution) (defBody s_solution) (defScope s_solution) [] [] (He.ga K "solution") fd
  g_solution : mg "solution" = some (.ref (He.ga K "solution"))
  f_check_ground : ∃ fd, FunD K "check_ground" "check_ground" (defArgs s_check_ground) (defBody s_check_ground) (defScope s_check_ground) [] [] (He.ga K "check_ground") fd
  g_check_ground : mg "check_ground" = some (.ref (He.ga K "check_ground"))
  f_table_fits : ∃ fd, FunD K "table_fits" "table_fits" (defArgs s_table_fits) (defBody s_table_fits) (defScope s_table_fits) [] [] (He.ga K "table_fits") fd
  g_table_fits : mg "table_fits" = some (.ref (He.ga K "table_fits"))
  f_cleared_table : ∃ fd, FunD K "cleared_table" "cleared_table" (defArgs s_cleared_table) (defBody s_cleared_table) (defScope s_cleared_table) [] [] (He.ga K "cleared_table") fd
  g_cleared_table : mg "cleared_table" = some (.ref (He.ga K "cleared_table"))
  f_undone_rows : ∃ fd, FunD K "undone_rows" "undone_rows" (defArgs s_undone_rows) (defBody s_undone_rows) (defScope s_undone_rows) [] [] (He.ga K "undone_rows") fd
  g_undone_rows : mg "undone_rows" = some (.ref (He.ga K "undone_rows"))
  f_kernel_rows : ∃ fd, FunD K "kernel_rows" "kernel_rows" (defArgs s_kernel_rows) (defBody s_kernel_rows) (defScope s_kernel_rows) [] [] (He.ga K "kernel_rows") fd
  g_kernel_rows : mg "kernel_rows" = some (.ref (He.ga K "kernel_rows"))
  f_is_table : ∃ fd, FunD K "is_table" "is_table" (defArgs s_is_table) (defBody s_is_table) (defScope s_is_table) [] [] (He.ga K "is_table") fd
  g_is_table : mg "is_table" = some (.ref (He.ga K "is_table"))
  f_unit_table : ∃ fd, FunD K "unit_table" "unit_table" (defArgs s_unit_table) (defBody s_unit_table) (defScope s_unit_table) [] [] (He.ga K "unit_table") fd
  g_unit_table : mg "unit_table" = some (.ref (He.ga K "unit_table"))
  f_rank_paper : ∃ fd, FunD K "rank_paper" "rank_paper" (defArgs s_rank_paper) (defBody s_rank_paper) (defScope s_rank_paper) [] [] (He.ga K "rank_paper") fd
  g_rank_paper : mg "rank_paper" = some (.ref (He.ga K "rank_paper"))
  f_check_table : ∃ fd, FunD K "check_table" "check_table" (defArgs s_check_table) (defBody s_check_table) (defScope s_check_table) [] [] (He.ga K "check_table") fd
  g_check_table : mg "check_table" = some (.ref (He.ga K "check_table"))
  f_table_product : ∃ fd, FunD K "table_product" "table_product" (defArgs s_table_product) (defBody s_table_product) (defScope s_table_product) [] [] (He.ga K "table_product") fd
  g_table_product : mg "table_product" = some (.ref (He.ga K "table_product"))
  f_reduced_rows : ∃ fd, FunD K "reduced_rows" "reduced_rows" (defArgs s_reduced_rows) (defBody s_reduced_rows) (defScope s_reduced_rows) [] [] (He.ga K "reduced_rows") fd
  g_reduced_rows : mg "reduced_rows" = some (.ref (He.ga K "reduced_rows"))
  f_leads : ∃ fd, FunD K "leads" "leads" (defArgs s_leads) (defBody s_leads) (defScope s_leads) [] [] (He.ga K "leads") fd
  g_leads : mg "leads" = some (.ref (He.ga K "leads"))
  f_kernel : ∃ fd, FunD K "kernel" "kernel" (defArgs s_kernel) (defBody s_kernel) (defScope s_kernel) [] [] (He.ga K "kernel") fd
  g_kernel : mg "kernel" = some (.ref (He.ga K "kernel"))
  f_check_square : ∃ fd, FunD K "check_square" "check_square" (defArgs s_check_square) (defBody s_check_square) (defScope s_check_square) [] [] (He.ga K "check_square") fd
  g_check_square : mg "check_square" = some (.ref (He.ga K "check_square"))
  f_solve_answer : ∃ fd, FunD K "solve_answer" "solve_answer" (defArgs s_solve_answer) (defBody s_solve_answer) (defScope s_solve_answer) [] [] (He.ga K "solve_answer") fd
  g_solve_answer : mg "solve_answer" = some (.ref (He.ga K "solve_answer"))
  f_rank_answer : ∃ fd, FunD K "rank_answer" "rank_answer" (defArgs s_rank_answer) (defBody s_rank_answer) (defScope s_rank_answer) [] [] (He.ga K "rank_answer") fd
  g_rank_answer : mg "rank_answer" = some (.ref (He.ga K "rank_answer"))
  f_rank : ∃ fd, FunD K "rank" "rank" (defArgs s_rank) (defBody s_rank) (defScope s_rank) [] [] (He.ga K "rank") fd
  g_rank : mg "rank" = some (.ref (He.ga K "rank"))
  f_determinant : ∃ fd, FunD K "determinant" "determinant" (defArgs s_determinant) (defBody s_determinant) (defScope s_determinant) [] [] (He.ga K "determinant") fd
  g_determinant : mg "determinant" = some (.ref (He.ga K "determinant"))
  f_undoing : ∃ fd, FunD K "undoing" "undoing" (defArgs s_undoing) (defBody s_undoing) (defScope s_undoing) [] [] (He.ga K "undoing") fd
  g_undoing : mg "undoing" = some (.ref (He.ga K "undoing"))
  f__law_dice : ∃ fd, FunD K "_law_dice" "_law_dice" (defArgs s__law_dice) (defBody s__law_dice) (defScope s__law_dice) [] [] (He.ga K "_law_dice") fd
  g__law_dice : mg "_law_dice" = some (.ref (He.ga K "_law_dice"))
  f__law_roll : ∃ fd, FunD K "_law_roll" "_law_roll" (defArgs s__law_roll) (defBody s__law_roll) (defScope s__law_roll) [] [] (He.ga K "_law_roll") fd
  g__law_roll : mg "_law_roll" = some (.ref (He.ga K "_law_roll"))
  f__law_unit : ∃ fd, FunD K "_law_unit" "_law_unit" (defArgs s__law_unit) (defBody s__law_unit) (defScope s__law_unit) [] [] (He.ga K "_law_unit") fd
  g__law_unit : mg "_law_unit" = some (.ref (He.ga K "_law_unit"))
  f__law_pick : ∃ fd, FunD K "_law_pick" "_law_pick" (defArgs s__law_pick) (defBody s__law_pick) (defScope s__law_pick) [] [] (He.ga K "_law_pick") fd
  g__law_pick : mg "_law_pick" = some (.ref (He.ga K "_law_pick"))
  f__law_eq_ground : ∃ fd, FunD K "_law_eq_ground" "_law_eq_ground" (defArgs s__law_eq_ground) (defBody s__law_eq_ground) (defScope s__law_eq_ground) [] [] (He.ga K "_law_eq_ground") fd
  g__law_eq_ground : mg "_law_eq_ground" = some (.ref (He.ga K "_law_eq_ground"))
  f__law_bad_table : ∃ fd, FunD K "_law_bad_table" "_law_bad_table" (defArgs s__law_bad_table) (defBody s__law_bad_table) (defScope s__law_bad_table) [] [] (He.ga K "_law_bad_table") fd
  g__law_bad_table : mg "_law_bad_table" = some (.ref (He.ga K "_law_bad_table"))
  f__law_right : ∃ fd, FunD K "_law_right" "_law_right" (defArgs s__law_right) (defBody s__law_right) (defScope s__law_right) [] [] (He.ga K "_law_right") fd
  g__law_right : mg "_law_right" = some (.ref (He.ga K "_law_right"))
  f_law : ∃ fd, FunD K "law" "law" (defArgs s_law) (defBody s_law) (defScope s_law) [] [] (He.ga K "law") fd
  g_law : mg "law" = some (.ref (He.ga K "law"))
  c_LAST_GROUND : ∃ t, mg "LAST_GROUND" = some (.int 9999 t)
  c_MAX_SIDE : ∃ t, mg "MAX_SIDE" = some (.int 12 t)
  c_TWENTY_DIGITS : ∃ t, mg "TWENTY_DIGITS" = some (.int 100000000000000000000 t)
  n_abs : mg "abs" = none
  n_all : mg "all" = none
  n_bool : mg "bool" = none
  n_enumerate : mg "enumerate" = none
  n_int : mg "int" = none
  n_isinstance : mg "isinstance" = none
  n_len : mg "len" = none
  n_list : mg "list" = none
  n_max : mg "max" = none
  n_min : mg "min" = none
  n_range : mg "range" = none
  n_repr : mg "repr" = none
  n_sum : mg "sum" = none
  n_tuple : mg "tuple" = none
  n_zip : mg "zip" = none
  b_gcd : mg "gcd" = some (.builtin "math.gcd")
  x_InvalidGround : PySem.ZExc.ExI K mg "InvalidGround" "value" "InvalidGround.__init__" bm_ValueError "ValueError.__new__" (He.ga K "InvalidGround") (He.ma K (He.ga K "InvalidGround") "__init__")
  x_InvalidNumber : PySem.ZExc.ExI K mg "InvalidNumber" "given" "InvalidNumber.__init__" bm_IndexError "IndexError.__new__" (He.ga K "InvalidNumber") (He.ma K (He.ga K "InvalidNumber") "__init__")
  e_InvalidTable : mg "InvalidTable" = some (.ref (He.ga K "InvalidTable")) ∧ (PySem.W.excIn K (He.ga K "InvalidTable") He.veBase "ValueError.__new__" = true ∧ PySem.W.keepIn K (.ref (He.ga K "InvalidTable")) = true ∧ PySem.W.subIn K (.ref (He.ga K "InvalidTable")) (.type "BaseException") = some true ∧ PySem.W.typeIn K (.ref (He.ga K "InvalidTable")) = some (.type "type"))
  e_InvalidOperation : mg "InvalidOperation" = some (.ref (He.ga K "InvalidOperation")) ∧ (PySem.W.excIn K (He.ga K "InvalidOperation") He.veBase "ValueError.__new__" = true ∧ PySem.W.keepIn K (.ref (He.ga K "InvalidOperation")) = true ∧ PySem.W.subIn K (.ref (He.ga K "InvalidOperation")) (.type "BaseException") = some true ∧ PySem.W.typeIn K (.ref (He.ga K "InvalidOperation")) = some (.type "type"))
  x_Refused : PySem.ZExc.ExI K mg "Refused" "reason" "Refused.__init__" bm_ArithmeticError "ArithmeticError.__new__" (He.ga K "Refused") (He.ma K (He.ga K "Refused") "__init__")
  m_InvalidGround_InvalidGround : PySem.W.exmOne K (.ref (He.ga K "InvalidGround")) (.ref (He.ga K "InvalidGround")) = some true
  m_InvalidGround_InvalidNumber : PySem.W.exmOne K (.ref (He.ga K "InvalidGround")) (.ref (He.ga K "InvalidNumber")) = some false
  m_InvalidGround_InvalidTable : PySem.W.exmOne K (.ref (He.ga K "InvalidGround")) (.ref (He.ga K "InvalidTable")) = some false
  m_InvalidGround_InvalidOperation : PySem.W.exmOne K (.ref (He.ga K "InvalidGround")) (.ref (He.ga K "InvalidOperation")) = some false
  m_InvalidGround_Refused : PySem.W.exmOne K (.ref (He.ga K "InvalidGround")) (.ref (He.ga K "Refused")) = some false
  m_InvalidNumber_InvalidGround : PySem.W.exmOne K (.ref (He.ga K "InvalidNumber")) (.ref (He.ga K "InvalidGround")) = some false
  m_InvalidNumber_InvalidNumber : PySem.W.exmOne K (.ref (He.ga K "InvalidNumber")) (.ref (He.ga K "InvalidNumber")) = some true
  m_InvalidNumber_InvalidTable : PySem.W.exmOne K (.ref (He.ga K "InvalidNumber")) (.ref (He.ga K "InvalidTable")) = some false
  m_InvalidNumber_InvalidOperation : PySem.W.exmOne K (.ref (He.ga K "InvalidNumber")) (.ref (He.ga K "InvalidOperation")) = some false
  m_InvalidNumber_Refused : PySem.W.exmOne K (.ref (He.ga K "InvalidNumber")) (.ref (He.ga K "Refused")) = some false
  m_InvalidTable_InvalidGround : PySem.W.exmOne K (.ref (He.ga K "InvalidTable")) (.ref (He.ga K "InvalidGround")) = some false
  m_InvalidTable_InvalidNumber : PySem.W.exmOne K (.ref (He.ga K "InvalidTable")) (.ref (He.ga K "InvalidNumber")) = some false
  m_InvalidTable_InvalidTable : PySem.W.exmOne K (.ref (He.ga K "InvalidTable")) (.ref (He.ga K "InvalidTable")) = some true
  m_InvalidTable_InvalidOperation : PySem.W.exmOne K (.ref (He.ga K "InvalidTable")) (.ref (He.ga K "InvalidOperation")) = some false
  m_InvalidTable_Refused : PySem.W.exmOne K (.ref (He.ga K "InvalidTable")) (.ref (He.ga K "Refused")) = some false
  m_InvalidOperation_InvalidGround : PySem.W.exmOne K (.ref (He.ga K "InvalidOperation")) (.ref (He.ga K "InvalidGround")) = some false
  m_InvalidOperation_InvalidNumber : PySem.W.exmOne K (.ref (He.ga K "InvalidOperation")) (.ref (He.ga K "InvalidNumber")) = some false
  m_InvalidOperation_InvalidTable : PySem.W.exmOne K (.ref (He.ga K "InvalidOperation")) (.ref (He.ga K "InvalidTable")) = some false
  m_InvalidOperation_InvalidOperation : PySem.W.exmOne K (.ref (He.ga K "InvalidOperation")) (.ref (He.ga K "InvalidOperation")) = some true
  m_InvalidOperation_Refused : PySem.W.exmOne K (.ref (He.ga K "InvalidOperation")) (.ref (He.ga K "Refused")) = some false
  m_Refused_InvalidGround : PySem.W.exmOne K (.ref (He.ga K "Refused")) (.ref (He.ga K "InvalidGround")) = some false
  m_Refused_InvalidNumber : PySem.W.exmOne K (.ref (He.ga K "Refused")) (.ref (He.ga K "InvalidNumber")) = some false
  m_Refused_InvalidTable : PySem.W.exmOne K (.ref (He.ga K "Refused")) (.ref (He.ga K "InvalidTable")) = some false
  m_Refused_InvalidOperation : PySem.W.exmOne K (.ref (He.ga K "Refused")) (.ref (He.ga K "InvalidOperation")) = some false
  m_Refused_Refused : PySem.W.exmOne K (.ref (He.ga K "Refused")) (.ref (He.ga K "Refused")) = some true
  f__law_fault : ∃ fd, FunD K "_law_fault" "_law_fault" (defArgs s__law_fault) (defBody s__law_fault) (defScope s__law_fault) [] [] (He.ga K "_law_fault") fd
  g__law_fault : mg "_law_fault" = some (.ref (He.ga K "_law_fault"))
  dis : (He.cT K ("_law_right", none)).2 ≠ (He.cT K ("law", none)).2
def tfs : List He.Defn := [("_law_right", none), ("law", none)]
def Ts (K : PySem.W.Frag) : List (Addr × Str) := [((He.cT K ("_law_right", none)).2, ("_law_right" : Str) ++ ".<locals>." ++ "<lambda>"), ((He.cT K ("law", none)).2, ("law" : Str) ++ ".<locals>." ++ "<lambda>")]
theorem hu__law_right {K : PySem.W.Frag} (dis : (He.cT K ("_law_right", none)).2 ≠ (He.cT K ("law", none)).2) : ∀ p ∈ Ts K, p.1 = (He.cT K ("_law_right", none)).2 → p.2 = ("_law_right" : Str) ++ ".<locals>." ++ "<lambda>" := by
  intro p hp e
  simp only [Ts, List.mem_cons, List.not_mem_nil, or_false] at hp
  rcases hp with rfl | rfl
  · rfl
  · exact absurd e (by simp only at dis ⊢; first | exact dis | exact Ne.symm dis | (intro z; simp_all))
theorem hu_law {K : PySem.W.Frag} (dis : (He.cT K ("_law_right", none)).2 ≠ (He.cT K ("law", none)).2) : ∀ p ∈ Ts K, p.1 = (He.cT K ("law", none)).2 → p.2 = ("law" : Str) ++ ".<locals>." ++ "<lambda>" := by
  intro p hp e
  simp only [Ts, List.mem_cons, List.not_mem_nil, or_false] at hp
  rcases hp with rfl | rfl
  · exact absurd e (by simp only at dis ⊢; first | exact dis | exact Ne.symm dis | (intro z; simp_all))
  · rfl
theorem sc__law_fault : FnScope ["call", "error"] ["call"] (defScope s__law_fault) := ⟨rfl, rfl, rfl, by decide +kernel, rfl, by decide +kernel, by decide +kernel⟩
/-! ### the head: facts by names, and what the imports bring -/
def bulOk (K : PySem.W.Frag) (bl : List (Str × String)) : Bool := bl.all fun q => decide (PySem.W.nsIn K mainGlobals q.1 = some (some (.builtin q.2)))
theorem bul_ok {K : PySem.W.Frag} {h : Heap} {mg : Str → Option Value} {bl : List (Str × String)} (X : K.In h) (G : h.Ns mainGlobals mg) (c : bulOk K bl = true) (i : Nat) {q : Str × String} (hi : bl[i]? = some q := by rfl) : mg q.1 = some (.builtin q.2) :=
  PySem.W.mg_of X G (of_decide_eq_true (List.all_eq_true.mp c q (List.mem_of_getElem? hi)))
def d_is_int : He.DefD := ⟨("is_int", none), "is_int", "is_int", defArgs s_is_int, defBody s_is_int, defScope s_is_int, [], []⟩
def d_has_no_parts : He.DefD := ⟨("has_no_parts", none), "has_no_parts", "has_no_parts", defArgs s_has_no_parts, defBody s_has_no_parts, defScope s_has_no_parts, [], []⟩
def d_bezout : He.DefD := ⟨("bezout", none), "bezout", "bezout", defArgs s_bezout, defBody s_bezout, defScope s_bezout, [], []⟩
def d_common_multiple : He.DefD := ⟨("common_multiple", none), "common_multiple", "common_multiple", defArgs s_common_multiple, defBody s_common_multiple, defScope s_common_multiple, [], []⟩
def d_top_of : He.DefD := ⟨("top_of", none), "top_of", "top_of", defArgs s_top_of, defBody s_top_of, defScope s_top_of, [], []⟩
def d_bottom_of : He.DefD := ⟨("bottom_of", none), "bottom_of", "bottom_of", defArgs s_bottom_of, defBody s_bottom_of, defScope s_bottom_of, [], []⟩
def d_number_of : He.DefD := ⟨("number_of", none), "number_of", "number_of", defArgs s_number_of, defBody s_number_of, defScope s_number_of, [], []⟩
def d_integer_dot : He.DefD := ⟨("integer_dot", none), "integer_dot", "integer_dot", defArgs s_integer_dot, defBody s_integer_dot, defScope s_integer_dot, [], []⟩
def d_length_fits : He.DefD := ⟨("length_fits", none), "length_fits", "length_fits", defArgs s_length_fits, defBody s_length_fits, defScope s_length_fits, [], []⟩
def d_turned : He.DefD := ⟨("turned", none), "turned", "turned", defArgs s_turned, defBody s_turned, defScope s_turned, [], []⟩
def d_beside : He.DefD := ⟨("beside", none), "beside", "beside", defArgs s_beside, defBody s_beside, defScope s_beside, [], []⟩
def d_find_lead : He.DefD := ⟨("find_lead", none), "find_lead", "find_lead", defArgs s_find_lead, defBody s_find_lead, defScope s_find_lead, [], []⟩
def d_is_below : He.DefD := ⟨("is_below", none), "is_below", "is_below", defArgs s_is_below, defBody s_is_below, defScope s_is_below, [], []⟩
def d_is_between : He.DefD := ⟨("is_between", none), "is_between", "is_between", defArgs s_is_between, defBody s_is_between, defScope s_is_between, [], []⟩
def d_undone_modulo : He.DefD := ⟨("undone_modulo", none), "undone_modulo", "undone_modulo", defArgs s_undone_modulo, defBody s_undone_modulo, defScope s_undone_modulo, [], []⟩
def d_whole_row : He.DefD := ⟨("whole_row", none), "whole_row", "whole_row", defArgs s_whole_row, defBody s_whole_row, defScope s_whole_row, [], []⟩
def d_check_between : He.DefD := ⟨("check_between", none), "check_between", "check_between", defArgs s_check_between, defBody s_check_between, defScope s_check_between, [], []⟩
def d_rows_fit : He.DefD := ⟨("rows_fit", none), "rows_fit", "rows_fit", defArgs s_rows_fit, defBody s_rows_fit, defScope s_rows_fit, [], []⟩
def d_unit_rows : He.DefD := ⟨("unit_rows", none), "unit_rows", "unit_rows", defArgs s_unit_rows, defBody s_unit_rows, defScope s_unit_rows, [], []⟩
def d_prime_fits : He.DefD := ⟨("prime_fits", none), "prime_fits", "prime_fits", defArgs s_prime_fits, defBody s_prime_fits, defScope s_prime_fits, [], []⟩
def d_number_fits : He.DefD := ⟨("number_fits", none), "number_fits", "number_fits", defArgs s_number_fits, defBody s_number_fits, defScope s_number_fits, [], []⟩
def d_quotient : He.DefD := ⟨("quotient", none), "quotient", "quotient", defArgs s_quotient, defBody s_quotient, defScope s_quotient, [], []⟩
def d_lowered : He.DefD := ⟨("lowered", none), "lowered", "lowered", defArgs s_lowered, defBody s_lowered, defScope s_lowered, [], []⟩
def d_ground_fits : He.DefD := ⟨("ground_fits", none), "ground_fits", "ground_fits", defArgs s_ground_fits, defBody s_ground_fits, defScope s_ground_fits, [], []⟩
def d_vector_fits : He.DefD := ⟨("vector_fits", none), "vector_fits", "vector_fits", defArgs s_vector_fits, defBody s_vector_fits, defScope s_vector_fits, [], []⟩
def d_product_rows : He.DefD := ⟨("product_rows", none), "product_rows", "product_rows", defArgs s_product_rows, defBody s_product_rows, defScope s_product_rows, [], []⟩
def d_cleared : He.DefD := ⟨("cleared", none), "cleared", "cleared", defArgs s_cleared, defBody s_cleared, defScope s_cleared, [], []⟩
def d_numbers_over : He.DefD := ⟨("numbers_over", none), "numbers_over", "numbers_over", defArgs s_numbers_over, defBody s_numbers_over, defScope s_numbers_over, [], []⟩
def d_solution : He.DefD := ⟨("solution", none), "solution", "solution", defArgs s_solution, defBody s_solution, defScope s_solution, [], []⟩
def d_check_ground : He.DefD := ⟨("check_ground", none), "check_ground", "check_ground", defArgs s_check_ground, defBody s_check_ground, defScope s_check_ground, [], []⟩
def d_table_fits : He.DefD := ⟨("table_fits", none), "table_fits", "table_fits", defArgs s_table_fits, defBody s_table_fits, defScope s_table_fits, [], []⟩
def d_cleared_table : He.DefD := ⟨("cleared_table", none), "cleared_table", "cleared_table", defArgs s_cleared_table, defBody s_cleared_table, defScope s_cleared_table, [], []⟩
def d_undone_rows : He.DefD := ⟨("undone_rows", none), "undone_rows", "undone_rows", defArgs s_undone_rows, defBody s_undone_rows, defScope s_undone_rows, [], []⟩
def d_kernel_rows : He.DefD := ⟨("kernel_rows", none), "kernel_rows", "kernel_rows", defArgs s_kernel_rows, defBody s_kernel_rows, defScope s_kernel_rows, [], []⟩
def d_is_table : He.DefD := ⟨("is_table", none), "is_table", "is_table", defArgs s_is_table, defBody s_is_table, defScope s_is_table, [], []⟩
def d_unit_table : He.DefD := ⟨("unit_table", none), "unit_table", "unit_table", defArgs s_unit_table, defBody s_unit_table, defScope s_unit_table, [], []⟩
def d_rank_paper : He.DefD := ⟨("rank_paper", none), "rank_paper", "rank_paper", defArgs s_rank_paper, defBody s_rank_paper, defScope s_rank_paper, [], []⟩
def d_check_table : He.DefD := ⟨("check_table", none), "check_table", "check_table", defArgs s_check_table, defBody s_check_table, defScope s_check_table, [], []⟩
def d_table_product : He.DefD := ⟨("table_product", none), "table_product", "table_product", defArgs s_table_product, defBody s_table_product, defScope s_table_product, [], []⟩
def d_reduced_rows : He.DefD := ⟨("reduced_rows", none), "reduced_rows", "reduced_rows", defArgs s_reduced_rows, defBody s_reduced_rows, defScope s_reduced_rows, [], []⟩
def d_leads : He.DefD := ⟨("leads", none), "leads", "leads", defArgs s_leads, defBody s_leads, defScope s_leads, [], []⟩
def d_kernel : He.DefD := ⟨("kernel", none), "kernel", "kernel", defArgs s_kernel, defBody s_kernel, defScope s_kernel, [], []⟩
def d_check_square : He.DefD := ⟨("check_square", none), "check_square", "check_square", defArgs s_check_square, defBody s_check_square, defScope s_check_square, [], []⟩
def d_solve_answer : He.DefD := ⟨("solve_answer", none), "solve_answer", "solve_answer", defArgs s_solve_answer, defBody s_solve_answer, defScope s_solve_answer, [], []⟩
def d_rank_answer : He.DefD := ⟨("rank_answer", none), "rank_answer", "rank_answer", defArgs s_rank_answer, defBody s_rank_answer, defScope s_rank_answer, [], []⟩
def d_rank : He.DefD := ⟨("rank", none), "rank", "rank", defArgs s_rank, defBody s_rank, defScope s_rank, [], []⟩
def d_determinant : He.DefD := ⟨("determinant", none), "determinant", "determinant", defArgs s_determinant, defBody s_determinant, defScope s_determinant, [], []⟩
def d_undoing : He.DefD := ⟨("undoing", none), "undoing", "undoing", defArgs s_undoing, defBody s_undoing, defScope s_undoing, [], []⟩
def d__law_dice : He.DefD := ⟨("_law_dice", none), "_law_dice", "_law_dice", defArgs s__law_dice, defBody s__law_dice, defScope s__law_dice, [], []⟩
def d__law_roll : He.DefD := ⟨("_law_roll", none), "_law_roll", "_law_roll", defArgs s__law_roll, defBody s__law_roll, defScope s__law_roll, [], []⟩
def d__law_unit : He.DefD := ⟨("_law_unit", none), "_law_unit", "_law_unit", defArgs s__law_unit, defBody s__law_unit, defScope s__law_unit, [], []⟩
def d__law_pick : He.DefD := ⟨("_law_pick", none), "_law_pick", "_law_pick", defArgs s__law_pick, defBody s__law_pick, defScope s__law_pick, [], []⟩
def d__law_eq_ground : He.DefD := ⟨("_law_eq_ground", none), "_law_eq_ground", "_law_eq_ground", defArgs s__law_eq_ground, defBody s__law_eq_ground, defScope s__law_eq_ground, [], []⟩
def d__law_bad_table : He.DefD := ⟨("_law_bad_table", none), "_law_bad_table", "_law_bad_table", defArgs s__law_bad_table, defBody s__law_bad_table, defScope s__law_bad_table, [], []⟩
def d__law_right : He.DefD := ⟨("_law_right", none), "_law_right", "_law_right", defArgs s__law_right, defBody s__law_right, defScope s__law_right, [], []⟩
def d_law : He.DefD := ⟨("law", none), "law", "law", defArgs s_law, defBody s_law, defScope s_law, [], []⟩
def bul : List (Str × String) := [("gcd", "math.gcd")]

def d__law_fault : He.DefD := ⟨("_law_fault", none), "_law_fault", "_law_fault", defArgs s__law_fault, defBody s__law_fault, defScope s__law_fault, [], []⟩
abbrev s_InvalidGround_init : Stmt := (clsBody (top 3)).getD 0 (.Pass ⟨0, 0, 0, 0⟩)
def d_InvalidGround_init : He.DefD := ⟨("InvalidGround", some "__init__"), "__init__", "InvalidGround.__init__", defArgs s_InvalidGround_init, defBody s_InvalidGround_init, defScope s_InvalidGround_init, [], []⟩
abbrev s_InvalidNumber_init : Stmt := (clsBody (top 6)).getD 0 (.Pass ⟨0, 0, 0, 0⟩)
def d_InvalidNumber_init : He.DefD := ⟨("InvalidNumber", some "__init__"), "__init__", "InvalidNumber.__init__", defArgs s_InvalidNumber_init, defBody s_InvalidNumber_init, defScope s_InvalidNumber_init, [], []⟩
abbrev s_Refused_init : Stmt := (clsBody (top 7)).getD 0 (.Pass ⟨0, 0, 0, 0⟩)
def d_Refused_init : He.DefD := ⟨("Refused", some "__init__"), "__init__", "Refused.__init__", defArgs s_Refused_init, defBody s_Refused_init, defScope s_Refused_init, [], []⟩
def fnl : List He.DefD := [d_is_int, d_has_no_parts, d_bezout, d_common_multiple, d_top_of, d_bottom_of, d_number_of, d_integer_dot, d_length_fits, d_turned, d_beside, d_find_lead, d_is_below, d_is_between, d_undone_modulo, d_whole_row, d_check_between, d_rows_fit, d_unit_rows, d_prime_fits, d_number_fits, d_quotient, d_lowered, d_ground_fits, d_vector_fits, d_product_rows, d_cleared, d_numbers_over, d_solution, d_check_ground, d_table_fits, d_cleared_table, d_undone_rows, d_kernel_rows, d_is_table, d_unit_table, d_rank_paper, d_check_table, d_table_product, d_reduced_rows, d_leads, d_kernel, d_check_square, d_solve_answer, d_rank_answer, d_rank, d_determinant, d_undoing, d__law_dice, d__law_roll, d__law_unit, d__law_pick, d__law_eq_ground, d__law_bad_table, d__law_right, d_law, d__law_fault, d_InvalidGround_init, d_InvalidNumber_init, d_Refused_init]
def fal : List He.Fa := [.glo "is_int", .glo "has_no_parts", .glo "bezout", .glo "common_multiple", .glo "top_of", .glo "bottom_of", .glo "number_of", .glo "integer_dot", .glo "length_fits", .glo "turned", .glo "beside", .glo "find_lead", .glo "is_below", .glo "is_between", .glo "undone_modulo", .glo "whole_row", .glo "check_between", .glo "rows_fit", .glo "unit_rows", .glo "prime_fits", .glo "number_fits", .glo "quotient", .glo "lowered", .glo "ground_fits", .glo "vector_fits", .glo "product_rows", .glo "cleared", .glo "numbers_over", .glo "solution", .glo "check_ground", .glo "table_fits", .glo "cleared_table", .glo "undone_rows", .glo "kernel_rows", .glo "is_table", .glo "unit_table", .glo "rank_paper", .glo "check_table", .glo "table_product", .glo "reduced_rows", .glo "leads", .glo "kernel", .glo "check_square", .glo "solve_answer", .glo "rank_answer", .glo "rank", .glo "determinant", .glo "undoing", .glo "_law_dice", .glo "_law_roll", .glo "_law_unit", .glo "_law_pick", .glo "_law_eq_ground", .glo "_law_bad_table", .glo "_law_right", .glo "law", .glo "_law_fault", .glo "InvalidGround", .glo "InvalidNumber", .glo "InvalidTable", .glo "InvalidOperation", .glo "Refused", .int "LAST_GROUND" 9999, .int "MAX_SIDE" 12, .int "TWENTY_DIGITS" 100000000000000000000, .free "abs", .free "all", .free "bool", .free "enumerate", .free "int", .free "isinstance", .free "len", .free "list", .free "max", .free "min", .free "range", .free "repr", .free "sum", .free "tuple", .free "zip", .exc "InvalidTable", .exc "InvalidOperation", .exm "InvalidGround" "InvalidGround" true, .exm "InvalidGround" "InvalidNumber" false, .exm "InvalidGround" "InvalidTable" false, .exm "InvalidGround" "InvalidOperation" false, .exm "InvalidGround" "Refused" false, .exm "InvalidNumber" "InvalidGround" false, .exm "InvalidNumber" "InvalidNumber" true, .exm "InvalidNumber" "InvalidTable" false, .exm "InvalidNumber" "InvalidOperation" false, .exm "InvalidNumber" "Refused" false, .exm "InvalidTable" "InvalidGround" false, .exm "InvalidTable" "InvalidNumber" false, .exm "InvalidTable" "InvalidTable" true, .exm "InvalidTable" "InvalidOperation" false, .exm "InvalidTable" "Refused" false, .exm "InvalidOperation" "InvalidGround" false, .exm "InvalidOperation" "InvalidNumber" false, .exm "InvalidOperation" "InvalidTable" false, .exm "InvalidOperation" "InvalidOperation" true, .exm "InvalidOperation" "Refused" false, .exm "Refused" "InvalidGround" false, .exm "Refused" "InvalidNumber" false, .exm "Refused" "InvalidTable" false, .exm "Refused" "InvalidOperation" false, .exm "Refused" "Refused" true]
def exX (K : PySem.W.Frag) : Bool := bulOk K bul && exiB K "InvalidGround" "value" bm_ValueError "ValueError.__new__" && exiB K "InvalidNumber" "given" bm_IndexError "IndexError.__new__" && exiB K "Refused" "reason" bm_ArithmeticError "ArithmeticError.__new__" && decide ((He.cT K ("_law_right", none)).2 ≠ (He.cT K ("law", none)).2)
def loose0 : List PySem.Str := ["PaperError", "InvalidGround", "InvalidTable", "InvalidOperation", "InvalidNumber", "Refused", "LAST_GROUND", "is_int", "is_below", "is_between", "has_no_parts", "prime_fits", "ground_fits", "number_fits", "vector_fits", "bezout", "undone_modulo", "common_multiple", "quotient", "top_of", "bottom_of", "number_of", "whole_row", "integer_dot", "check_ground", "check_between", "length_fits", "rows_fit", "table_fits", "turned"]
def loose1 : List PySem.Str := ["unit_rows", "product_rows", "beside", "lowered", "find_lead", "cleared", "cleared_table", "numbers_over", "undone_rows", "kernel_rows", "rank_paper", "MAX_SIDE", "TWENTY_DIGITS", "is_table", "check_table", "unit_table", "table_product", "reduced_rows", "leads", "rank", "kernel", "check_square", "determinant", "undoing", "solution", "solve_answer", "rank_answer", "_law_dice", "_law_roll", "_law_pick"]
def loose2 : List PySem.Str := ["_law_unit", "_law_eq_ground", "_law_fault", "_law_bad_table", "_law_right"]
def looseL : List PySem.Str := loose0 ++ loose1 ++ loose2
abbrev RR : PySem.W.OpenRow := PySem.W.OpenLaw.row PySem.Challenge.rw_zeroorone_k12_errors_of_tables
abbrev hk : PySem.W.Hook := He.hookX 5 fal fnl [] tfs exX
def obz (s : PySem.W.SharedT) : He.AlX := He.obsX 5 fal fnl [] tfs exX (HandSHeadRun.getT s)
theorem obz_eq (s : PySem.W.SharedT) : obz s = hk.obs s.abs := He.obsX_eq (HandSHeadRun.getT_eq s)
theorem run (w : World) : HandSHeadRun.RunEqI RR (PySem.W.view RR.prog [0, 73]) hk obz 4000 looseL w := by
  unfold HandSHeadRun.RunEqI
  kernel_rfl
/-- all that was tracked but at d is as it was -/
def Keep (d : Addr) (H H' : Hp) : Prop := ∀ b o, b ≠ d → H b = some o → H' b = some o
theorem mulS {i j : Int} (h : -(2 ^ 64) < i ∧ i < 2 ^ 64) : CMul i j ∨ CMulW i j := .inl (.inl h)
theorem mulR {i j : Int} (h : -(2 ^ 64) < j ∧ j < 2 ^ 64) : CMul i j ∨ CMulW i j := .inl (.inr h)
theorem divS {i j : Int} (h : 0 < j) (h2 : j < 2 ^ 64) : CDivW i j := wide_div (b := 64) h (by omega) (by decide) (by decide)
theorem divZ {i j : Int} (h : j ≠ 0) (h2 : j.natAbs < 2 ^ 250) : CDivZ i j := ⟨h, Nat.lt_of_lt_of_le (PySem.Flt.log2_lt_of (by decide) h2) (by decide)⟩
theorem emod_small {a m : Int} (h0 : 0 ≤ a) (h1 : a < m) : a % m = a := Int.emod_eq_of_lt h0 h1
theorem same_new {H H' : Hp} {p : Addr} {o : HO} (s : Same H H') (hn : H' p = none) : Same H (upd H' p o) := fun b u h => by
  rw [upd_ne (ne_of_none (s b u h) hn)]; exact s b u h
theorem same_mut {H H' : Hp} {p : Addr} {o : HO} (s : Same H H') (hn : H p = none) : Same H (upd H' p o) := fun b u h => by
  rw [upd_ne (ne_of_none h hn)]; exact s b u h
theorem same_upd {H : Hp} {p : Addr} {o : HO} (hn : H p = none) : Same H (upd H p o) := same_new (Same.refl H) hn
theorem sqT_of {K : PySem.W.Frag} {H : Hp} {a : Addr} {xs : List V} (h : H a = some (.tup xs)) : SqT K H a xs := .inl (.inl h)
theorem sqL_of {K : PySem.W.Frag} {H : Hp} {a : Addr} {xs : List V} (h : H a = some (.lst xs)) : SqL K H a xs := .inl (.inl h)
/-- d is the least divisor of n from 2 on -/
def Least (d n : Int) : Prop := 2 ≤ d ∧ d ∣ n ∧ ∀ k, 2 ≤ k → k < d → ¬ k ∣ n
def PrimeI (n : Int) : Prop := 2 ≤ n ∧ ∀ k, 2 ≤ k → k < n → ¬ k ∣ n
/-! values of any kind -/
def isI : V → Bool
  | .int _ => true
  | _ => false
def isB : V → Bool
  | .bl _ => true
  | _ => false
def Kn (H : Hp) : V → Prop
  | .non => True
  | .bl _ => True
  | .int _ => True
  | .str _ => True
  | .ref a => (∃ xs, H a = some (.lst xs)) ∨ (∃ xs, H a = some (.tup xs)) ∨ ∃ kvs, H a = some (.dK kvs)
  | _ => False
theorem Kn.same {H H' : Hp} {v : V} (k : Kn H v) (s : Same H H') : Kn H' v := by
  cases v with
  | ref a =>
    rcases k with ⟨xs, h⟩ | ⟨xs, h⟩ | ⟨xs, h⟩
    · exact .inl ⟨xs, s _ _ h⟩
    · exact .inr (.inl ⟨xs, s _ _ h⟩)
    · exact .inr (.inr ⟨xs, s _ _ h⟩)
  | _ => exact k
theorem isi_kn_int {K : PySem.W.Frag} {v : V} {H : Hp} {Q : VK} (k : Kn H v) (q : Q (.bl (isI v || isB v)) H) : rIsi K [v, .ty "int"] H Q := by
  cases v with
  | non => exact ⟨_, _, _, _, _, rfl, .ty "int", .base .non, kit_ty (show kitB "NoneType" "int" = some false by decide +kernel), q⟩
  | bl b => exact ⟨_, _, _, _, _, rfl, .ty "int", .base (.bl b), kit_ty (show kitB "bool" "int" = some true by decide +kernel), q⟩
  | int i => exact ⟨_, _, _, _, _, rfl, .ty "int", .base (.int i), kit_ty (show kitB "int" "int" = some true by decide +kernel), q⟩
  | str x => exact ⟨_, _, _, _, _, rfl, .ty "int", .base (.str x), kit_ty (show kitB "str" "int" = some false by decide +kernel), q⟩
  | ref a =>
    rcases k with ⟨xs, h⟩ | ⟨xs, h⟩ | ⟨xs, h⟩
    · exact ⟨_, _, _, _, _, rfl, .ty "int", .base (.lst h), kit_ty (show kitB "list" "int" = some false by decide +kernel), q⟩
    · exact ⟨_, _, _, _, _, rfl, .ty "int", .base (.tup h), kit_ty (show kitB "tuple" "int" = some false by decide +kernel), q⟩
    · exact ⟨_, _, _, _, _, rfl, .ty "int", .base (.dK h), kit_ty (show kitB "dict" "int" = some false by decide +kernel), q⟩
  | byt _ => exact k.elim
  | flt _ => exact k.elim
  | ty _ => exact k.elim
theorem isi_kn_bool {K : PySem.W.Frag} {v : V} {H : Hp} {Q : VK} (k : Kn H v) (q : Q (.bl (isB v)) H) : rIsi K [v, .ty "bool"] H Q := by
  cases v with
  | non => exact ⟨_, _, _, _, _, rfl, .ty "bool", .base .non, kit_ty (show kitB "NoneType" "bool" = some false by decide +kernel), q⟩
  | bl b => exact ⟨_, _, _, _, _, rfl, .ty "bool", .base (.bl b), kit_ty (show kitB "bool" "bool" = some true by decide +kernel), q⟩
  | int i => exact ⟨_, _, _, _, _, rfl, .ty "bool", .base (.int i), kit_ty (show kitB "int" "bool" = some false by decide +kernel), q⟩
  | str x => exact ⟨_, _, _, _, _, rfl, .ty "bool", .base (.str x), kit_ty (show kitB "str" "bool" = some false by decide +kernel), q⟩
  | ref a =>
    rcases k with ⟨xs, h⟩ | ⟨xs, h⟩ | ⟨xs, h⟩
    · exact ⟨_, _, _, _, _, rfl, .ty "bool", .base (.lst h), kit_ty (show kitB "list" "bool" = some false by decide +kernel), q⟩
    · exact ⟨_, _, _, _, _, rfl, .ty "bool", .base (.tup h), kit_ty (show kitB "tuple" "bool" = some false by decide +kernel), q⟩
    · exact ⟨_, _, _, _, _, rfl, .ty "bool", .base (.dK h), kit_ty (show kitB "dict" "bool" = some false by decide +kernel), q⟩
  | byt _ => exact k.elim
  | flt _ => exact k.elim
  | ty _ => exact k.elim
/-- the value is a tuple of these -/
def TupV (H : Hp) (v : V) (xs : List V) : Prop := ∃ a, v = .ref a ∧ H a = some (.tup xs)
theorem TupV.same {H H' : Hp} {v : V} {xs : List V} (k : TupV H v xs) (s : Same H H') : TupV H' v xs := by
  obtain ⟨a, e, h⟩ := k
  exact ⟨a, e, s _ _ h⟩
theorem isi_kn_tuple {K : PySem.W.Frag} {v : V} {H : Hp} {Q : VK} (k : Kn H v) (q1 : ∀ xs, TupV H v xs → Q (.bl true) H) (q2 : (∀ xs, ¬ TupV H v xs) → Q (.bl false) H) : rIsi K [v, .ty "tuple"] H Q := by
  cases v with
  | non => exact ⟨_, _, _, _, _, rfl, .ty "tuple", .base .non, kit_ty (show kitB "NoneType" "tuple" = some false by decide +kernel), q2 fun _ ⟨_, e, _⟩ => by cases e⟩
  | bl b => exact ⟨_, _, _, _, _, rfl, .ty "tuple", .base (.bl b), kit_ty (show kitB "bool" "tuple" = some false by decide +kernel), q2 fun _ ⟨_, e, _⟩ => by cases e⟩
  | int i => exact ⟨_, _, _, _, _, rfl, .ty "tuple", .base (.int i), kit_ty (show kitB "int" "tuple" = some false by decide +kernel), q2 fun _ ⟨_, e, _⟩ => by cases e⟩
  | str x => exact ⟨_, _, _, _, _, rfl, .ty "tuple", .base (.str x), kit_ty (show kitB "str" "tuple" = some false by decide +kernel), q2 fun _ ⟨_, e, _⟩ => by cases e⟩
  | ref a =>
    rcases k with ⟨xs, h⟩ | ⟨xs, h⟩ | ⟨xs, h⟩
    · exact ⟨_, _, _, _, _, rfl, .ty "tuple", .base (.lst h), kit_ty (show kitB "list" "tuple" = some false by decide +kernel), q2 fun _ ⟨_, e, h2⟩ => by cases e; rw [h] at h2; cases h2⟩
    · exact ⟨_, _, _, _, _, rfl, .ty "tuple", .base (.tup h), kit_ty (show kitB "tuple" "tuple" = some true by decide +kernel), q1 xs ⟨a, rfl, h⟩⟩
    · exact ⟨_, _, _, _, _, rfl, .ty "tuple", .base (.dK h), kit_ty (show kitB "dict" "tuple" = some false by decide +kernel), q2 fun _ ⟨_, e, h2⟩ => by cases e; rw [h] at h2; cases h2⟩
  | byt _ => exact k.elim
  | flt _ => exact k.elim
  | ty _ => exact k.elim
/-- .. and where it is a tuple, its members are of known kinds too -/
def Kn2 (H : Hp) (v : V) : Prop := Kn H v ∧ ∀ xs, TupV H v xs → ∀ x ∈ xs, Kn H x
/-- grounds, numbers -/
def GroundV (v : V) : Prop := ∃ n, v = .int n ∧ 0 ≤ n ∧ n ≤ 9999 ∧ (n = 0 ∨ PrimeI n)
def belowB (v : V) (l : Int) : Bool := match v with
  | .int i => decide (-l < i ∧ i < l)
  | _ => false
def NumV (H : Hp) (g : Int) (v : V) (l : Int) : Prop :=
  (g ≠ 0 ∧ ∃ n, v = .int n ∧ 0 ≤ n ∧ n < g) ∨ (g = 0 ∧ ∃ t b : Int, TupV H v [.int t, .int b] ∧ (-l < t ∧ t < l) ∧ (-l < b ∧ b < l) ∧ 1 ≤ b ∧ Nat.gcd t.natAbs b.natAbs = 1)
theorem belowB_int {v : V} {l : Int} (h : belowB v l = true) : ∃ i, v = .int i ∧ -l < i ∧ i < l := by
  cases v <;> simp only [belowB, Bool.false_eq_true, decide_eq_true_eq] at h
  exact ⟨_, rfl, h⟩
theorem least_two {n : Int} (h : n % 2 = 0) : Least 2 n := ⟨by omega, by omega, fun k h1 h2 => by omega⟩
theorem least_self {n d : Int} (hn : 2 ≤ n) (h : ∀ k, 2 ≤ k → k < d → ¬ k ∣ n) (hd : n < d * d) (h0 : 2 ≤ d) : Least n n := by
  refine ⟨hn, Int.dvd_refl n, fun k h1 h2 h3 => ?_⟩
  obtain ⟨q, rfl⟩ := h3
  have hq : 2 ≤ q := by
    by_cases hq0 : q ≤ 0
    · have := Int.mul_le_mul_of_nonneg_left hq0 (show 0 ≤ k by omega)
      omega
    · by_cases hq1 : q = 1
      · subst hq1; omega
      · omega
  by_cases hk : k < d
  · exact h k h1 hk (Int.dvd_mul_right k q)
  · by_cases hqd : q < d
    · exact h q hq hqd (Int.dvd_mul_left k q)
    · have := Int.mul_le_mul (show d ≤ k by omega) (show d ≤ q by omega) (by omega) (by omega)
      omega
theorem in_twothree {n : Int} : inV (.int n) [.int 2, .int 3] = decide (n = 2 ∨ n = 3) := by
  rw [Bool.eq_iff_iff, decide_eq_true_eq]
  simp [inV, eqV]
  omega
theorem prime_two : PrimeI 2 := ⟨by decide, fun k h1 h2 => by omega⟩
theorem prime_three : PrimeI 3 := ⟨by decide, fun k h1 h2 => by
  obtain rfl : k = 2 := by omega
  decide⟩
def Sz (n : Nat) (x : Int) : Prop := x.natAbs < 2 ^ n
theorem mulW {i j : Int} {a b : Nat} (h1 : i.natAbs < 2 ^ a) (h2 : j.natAbs < 2 ^ b) (h3 : 0 < a) (h4 : 0 < b) (h5 : a + b ≤ 1000000) : CMul i j ∨ CMulW i j := .inr (wide_mul h1 h2 h3 h4 h5)
theorem sz_mul {a b : Nat} {x y : Int} (h : Sz a x) (h2 : Sz b y) : Sz (a + b) (x * y) := by
  show (x * y).natAbs < 2 ^ (a + b)
  rw [Int.natAbs_mul, Nat.pow_add]
  exact Nat.mul_lt_mul'' h h2
theorem szm {x y : Int} (h : Sz 3000 x) (h2 : Sz 3000 y) : CMul x y ∨ CMulW x y := mulW h h2 (by decide) (by decide) (by decide)
theorem sz_add {n : Nat} {x y : Int} (h : Sz n x) (h2 : Sz n y) : Sz (n + 1) (x + y) := by
  have h3 : (2 : Nat) ^ (n + 1) = 2 ^ n + 2 ^ n := by rw [Nat.pow_succ]; omega
  show (x + y).natAbs < 2 ^ (n + 1)
  have h1 : x.natAbs < 2 ^ n := h
  have h2 : y.natAbs < 2 ^ n := h2
  rw [h3]
  omega
theorem sz_mono {n m : Nat} {x : Int} (h : Sz n x) (hm : n ≤ m) : Sz m x := Nat.lt_of_lt_of_le h (Nat.pow_le_pow_right (by decide) hm)
theorem emod_emod' (a m : Int) : a % m % m = a % m := Int.emod_emod_of_dvd a (Int.dvd_refl m)
def All2 {α β : Type} (R : α → β → Prop) (xs : List α) (qs : List β) : Prop := xs.length = qs.length ∧ ∀ (i : Nat) (v : α) (q : β), xs[i]? = some v → qs[i]? = some q → R v q
theorem All2.get {α β : Type} {R : α → β → Prop} {xs : List α} {qs : List β} (h : All2 R xs qs) {i : Nat} {v : α} (hv : xs[i]? = some v) : ∃ q, qs[i]? = some q ∧ R v q := by
  have hi := (List.getElem?_eq_some_iff.mp hv).1
  have hj : i < qs.length := h.1 ▸ hi
  exact ⟨qs[i], List.getElem?_eq_getElem hj, h.2 i v _ hv (List.getElem?_eq_getElem hj)⟩
theorem All2.imp {α β : Type} {R S : α → β → Prop} {xs : List α} {qs : List β} (h : All2 R xs qs) (f : ∀ v q, R v q → S v q) : All2 S xs qs :=
  ⟨h.1, fun i v q a b => f v q (h.2 i v q a b)⟩
theorem outL_get {α : Type} (l : List α) (f : α → V) {n : Nat} (hn : n = l.length) : outL (fun i => (l[i]?).map f) n = l.map f := by
  subst hn
  unfold outL
  apply List.ext_getElem?
  intro i
  have h : ∀ k, k ≤ l.length → (List.range k).filterMap (fun i => (l[i]?).map f) = (l.take k).map f := by
    intro k
    induction k with
    | zero => intro _; simp
    | succ k ih =>
      intro hk
      rw [List.range_succ, List.filterMap_append, ih (by omega), List.take_succ, List.map_append]
      simp [List.getElem?_eq_getElem (show k < l.length by omega)]
  rw [h _ (Nat.le_refl _), List.take_length]
/-- a comprehension over zip of two lists of one length -/
theorem comp_ZL {K : PySem.W.Frag} {a b : Addr} {xs ys : List V} {g : TG} {tt : TT} {te : TE} {vs : List Nat} {σ : St} {H1 : Hp} {Q : VK} (hl : xs.length = ys.length) (hA : SqL K H1 a xs) (hB : SqL K H1 b ys) (outs : Nat → Option V) (hn : xs.length < 2 ^ 22)
    (turn : ∀ i x y T H', xs[i]? = some x → ys[i]? = some y → Same H1 H' → H' T = none → ∀ Qo : Option V → Hp → Prop, (∀ H2, Same H' H2 → Qo (outs i) H2) → g (.ref T) (wipe σ vs) (upd H' T (.tup [x, y])) fun σ2 H2 => wipe σ2 vs = wipe σ vs ∧ tt σ2 H2 fun b H3 => if b = true then te σ2 H3 fun y H4 => Qo (some y) H4 else Qo none H3)
    (fin : ∀ D H', Same H1 H' → H' D = some (.lst (outL outs xs.length)) → Q (.ref D) H') : LcW (Itz K a b) H1 g tt te vs σ Q := fun D hD => by
  refine ⟨fun i m H => m = xs.length - i ∧ i ≤ xs.length ∧ Same H1 H ∧ H D = some (.lst (outL outs i)), ⟨xs.length, by simp, Nat.zero_le _, fun b u h => by rw [upd_ne (ne_of_none h hD)]; exact h, upd_same⟩, ?_⟩
  rintro i m H ⟨rfl, hi, s1, hL⟩
  by_cases hlt : i < xs.length
  · have jlt : i < ys.length := by omega
    refine .inr ⟨⟨xs, ys, _, _, s1.seq hA, s1.seq hB, List.getElem?_eq_getElem hlt, List.getElem?_eq_getElem jlt⟩, fun H => Same H1 H ∧ H D = some (.lst (outL outs (i + 1))), fun H' p' => ⟨xs.length - (i + 1), by omega, rfl, hlt, p'⟩, fun v H' y => ?_⟩
    obtain ⟨T, u, v, rfl, hT, rfl, f1, f2⟩ := y
    exact turn i u v T H (f1 xs (s1.seq hA)) (f2 ys (s1.seq hB)) s1 hT (OutOf D fun H' => Same H1 H' ∧ H' D = some (.lst (outL outs (i + 1)))) fun H2 s => out_ok hD outs hlt hn ⟨s1, hL⟩ s
  · obtain rfl : i = xs.length := by omega
    exact .inl ⟨⟨xs, ys, s1.seq hA, s1.seq hB, Or.inl (Nat.le_refl _)⟩, fin D H s1 hL⟩
theorem atN {α : Type} {xs : List α} {i : Nat} {x : α} (h : xs[i]? = some x) : atI xs (i : Int) = some x := L2.atI_nat h
/-- as comp_L, the new list being new -/
theorem comp_LF {K : PySem.W.Frag} {a : Addr} {xs : List V} {g : TG} {tt : TT} {te : TE} {vs : List Nat} {σ : St} {H1 : Hp} {Q : VK} (hT : SqL K H1 a xs) (outs : Nat → Option V) (hn : xs.length < 2 ^ 22)
    (turn : ∀ i x H', xs[i]? = some x → Same H1 H' → ∀ Qo : Option V → Hp → Prop, (∀ H2, Same H' H2 → Qo (outs i) H2) → g x (wipe σ vs) H' fun σ2 H2 => wipe σ2 vs = wipe σ vs ∧ tt σ2 H2 fun b H3 => if b = true then te σ2 H3 fun y H4 => Qo (some y) H4 else Qo none H3)
    (fin : ∀ D H', H1 D = none → Same H1 H' → H' D = some (.lst (outL outs xs.length)) → Q (.ref D) H') : LcW (Itl K a) H1 g tt te vs σ Q := fun D hD =>
  lc_list (K := K) (a := a) (xs := xs) (fun i H' => Same H1 H' ∧ H' D = some (.lst (outL outs i))) ⟨fun b u h => by rw [upd_ne (ne_of_none h hD)]; exact h, upd_same⟩ (fun i H' _ p => p.1.seq hT)
    (fun i x H' hx p => turn i x H' hx p.1 (OutOf D fun H' => Same H1 H' ∧ H' D = some (.lst (outL outs (i + 1)))) fun H2 s => out_ok hD outs (by
      have := List.getElem?_eq_some_iff.mp hx
      exact this.1) hn p s) (fun H' p => fin D H' hD p.1 p.2)
theorem comp_TF {K : PySem.W.Frag} {a : Addr} {xs : List V} {g : TG} {tt : TT} {te : TE} {vs : List Nat} {σ : St} {H1 : Hp} {Q : VK} (hT : H1 a = some (.tup xs)) (outs : Nat → Option V) (hn : xs.length < 2 ^ 22)
    (turn : ∀ i x H', xs[i]? = some x → Same H1 H' → ∀ Qo : Option V → Hp → Prop, (∀ H2, Same H' H2 → Qo (outs i) H2) → g x (wipe σ vs) H' fun σ2 H2 => wipe σ2 vs = wipe σ vs ∧ tt σ2 H2 fun b H3 => if b = true then te σ2 H3 fun y H4 => Qo (some y) H4 else Qo none H3)
    (fin : ∀ D H', H1 D = none → Same H1 H' → H' D = some (.lst (outL outs xs.length)) → Q (.ref D) H') : LcW (Itt K a) H1 g tt te vs σ Q := fun D hD =>
  lc_tup (K := K) (a := a) (xs := xs) (fun i H' => Same H1 H' ∧ H' D = some (.lst (outL outs i))) ⟨fun b u h => by rw [upd_ne (ne_of_none h hD)]; exact h, upd_same⟩ (fun i H' _ p => sqT_of (p.1 _ _ hT))
    (fun i x H' hx p => turn i x H' hx p.1 (OutOf D fun H' => Same H1 H' ∧ H' D = some (.lst (outL outs (i + 1)))) fun H2 s => out_ok hD outs (by
      have := List.getElem?_eq_some_iff.mp hx
      exact this.1) hn p s) (fun H' p => fin D H' hD p.1 p.2)
/-- a comprehension over enumerate of a list, with an invariant of one's own -/
theorem comp_EL {K : PySem.W.Frag} {a : Addr} {xs : List V} {g : TG} {tt : TT} {te : TE} {vs : List Nat} {σ : St} {H1 : Hp} {Q : VK} (Pv : Addr → Nat → Hp → Prop) (h0 : ∀ D, H1 D = none → Pv D 0 (upd H1 D (.lst []))) (hl : ∀ D i H, Pv D i H → SqL K H a xs)
    (turn : ∀ D i x T H', H1 D = none → xs[i]? = some x → Pv D i H' → H' T = none → g (.ref T) (wipe σ vs) (upd H' T (.tup [.int (i : Nat), x])) fun σ2 H2 => wipe σ2 vs = wipe σ vs ∧ tt σ2 H2 fun b H3 => if b = true then te σ2 H3 fun y H4 => OutOf D (Pv D (i + 1)) (some y) H4 else Pv D (i + 1) H3)
    (fin : ∀ D H', H1 D = none → Pv D xs.length H' → Q (.ref D) H') : LcW (Ite K a) H1 g tt te vs σ Q := fun D hD => by
  refine ⟨fun i m H => m = xs.length - i ∧ i ≤ xs.length ∧ Pv D i H, ⟨xs.length, by simp, Nat.zero_le _, h0 D hD⟩, ?_⟩
  rintro i m H ⟨rfl, hi, p⟩
  by_cases hlt : i < xs.length
  · refine .inr ⟨⟨xs, _, hl D i H p, List.getElem?_eq_getElem hlt⟩, Pv D (i + 1), fun H' p' => ⟨xs.length - (i + 1), by omega, rfl, hlt, p'⟩, fun v H' y => ?_⟩
    obtain ⟨T, x, rfl, hT, rfl, f⟩ := y
    exact turn D i x T H hD (f xs (hl D i H p)) p hT
  · obtain rfl : i = xs.length := by omega
    exact .inl ⟨⟨xs, hl D _ H p, Nat.le_refl _⟩, fin D H hD p⟩
theorem none_back {H H' : Hp} {p : Addr} (s : Same H H') (h : H' p = none) : H p = none := by
  cases e : H p with
  | none => rfl
  | some o => rw [s p o e] at h; cases h
/-- a list of ints -/
def ListI (H : Hp) (v : V) (ns : List Int) : Prop := ∃ a, v = .ref a ∧ H a = some (.lst (ns.map V.int))
theorem ListI.same {H H' : Hp} {v : V} {ns : List Int} (h : ListI H v ns) (s : Same H H') : ListI H' v ns := by
  obtain ⟨a, e, h⟩ := h
  exact ⟨a, e, s _ _ h⟩
abbrev gI := Lin.gI
abbrev mixF := Lin.mixF
theorem ixLI {K : PySem.W.Frag} {H : Hp} {a : Addr} {ns : List Int} {c : Nat} {Q : VK} (h : H a = some (.lst (ns.map V.int))) (hc : c < ns.length) (q : Q (.int (ns.getD c 0)) H) : rIxA K (.ref a) (.int (c : Int)) H Q := by
  refine ixL (sqL_of h) (v := .int (ns.getD c 0)) (atN ?_) q
  rw [List.getElem?_map, List.getElem?_eq_getElem hc, List.getD_eq_getElem?_getD, List.getElem?_eq_getElem hc]
  rfl
/-! plain data read as tables -/
def numB (g lim : Int) : PyData → Bool
  | .int n => decide (g ≠ 0 ∧ 0 ≤ n ∧ n < g)
  | .tuple [.int a, .int b] => decide (g = 0 ∧ (-lim < a ∧ a < lim) ∧ (-lim < b ∧ b < lim) ∧ 1 ≤ b ∧ Nat.gcd a.natAbs b.natAbs = 1)
  | _ => false
def dlen : PyData → Nat
  | .tuple ds => ds.length
  | _ => 0
def isTup : PyData → Bool
  | .tuple _ => true
  | _ => false
def vecB (g : Int) (m : Nat) (lim : Int) : PyData → Bool
  | .tuple ds => decide (ds.length = m) && ds.all (numB g lim)
  | _ => false
def lenB (m : Int) : PyData → Bool
  | .tuple ds => decide (1 ≤ ds.length ∧ (ds.length : Int) ≤ m)
  | _ => false
def rowsB (mr mc : Int) : PyData → Bool
  | .tuple ds => lenB mr (.tuple ds) && ds.all (lenB mc) && ds.all fun d => decide (dlen d = dlen (ds.getD 0 .none))
  | _ => false
def tabB (g mr mc lim : Int) : PyData → Bool
  | .tuple ds => rowsB mr mc (.tuple ds) && ds.all fun d => vecB g (dlen d) lim d
  | _ => false
theorem lenB_t {m : Int} {ds : List PyData} : lenB m (.tuple ds) = decide (1 ≤ ds.length ∧ (ds.length : Int) ≤ m) := rfl
theorem vecB_t {g l : Int} {m : Nat} {ds : List PyData} : vecB g m l (.tuple ds) = (decide (ds.length = m) && ds.all (numB g l)) := rfl
theorem rowsB_t {mr mc : Int} {ds : List PyData} : rowsB mr mc (.tuple ds) = (lenB mr (.tuple ds) && ds.all (lenB mc) && ds.all fun d => decide (dlen d = dlen (ds.getD 0 .none))) := rfl
theorem tabB_t {g mr mc l : Int} {ds : List PyData} : tabB g mr mc l (.tuple ds) = (rowsB mr mc (.tuple ds) && ds.all fun d => vecB g (dlen d) l d) := rfl
theorem Pl.same {H H' : Hp} {no : List Addr} {d : PyData} {v : V} (p : Pl H no d v) (s : Same H H') : Pl H' no d v := Pl.mono (KN.same s) _ _ p
theorem plAll_all2 {H : Hp} {no : List Addr} : ∀ {ds : List PyData} {xs : List V}, PlAll H no ds xs → All2 (fun x d => Pl H no d x) xs ds
  | [], xs, h => by
    rw [PlAll] at h
    subst h
    exact ⟨rfl, fun i v q a b => by simp at a⟩
  | d :: ds, xs, h => by
    rw [PlAll] at h
    obtain ⟨y, ys, rfl, h1, h2⟩ := h
    have ih := plAll_all2 h2
    refine ⟨by simp [ih.1], fun i v q a b => ?_⟩
    cases i with
    | zero => simp at a b; subst a; subst b; exact h1
    | succ i => exact ih.2 i v q (by simpa using a) (by simpa using b)
theorem pl_tup {H : Hp} {no : List Addr} {ds : List PyData} {v : V} (h : Pl H no (.tuple ds) v) : ∃ a xs, v = .ref a ∧ H a = some (.tup xs) ∧ All2 (fun x d => Pl H no d x) xs ds := by
  rw [Pl] at h
  obtain ⟨a, xs, e, _, hT, hA⟩ := h
  exact ⟨a, xs, e, hT, plAll_all2 hA⟩
theorem Pl.kn {H : Hp} {no : List Addr} : ∀ {d : PyData} {v : V}, Pl H no d v → Kn H v := fun {d v} h => by
  cases d with
  | list ds =>
    rw [Pl] at h
    obtain ⟨a, xs, rfl, _, q, _⟩ := h
    exact .inl ⟨xs, q⟩
  | tuple ds =>
    rw [Pl] at h
    obtain ⟨a, xs, rfl, _, q, _⟩ := h
    exact .inr (.inl ⟨xs, q⟩)
  | dict kvs =>
    rw [Pl] at h
    obtain ⟨_, a, rfl, _, q⟩ := h
    exact .inr (.inr ⟨_, q⟩)
  | _ =>
    rw [Pl] at h
    subst h
    trivial
theorem pl_not {H : Hp} {no : List Addr} {d : PyData} {v : V} (p : Pl H no d v) (h : isTup d = false) (xs : List V) : ¬ TupV H v xs := fun ⟨a, e, ha⟩ => by
  cases d with
  | tuple ds => simp [isTup] at h
  | list ds =>
    rw [Pl] at p
    obtain ⟨b, ys, e2, _, q, _⟩ := p
    rw [e] at e2
    cases e2
    rw [ha] at q
    cases q
  | dict kvs =>
    rw [Pl] at p
    obtain ⟨_, b, e2, _, q⟩ := p
    rw [e] at e2
    cases e2
    rw [ha] at q
    cases q
  | _ =>
    rw [Pl] at p
    rw [e] at p
    cases p
theorem isi_pl {K : PySem.W.Frag} {H : Hp} {no : List Addr} {d : PyData} {v : V} {Q : VK} (p : Pl H no d v) (q : Q (.bl (isTup d)) H) : rIsi K [v, .ty "tuple"] H Q := by
  cases h : isTup d with
  | false => rw [h] at q; exact isi_kn_tuple p.kn (fun xs t => absurd t (pl_not p h xs)) fun _ => q
  | true =>
    rw [h] at q
    refine isi_kn_tuple p.kn (fun _ _ => q) fun n => ?_
    cases d with
    | tuple ds =>
      obtain ⟨a, xs, rfl, hT, _⟩ := pl_tup p
      exact absurd ⟨a, rfl, hT⟩ (n xs)
    | _ => simp [isTup] at h
theorem tup_of {d : PyData} (h : isTup d = true) : ∃ ds, d = .tuple ds := by
  cases d with
  | tuple ds => exact ⟨ds, rfl⟩
  | _ => simp [isTup] at h
theorem pl_int {H : Hp} {no : List Addr} {d : PyData} {n : Int} (p : Pl H no d (.int n)) : d = .int n := by
  cases d with
  | list ds =>
    rw [Pl] at p
    obtain ⟨_, _, e, _⟩ := p
    cases e
  | tuple ds =>
    rw [Pl] at p
    obtain ⟨_, _, e, _⟩ := p
    cases e
  | dict ds =>
    rw [Pl] at p
    obtain ⟨_, _, e, _⟩ := p
    cases e
  | int m =>
    rw [Pl] at p
    cases p
    rfl
  | _ =>
    rw [Pl] at p
    cases p
theorem pl_num {H : Hp} {no : List Addr} {d : PyData} {v : V} {g l : Int} (p : Pl H no d v) : Kn2 H v ∧ (NumV H g v l ↔ numB g l d = true) := by
  refine ⟨⟨p.kn, fun xs t x hx => ?_⟩, ?_⟩
  · cases h : isTup d with
    | false => exact absurd t (pl_not p h xs)
    | true =>
      obtain ⟨ds, rfl⟩ := tup_of h
      obtain ⟨a, ys, rfl, hT, hA⟩ := pl_tup p
      obtain ⟨b, e, hb⟩ := t
      cases e
      rw [hT] at hb
      cases hb
      obtain ⟨i, hi⟩ := List.mem_iff_getElem?.mp hx
      obtain ⟨e, _, pe⟩ := hA.get hi
      exact pe.kn
  · cases d with
    | int n =>
      rw [Pl] at p
      subst p
      unfold NumV numB
      rw [decide_eq_true_eq]
      constructor
      · rintro (⟨h1, m, e, h2, h3⟩ | ⟨_, t, b, ⟨a, e, _⟩, _⟩)
        · cases e; exact ⟨h1, h2, h3⟩
        · cases e
      · rintro ⟨h1, h2, h3⟩
        exact .inl ⟨h1, n, rfl, h2, h3⟩
    | tuple ds =>
      obtain ⟨a, ys, rfl, hT, hA⟩ := pl_tup p
      constructor
      · rintro (⟨h1, m, e, h2, h3⟩ | ⟨h1, t, b, ⟨a2, e, ha⟩, h2⟩)
        · cases e
        · cases e
          rw [hT] at ha
          cases ha
          match ds, hA with
          | [d1, d2], hA =>
            have e1 := hA.2 0 _ _ rfl rfl
            have e2 := hA.2 1 _ _ rfl rfl
            have f1 : d1 = .int t := pl_int e1
            have f2 : d2 = .int b := pl_int e2
            subst f1; subst f2
            unfold numB
            rw [decide_eq_true_eq]
            exact ⟨h1, h2⟩
          | [], hA => exact absurd hA.1 (by simp)
          | [_], hA => exact absurd hA.1 (by simp)
          | _ :: _ :: _ :: _, hA => exact absurd hA.1 (by simp)
      · intro h
        unfold numB at h
        split at h
        · contradiction
        · rename_i x y e
          cases e
          rw [decide_eq_true_eq] at h
          match ys, hA with
          | [u, w], hA =>
            have e1 : Pl H no (.int x) u := hA.2 0 _ _ rfl rfl
            have e2 : Pl H no (.int y) w := hA.2 1 _ _ rfl rfl
            rw [Pl] at e1 e2
            subst e1; subst e2
            exact .inr ⟨h.1, x, y, ⟨a, rfl, hT⟩, h.2⟩
          | [], hA => exact absurd hA.1 (by simp)
          | [_], hA => exact absurd hA.1 (by simp)
          | _ :: _ :: _ :: _, hA => exact absurd hA.1 (by simp)
        · cases h
    | _ =>
      refine ⟨fun h => ?_, fun h => by simp [numB] at h⟩
      rcases h with ⟨_, m, e, _⟩ | ⟨_, t, b, ⟨a, e, ha⟩, _⟩
      · rw [e] at p
        have := pl_int p
        cases this
      · exact absurd ⟨a, e, ha⟩ (pl_not p rfl _)
def RaiseF (K : PySem.W.Frag) (E : XK) (H : Hp) (c f : String) (v : V) : Prop := ∀ H' dd, Same H H' → H' dd = none → E (.ref (He.ga K c)) (some dd) (upd H' dd (.xd [(f, v)]))
def Raise0 (K : PySem.W.Frag) (E : XK) (H : Hp) (c : String) : Prop := ∀ H', Same H H' → E (.ref (He.ga K c)) none H'
/-- ground and table, one of them being none -/
def Bad2 (K : PySem.W.Frag) (E : XK) (H : Hp) (v w : V) : Prop := ∃ (d e : PyData) (no : List Addr), Pl H no d v ∧ Pl H no e w ∧ ((¬ GroundV v ∧ RaiseF K E H "InvalidGround" "value" v) ∨ (∃ g, v = .int g ∧ GroundV v ∧ tabB g 12 12 (10 ^ 20) e = false ∧ Raise0 K E H "InvalidTable"))
/-- both are well -/
def Good2 (H : Hp) (v w : V) (ds : List PyData) : Prop := ∃ (g : Int) (no : List Addr), v = .int g ∧ GroundV v ∧ Pl H no (.tuple ds) w ∧ tabB g 12 12 (10 ^ 20) (.tuple ds) = true
theorem Bad2.same {K : PySem.W.Frag} {E : XK} {H H' : Hp} {v w : V} (h : Bad2 K E H v w) (s : Same H H') : Bad2 K E H' v w := by
  obtain ⟨d, e, no, p, q, h⟩ := h
  refine ⟨d, e, no, p.same s, q.same s, ?_⟩
  rcases h with ⟨a, b⟩ | ⟨g, a, b, c, r⟩
  · exact .inl ⟨a, fun H2 dd s2 n => b H2 dd (s.trans s2) n⟩
  · exact .inr ⟨g, a, b, c, fun H2 s2 => r H2 (s.trans s2)⟩
theorem Good2.same {H H' : Hp} {v w : V} {ds : List PyData} (h : Good2 H v w ds) (s : Same H H') : Good2 H' v w ds := by
  obtain ⟨g, no, e, hg, p, t⟩ := h
  exact ⟨g, no, e, hg, p.same s, t⟩
theorem len_any {K : PySem.W.Frag} {a : Addr} {xs : List V} {g : TG} {te : TE} {vs : List Nat} {σ : St} {H1 : Hp} {Q : VK} {c : Nat → Int} (hT : H1 a = some (.tup xs)) (h1 : 1 ≤ xs.length) (h2 : xs.length ≤ 100)
    (turn : ∀ (i : Nat) (x : V) (H' : Hp), xs[i]? = some x → Same H1 H' → ∀ (Qo : VK) (N : Hp → Prop), Qo (.int (c i)) H' → g x (wipe σ vs) H' fun σ2 H2 => wipe σ2 vs = wipe σ vs ∧ tYes σ2 H2 fun b H3 => if b = true then te σ2 H3 Qo else N H3)
    (fin : ∀ (n : Nat) H', Same H1 H' → (n = 1 ↔ ∀ i, i < xs.length → c i = c 0) → Q (.int (n : Int)) H') : LenW (Itt K a) H1 g tYes te vs σ Q := by
  intro D F hD
  have sq : ∀ {H : Hp}, H a = some (.tup xs) → SqT K H a xs := fun h => .inl (.inl h)
  let G : Nat → Hp → Prop := fun i H => ∃ S n, H D = some (F S n) ∧ n ≤ i ∧ (i = 0 → n = 0 ∧ ∀ k, S k = false) ∧ (0 < i → 1 ≤ n ∧ S (c 0) = true ∧ (n = 1 ↔ ∀ j, j < i → c j = c 0) ∧ (n = 1 → ∀ k, S k = true → k = c 0))
  refine ⟨fun i m H => m = xs.length - i ∧ i ≤ xs.length ∧ Same H1 H ∧ G i H, ⟨xs.length, by simp, Nat.zero_le _, fun b u h => by rw [upd_ne (ne_of_none h hD)]; exact h, _, _, upd_same, Nat.le_refl _, fun _ => ⟨rfl, fun _ => rfl⟩, fun h => absurd h (by omega)⟩, ?_⟩
  rintro i m H2 ⟨rfl, hi, s, S, n, hS, hn, h0, hp⟩
  by_cases hlt : i < xs.length
  · refine .inr ⟨⟨xs, xs[i], sq (s _ _ hT), by simp [hlt]⟩, fun H' => Same H1 H' ∧ G (i + 1) H', fun H' ⟨s', g'⟩ => ⟨xs.length - (i + 1), by omega, rfl, hlt, s', g'⟩, fun x H3 y => ?_⟩
    obtain ⟨e, y⟩ := y
    subst e
    have n1 : n + 1 < scanBound := Nat.lt_of_le_of_lt (show n + 1 ≤ 101 by omega) (by decide)
    refine turn i x _ (y xs (sq (s _ _ hT))) s (fun y H6 => ∃ (c : Int) (S : Int → Bool) (n : Nat), y = .int c ∧ H6 D = some (F S n) ∧ n + 1 < scanBound ∧ (Same H1 (upd H6 D (F (fun k => S k || decide (k = c)) (if S c = true then n else n + 1))) ∧ G (i + 1) (upd H6 D (F (fun k => S k || decide (k = c)) (if S c = true then n else n + 1))))) _
      ⟨c i, S, n, rfl, hS, n1, same_mutD s hD, _, _, upd_same, by split <;> omega, fun z => by omega, fun _ => ?_⟩
    rcases Nat.eq_zero_or_pos i with e | e
    · subst e
      obtain ⟨z1, z2⟩ := h0 rfl
      rw [if_neg (by rw [z2]; decide), z1]
      refine ⟨by omega, by simp, ⟨fun _ j hj => by rw [show j = 0 by omega], fun _ => rfl⟩, fun _ k hk => ?_⟩
      simpa [z2] using hk
    · obtain ⟨p1, p2, p3, p4⟩ := hp e
      by_cases hc : S (c i) = true
      · rw [if_pos hc]
        refine ⟨p1, by simp [p2], ⟨fun e1 j hj => ?_, fun q => p3.2 fun j hj => q j (by omega)⟩, fun e1 k hk => ?_⟩
        · by_cases ej : j < i
          · exact p3.1 e1 j ej
          · rw [show j = i by omega]; exact p4 e1 _ hc
        · have hk2 : S k = true ∨ k = c i := by simpa using hk
          rcases hk2 with hk2 | hk2
          · exact p4 e1 k hk2
          · rw [hk2]; exact p4 e1 _ hc
      · rw [if_neg hc]
        refine ⟨by omega, by simp [p2], ⟨fun e1 => by omega, fun q => ?_⟩, fun e1 => by omega⟩
        exact absurd (by rw [q i (by omega)]; exact p2) hc
  · obtain rfl : i = xs.length := by omega
    obtain ⟨p1, _, p3, _⟩ := hp (by omega)
    exact .inl ⟨⟨xs, sq (s _ _ hT), Nat.le_refl _⟩, S, n, hS, fin n H2 s p3⟩
theorem outL_map {α : Type} (f : α → V) (l : List α) : outL (fun i => (l[i]?).map f) l.length = l.map f := by
  exact outL_get l f rfl
/-! ### is_int -/
theorem sc_is_int : FnScope ["value"] ["value"] (defScope s_is_int) := ⟨rfl, rfl, rfl, by decide +kernel, rfl, by decide +kernel, by decide +kernel⟩
def sp_is_int (K : PySem.W.Frag) : Sp := fun vs H Q _ => ∃ v : V, vs = [v] ∧ Kn H v ∧ Q (.bl (isI v)) H
theorem len_is_int {K : PySem.W.Frag} {vs : List V} {H : Hp} {Q : VK} {E : XK} (h : sp_is_int K vs H Q E) : vs.length = ["value"].length := by
  obtain ⟨_, rfl, _⟩ := h
  rfl
def t_is_int (K : PySem.W.Frag) : TS := (tRet (tAndV (tCB (rIsi K) (tCons (tVar 0) (tCons (tC (.ty "int")) tNil))) (tNotV (tCB (rIsi K) (tCons (tVar 0) (tCons (tC (.ty "bool")) tNil))))))
theorem pure_is_int (K : PySem.W.Frag) (vs : List V) (H : Hp) (Q : VK) (E : XK) (h : sp_is_int K vs H Q E) : t_is_int K { nx := fun _ H' => Q .non H', rt := Q } (start ["value"] vs) H := by
  obtain ⟨v, rfl, hk, hq⟩ := h
  unfold t_is_int
  walk_at "z"
  refine isi_kn_int hk ?_
  walk_at "z"
  by_cases h1 : (isI v || isB v) = true
  · rw [if_pos h1]
    refine isi_kn_bool hk ?_
    walk_at "z"
    have e : (!isB v) = isI v := by cases v <;> simp_all [isI, isB]
    rw [e]
    exact hq
  · rw [if_neg h1]
    have e : isI v = false := by cases v <;> simp_all [isI, isB]
    rw [e] at hq
    exact hq
theorem ok_is_int {P : Program} {w : World} {K : PySem.W.Frag} {mg : Str → Option Value} {base : Heap} (T : Tx K mg) : Okk P w K mg base 1 "is_int" ["value"] (sp_is_int K) := by
  have hf_bool := T.n_bool
  have hf_int := T.n_int
  have hf_isinstance := T.n_isinstance
  obtain ⟨fd, F⟩ := T.f_is_int
  refine ⟨fd, F.ok sc_is_int (fun vs H Q E h => len_is_int h) (fun cdv A outer s H vs Q E hr h => ⟨t_is_int K, PSs.nox ?_, pure_is_int K vs H Q E h⟩), F.bindsN (fun _ _ _ _ _ _ us hl => match us, hl with | [_], _ => rfl), T.g_is_int, F.kp⟩
  exact (pss_one (ps_ret (pe_and (pe_callB call_isi (by rfl) hf_isinstance (by decide +kernel) (pa_cons (pv 0) (pa_cons (pe_bltn (v := .ty "int") rfl hf_int (by decide +kernel) rfl) pa_nil))) (pe_one (pe_not (pe_callB call_isi (by rfl) hf_isinstance (by decide +kernel) (pa_cons (pv 0) (pa_cons (pe_bltn (v := .ty "bool") rfl hf_bool (by decide +kernel) rfl) pa_nil))))))))
/-! ### has_no_parts -/
theorem sc_has_no_parts : FnScope ["number", "divisor"] ["number"] (defScope s_has_no_parts) := ⟨rfl, rfl, rfl, by decide +kernel, rfl, by decide +kernel, by decide +kernel⟩
def sp_has_no_parts (K : PySem.W.Frag) : Sp := fun vs H Q _ => ∃ n : Int, vs = [.int n] ∧ n < 2 ^ 40 ∧ ∀ b : Bool, (b = true ↔ PrimeI n) → Q (.bl b) H
theorem len_has_no_parts {K : PySem.W.Frag} {vs : List V} {H : Hp} {Q : VK} {E : XK} (h : sp_has_no_parts K vs H Q E) : vs.length = ["number"].length := by
  obtain ⟨_, rfl, _⟩ := h
  rfl
def t_has_no_parts_w1_c (K : PySem.W.Frag) : TT := (tAnd (tTest (tOp rLeI (tOp rMulU (tVar 1) (tVar 1)) (tVar 0))) (tTest (tOp rNe (tOp rModU (tVar 0) (tVar 1)) (tC (.int 0)))))
def t_has_no_parts_w1_b (K : PySem.W.Frag) : TS := (tAug 1 (tC (.int 2)) (ipI fun i j => i + j))
def t_has_no_parts (K : PySem.W.Frag) : TS := (tSeq (tIfS (tOr (tTest (tOp rLtI (tVar 0) (tC (.int 4)))) (tTest (tOp rEq (tOp rModU (tVar 0) (tC (.int 2))) (tC (.int 0))))) (tRet (tInT false (tVar 0) (tCons (tC (.int 2)) (tCons (tC (.int 3)) tNil)))) tNext)
  (tSeq (tAsg (tC (.int 3)) (gName 1))
  (tSeq (tWhile (t_has_no_parts_w1_c K) (t_has_no_parts_w1_b K))
  (tRet (tOp rGtI (tOp rMulU (tVar 1) (tVar 1)) (tVar 0))))))
theorem pure_has_no_parts (K : PySem.W.Frag) (vs : List V) (H : Hp) (Q : VK) (E : XK) (h : sp_has_no_parts K vs H Q E) : t_has_no_parts K { nx := fun _ H' => Q .non H', rt := Q } (start ["number", "divisor"] vs) H := by
  obtain ⟨n, rfl, hn2, hq⟩ := h
  unfold t_has_no_parts
  walk_at "z"
  have small : (n < 4 ∨ n % 2 = 0) → Q (.bl (inV (.int n) [.int 2, .int 3])) H := fun hs => by
    refine hq _ ?_
    rw [in_twothree, decide_eq_true_eq]
    constructor
    · rintro (rfl | rfl)
      · exact prime_two
      · exact prime_three
    · rintro ⟨h1, h2⟩
      by_cases e : n % 2 = 0
      · by_cases e2 : n = 2
        · exact .inl e2
        · exact absurd (show (2 : Int) ∣ n by omega) (h2 2 (by omega) (by omega))
      · omega
  by_cases h4 : n < 4
  · rw [if_pos h4]
    exact ⟨by decide, rfl, rfl, small (.inl h4)⟩
  rw [if_neg h4]
  walk_at "z"
  refine ⟨by decide, ?_⟩
  by_cases h2 : n % 2 = 0
  · rw [if_pos h2]
    exact ⟨by decide, rfl, rfl, small (.inr h2)⟩
  rw [if_neg h2]
  refine while_of (fun m σ H' => ∃ d : Int, σ = [some (.int n), some (.int d)] ∧ H' = H ∧ 3 ≤ d ∧ d % 2 = 1 ∧ (∀ k, 2 ≤ k → k < d → ¬ k ∣ n) ∧ d < 2 ^ 41 ∧ m = (2 ^ 42 - d).toNat) (2 ^ 42 - 3) ⟨3, rfl, rfl, by omega, by omega, fun k h1 h3 => by
      obtain rfl : k = 2 := by omega
      omega, by omega, by decide⟩ ?_
  rintro m σ H' ⟨d, rfl, rfl, hd, hodd, hk, hd2, rfl⟩ N hN hN2
  unfold t_has_no_parts_w1_c t_has_no_parts_w1_b
  walk_at "z"
  refine ⟨mulS (by omega), ?_⟩
  by_cases hdd : d * d ≤ n
  · rw [if_pos hdd]
    walk_at "z"
    refine ⟨by omega, ?_⟩
    have hdn : d < n := by
      have := Int.mul_le_mul_of_nonneg_right (show (3:Int) ≤ d by omega) (show (0:Int) ≤ d by omega)
      omega
    by_cases hm : n % d = 0
    · rw [if_neg (by omega)]
      walk_at "z"
      refine ⟨mulS (by omega), hq _ ⟨fun h => ?_, fun h => absurd (Int.dvd_of_emod_eq_zero hm) (h.2 d (by omega) hdn)⟩⟩
      rw [decide_eq_true_eq] at h
      omega
    · rw [if_pos hm]
      refine ⟨N, hN2, ?_⟩
      walk_at "z"
      have hlt : d < 2 ^ 20 + 2 := by
        by_cases q : d < 2 ^ 20 + 2
        · exact q
        · have := Int.mul_le_mul (show (2 ^ 20 + 2 : Int) ≤ d by omega) (show (2 ^ 20 + 2 : Int) ≤ d by omega) (by omega) (by omega)
          omega
      refine hN _ _ _ (by omega) ⟨d + 2, rfl, rfl, by omega, by omega, fun k h1 h3 => ?_, by omega, rfl⟩
      by_cases e1 : k < d
      · exact hk k h1 e1
      · by_cases e2 : k = d
        · subst e2
          intro hx
          exact hm (Int.emod_eq_zero_of_dvd hx)
        · obtain rfl : k = d + 1 := by omega
          intro hx
          have : (2 : Int) ∣ n := Int.dvd_trans (by omega) hx
          omega
  · rw [if_neg hdd]
    walk_at "z"
    refine ⟨mulS (by omega), hq _ ⟨fun _ => ?_, fun _ => decide_eq_true (by omega)⟩⟩
    have := least_self (by omega) hk (by omega) (by omega)
    exact ⟨this.1, this.2.2⟩

theorem ok_has_no_parts {P : Program} {w : World} {K : PySem.W.Frag} {mg : Str → Option Value} {base : Heap} (T : Tx K mg) : Okk P w K mg base 1 "has_no_parts" ["number"] (sp_has_no_parts K) := by
  obtain ⟨fd, F⟩ := T.f_has_no_parts
  refine ⟨fd, F.ok sc_has_no_parts (fun vs H Q E h => len_has_no_parts h) (fun cdv A outer s H vs Q E hr h => ⟨t_has_no_parts K, PSs.nox ?_, pure_has_no_parts K vs H Q E h⟩), F.bindsN (fun _ _ _ _ _ _ us hl => match us, hl with | [_], _ => rfl), T.g_has_no_parts, F.kp⟩
  exact (pss_cons (ps_if (PW.pt (pw_or (pt_cmpR op_lt (pv 0) pe_int (nomark _)) (pw_or1 (pt_cmpR op_eq (pe_op op_mod (pv 0) pe_int) pe_int (nomark _))))) (pss_one (ps_ret (pe_inT (pv 0) (pa_cons pe_int (pa_cons pe_int pa_nil)) rfl))) pss_nil)
      (pss_cons (ps_set (i := 1) sc_has_no_parts.nd rfl (by first | exact Or.inl rfl | exact Or.inr rfl) pe_int)
      (pss_cons (ps_while PassesOwn.never (PW.pt (pw_and (pt_cmpR op_le (pe_op op_mulU (pv 1) (pv 1)) (pv 0) (nomark _)) (pw_and1 (pt_cmpR op_ne (pe_op op_mod (pv 0) (pv 1)) pe_int (nomark _))))) (pss_one (ps_aug (i := 1) sc_has_no_parts.nd rfl (by first | exact Or.inl rfl | exact Or.inr rfl) pe_int ip_add)))
      (pss_one (ps_ret (pe_cmpR op_gt (pe_op op_mulU (pv 1) (pv 1)) (pv 0) (nomark _)))))))
/-! ### bezout -/
theorem sc_bezout : FnScope ["one", "other", "rest", "after", "u", "later_u", "v", "later_v", "often"] ["one", "other"] (defScope s_bezout) := ⟨rfl, rfl, rfl, by decide +kernel, rfl, by decide +kernel, by decide +kernel⟩
/-- sizes that can still be divided by -/
def sp_bezout (K : PySem.W.Frag) : Sp := fun vs H Q _ => ∃ a b : Int, vs = [.int a, .int b] ∧ 0 ≤ a ∧ 0 ≤ b ∧ Sz 8000 a ∧ Sz 8000 b ∧ ∀ p u v H', Same H H' → a * u + b * v = ((Nat.gcd a.natAbs b.natAbs : Nat) : Int) → Sz 8000 u → H' p = some (.tup [.int ((Nat.gcd a.natAbs b.natAbs : Nat) : Int), .int u, .int v]) → Q (.ref p) H'
theorem len_bezout {K : PySem.W.Frag} {vs : List V} {H : Hp} {Q : VK} {E : XK} (h : sp_bezout K vs H Q E) : vs.length = ["one", "other"].length := by
  obtain ⟨_, _, rfl, _⟩ := h
  rfl
def t_bezout_w1_c (K : PySem.W.Frag) : TT := (tTest (tOp rNe (tVar 3) (tC (.int 0))))
def t_bezout_w1_b (K : PySem.W.Frag) : TS := (tSeq (tAsg (tOp rDivZ (tVar 2) (tVar 3)) (gName 8))
  (tSeq (tPar 2 3 (tCons (tVar 3) (tCons (tOp rSub (tVar 2) (tOp rMulU (tVar 8) (tVar 3))) tNil)))
  (tSeq (tPar 4 5 (tCons (tVar 5) (tCons (tOp rSub (tVar 4) (tOp rMulU (tVar 8) (tVar 5))) tNil)))
  (tPar 6 7 (tCons (tVar 7) (tCons (tOp rSub (tVar 6) (tOp rMulU (tVar 8) (tVar 7))) tNil))))))
def t_bezout (K : PySem.W.Frag) : TS := (tSeq (tPar 2 3 (tCons (tVar 0) (tCons (tVar 1) tNil)))
  (tSeq (tAsg (tTup (tCons (tC (.int 1)) (tCons (tC (.int 0)) tNil))) (gTup K 2 (gCons (gName 4) (gCons (gName 5) gNil))))
  (tSeq (tAsg (tTup (tCons (tC (.int 0)) (tCons (tC (.int 1)) tNil))) (gTup K 2 (gCons (gName 6) (gCons (gName 7) gNil))))
  (tSeq (tWhile (t_bezout_w1_c K) (t_bezout_w1_b K))
  (tSeq (tIfS (tTest (tOp rLtI (tVar 2) (tC (.int 0)))) (tRet (tTup (tCons (tUn rNeg (tVar 2)) (tCons (tUn rNeg (tVar 4)) (tCons (tUn rNeg (tVar 6)) tNil))))) tNext)
  (tRet (tTup (tCons (tVar 2) (tCons (tVar 4) (tCons (tVar 6) tNil))))))))))
structure Bz (a b : Int) (r t u x v y : Int) (s : Int) : Prop where
  r0 : 0 ≤ r
  t0 : 0 ≤ t
  g : Nat.gcd r.natAbs t.natAbs = Nat.gcd a.natAbs b.natAbs
  e1 : a * u + b * v = r
  e2 : a * x + b * y = t
  sg : s = 1 ∨ s = -1
  u0 : 0 ≤ s * u
  x0 : 0 ≤ -(s * x)
  k : r * -(s * x) + t * (s * u) = b
theorem Bz.step {a b r t u x v y s : Int} (h : Bz a b r t u x v y s) (ht : t ≠ 0) : Bz a b t (r - r / t * t) x (u - r / t * x) y (v - r / t * y) (-s) := by
  have t1 : 0 < t := by have := h.t0; omega
  have er : r - r / t * t = r % t := by
    have := Int.emod_def r t
    rw [this, Int.mul_comm]
  have q0 : 0 ≤ r / t := Int.ediv_nonneg h.r0 h.t0
  refine ⟨h.t0, by rw [er]; exact Int.emod_nonneg _ ht, ?_, h.e2, ?_, by rcases h.sg with e | e <;> rw [e] <;> decide, ?_, ?_, ?_⟩
  · rw [er, ← h.g]
    obtain ⟨R, rfl⟩ : ∃ R : Nat, r = R := ⟨r.toNat, by have := h.r0; omega⟩
    obtain ⟨T, rfl⟩ : ∃ T : Nat, t = T := ⟨t.toNat, by omega⟩
    rw [← Int.natCast_emod, Int.natAbs_natCast, Int.natAbs_natCast, Int.natAbs_natCast, Nat.gcd_comm T (R % T), ← Nat.gcd_rec, Nat.gcd_comm]
  · have h1 := h.e1
    have h2 := h.e2
    generalize r / t = q at *
    rw [← h1, ← h2, Int.mul_sub, Int.mul_sub, Int.mul_add, Int.mul_left_comm a q x, Int.mul_left_comm b q y]
    omega
  · have := h.x0
    rw [Int.neg_mul]
    exact this
  · have h1 := h.u0
    have h2 := Int.mul_nonneg q0 h.x0
    generalize r / t = q at *
    have e : -(-s * (u - q * x)) = s * u + q * -(s * x) := by
      rw [Int.neg_mul, Int.neg_neg, Int.mul_sub, Int.mul_neg, Int.mul_left_comm s q x]
      omega
    rw [e]
    omega
  · have hk := h.k
    generalize r / t = q at *
    have e : -(-s * (u - q * x)) = s * u + q * -(s * x) := by
      rw [Int.neg_mul, Int.neg_neg, Int.mul_sub, Int.mul_neg, Int.mul_left_comm s q x]
      omega
    have e3 : -s * x = -(s * x) := Int.neg_mul s x
    rw [e, e3]
    generalize -(s * x) = X at *
    generalize s * u = U at *
    rw [← hk, Int.mul_add, Int.sub_mul, Int.mul_left_comm t q X, Int.mul_assoc q t X]
    omega
theorem s_abs {s x : Int} (h : s = 1 ∨ s = -1) : (s * x).natAbs = x.natAbs := by rcases h with e | e <;> rw [e] <;> simp
theorem sz_le {n : Nat} {x y : Int} (h : Sz n x) (h2 : y.natAbs ≤ x.natAbs) : Sz n y := Nat.lt_of_le_of_lt h2 h
theorem le_mulI {x y z : Int} (h : 0 ≤ x) (h1 : 1 ≤ y) (h2 : x * y ≤ z) : x ≤ z := by
  have := Int.mul_le_mul_of_nonneg_left h1 h
  omega
theorem pure_bezout (K : PySem.W.Frag) (vs : List V) (H : Hp) (Q : VK) (E : XK) (h : sp_bezout K vs H Q E) : t_bezout K { nx := fun _ H' => Q .non H', rt := Q } (start ["one", "other", "rest", "after", "u", "later_u", "v", "later_v", "often"] vs) H := by
  obtain ⟨a, b, rfl, ha, hb, sa, sb, hq⟩ := h
  unfold t_bezout
  walk_at "z"
  refine ⟨by decide, fun p hp => ⟨_, sqT_of upd_same, rfl, ?_⟩⟩
  walk_at "z"
  refine ⟨by decide, fun p2 hp2 => ⟨_, sqT_of upd_same, rfl, ?_⟩⟩
  walk_at "z"
  have sH := (same_upd (o := .tup [V.int 1, V.int 0]) hp).trans (same_upd (o := .tup [V.int 0, V.int 1]) hp2)
  revert sH
  generalize upd (upd H p (.tup [V.int 1, V.int 0])) p2 (.tup [V.int 0, V.int 1]) = H0
  intro sH
  have z0 : Sz 8000 0 := Nat.pow_pos (by decide)
  have z1 : Sz 8000 1 := Nat.one_lt_two_pow (by decide)
  refine while_of (fun μ σ H' => ∃ (r t u x v y s : Int) (o : Option V), σ = [some (.int a), some (.int b), some (.int r), some (.int t), some (.int u), some (.int x), some (.int v), some (.int y), o] ∧ H' = H0 ∧ Bz a b r t u x v y s ∧ Sz 8000 r ∧ Sz 8000 t ∧ Sz 8000 u ∧ Sz 8000 x ∧ Sz 16001 y ∧ t ≤ b ∧ μ = t.toNat) b.toNat ⟨a, b, 1, 0, 0, 1, 1, _, rfl, rfl, ⟨ha, hb, rfl, by omega, by omega, .inl rfl, by decide, by decide, by omega⟩, sa, sb, z1, z0, Nat.lt_of_lt_of_le z1 (Nat.pow_le_pow_right (by decide) (by decide)), Int.le_refl b, rfl⟩ ?_
  rintro μ σ H' ⟨r, t, u, x, v, y, s, o, rfl, rfl, B, sr, st, su, sx, sy, tb, rfl⟩ N hN hN2
  unfold t_bezout_w1_c t_bezout_w1_b
  walk_at "z"
  by_cases h0 : t = 0
  · subst h0
    have hg : r = ((Nat.gcd a.natAbs b.natAbs : Nat) : Int) := by
      have := B.g
      rw [Int.natAbs_zero, Nat.gcd_zero_right] at this
      have := B.r0
      omega
    have hn : ¬ r < 0 := by have := B.r0; omega
    have := B.e1
    walk_at "z"
    rw [if_neg hn]
    refine ⟨by decide, fun p hp => ?_⟩
    have sp := same_upd (o := .tup [V.int r, V.int u, V.int v]) hp
    refine hq p u v _ (sH.trans sp) ?_ su ?_
    · rw [← hg]; exact B.e1
    · rw [upd_same, hg]
  · have t1 : 0 < t := by have := B.t0; omega
    have B2 := B.step h0
    have q0 : 0 ≤ r / t := Int.ediv_nonneg B.r0 B.t0
    have qr : r / t ≤ r := Int.ediv_le_self _ B.r0
    have sq : Sz 8000 (r / t) := sz_le sr (by omega)
    have fd : r.fdiv t = r / t := Int.fdiv_eq_ediv_of_nonneg _ B.t0
    have er : r - r / t * t = r % t := by
      have := Int.emod_def r t
      rw [this, Int.mul_comm]
    have et : r % t < t := Int.emod_lt_of_pos _ t1
    have et0 : 0 ≤ r % t := Int.emod_nonneg _ h0
    have st2 : Sz 8000 (r - r / t * t) := sz_le st (by omega)
    have hb1 : b ≠ 0 := by omega
    have sx2 : Sz 8000 (u - r / t * x) := by
      have h2 := B2.k
      have h5 := B2.x0
      have h6 := Int.mul_nonneg B2.t0 B2.u0
      have h7 : -(-s * (u - r / t * x)) * t ≤ b := by rw [Int.mul_comm]; omega
      have h8 := le_mulI h5 (show 1 ≤ t by omega) h7
      have h9 := s_abs (x := u - r / t * x) B2.sg
      refine sz_le sb ?_
      omega
    have sy2 : Sz 16001 (v - r / t * y) := by
      have h2 := B2.e2
      have h3 : (b * (v - r / t * y)).natAbs ≤ t.natAbs + a.natAbs * (u - r / t * x).natAbs := by
        rw [← Int.natAbs_mul]
        omega
      have h4 : (v - r / t * y).natAbs ≤ (b * (v - r / t * y)).natAbs := by
        rw [Int.natAbs_mul]
        exact Nat.le_mul_of_pos_left _ (by omega)
      have h5 : a.natAbs * (u - r / t * x).natAbs ≤ 2 ^ 8000 * 2 ^ 8000 := Nat.mul_le_mul (Nat.le_of_lt sa) (Nat.le_of_lt sx2)
      rw [← Nat.pow_add] at h5
      have h6 : 2 ^ 8000 ≤ 2 ^ 16000 := Nat.pow_le_pow_right (by decide) (by decide)
      have h7 : (2 : Nat) ^ 16001 = 2 ^ 16000 + 2 ^ 16000 := by rw [show 16001 = 16000 + 1 from rfl, Nat.pow_succ]; omega
      have h8 : t.natAbs < 2 ^ 8000 := st
      show (v - r / t * y).natAbs < 2 ^ 16001
      rw [h7]
      generalize 2 ^ 16000 = P at *
      generalize 2 ^ 8000 = P2 at *
      omega
    rw [if_pos h0, fd]
    have lt8 : t.natAbs.log2 < 9000 := Nat.lt_of_lt_of_le (PySem.Flt.log2_lt_of (k := 8000) (by decide) st) (by decide)
    refine ⟨N, hN2, ⟨h0, lt8⟩, mulW (a := 8000) (b := 8000) sq st (by decide) (by decide) (by decide), mulW (a := 8000) (b := 8000) sq sx (by decide) (by decide) (by decide), mulW (a := 8000) (b := 16001) sq sy (by decide) (by decide) (by decide), ?_⟩
    refine hN (r % t).toNat _ _ (by omega) ⟨_, _, _, _, _, _, _, _, rfl, rfl, B2, st, st2, sx, sx2, sy2, by omega, by rw [er]⟩
theorem ok_bezout {P : Program} {w : World} {K : PySem.W.Frag} {mg : Str → Option Value} {base : Heap} (T : Tx K mg) : Okk P w K mg base 1 "bezout" ["one", "other"] (sp_bezout K) := by
  obtain ⟨fd, F⟩ := T.f_bezout
  refine ⟨fd, F.ok sc_bezout (fun vs H Q E h => len_bezout h) (fun cdv A outer s H vs Q E hr h => ⟨t_bezout K, PSs.nox ?_, pure_bezout K vs H Q E h⟩), F.bindsN (fun _ _ _ _ _ _ us hl => match us, hl with | [_, _], _ => rfl), T.g_bezout, F.kp⟩
  exact (pss_cons (ps_par (i := 2) (j := 3) rfl sc_bezout.nd rfl rfl (by decide) rfl rfl (pa_cons (pv 0) (pa_cons (pv 1) pa_nil)) (by rfl))
      (pss_cons (ps_asg (pe_tup (pa_cons pe_int (pa_cons pe_int pa_nil))) (pg_tup rfl (pgs_cons (pg_name (i := 4) sc_bezout.nd rfl (by first | exact Or.inl rfl | exact Or.inr rfl)) (pgs_cons (pg_name (i := 5) sc_bezout.nd rfl (by first | exact Or.inl rfl | exact Or.inr rfl)) pgs_nil))))
      (pss_cons (ps_asg (pe_tup (pa_cons pe_int (pa_cons pe_int pa_nil))) (pg_tup rfl (pgs_cons (pg_name (i := 6) sc_bezout.nd rfl (by first | exact Or.inl rfl | exact Or.inr rfl)) (pgs_cons (pg_name (i := 7) sc_bezout.nd rfl (by first | exact Or.inl rfl | exact Or.inr rfl)) pgs_nil))))
      (pss_cons (ps_while PassesOwn.never (pt_cmpR op_ne (pv 3) pe_int (nomark _)) (pss_cons (ps_set (i := 8) sc_bezout.nd rfl (by first | exact Or.inl rfl | exact Or.inr rfl) (pe_op op_fdivZ (pv 2) (pv 3)))
      (pss_cons (ps_par (i := 2) (j := 3) rfl sc_bezout.nd rfl rfl (by decide) rfl rfl (pa_cons (pv 3) (pa_cons (pe_op op_sub (pv 2) (pe_op op_mulU (pv 8) (pv 3))) pa_nil)) (by rfl))
      (pss_cons (ps_par (i := 4) (j := 5) rfl sc_bezout.nd rfl rfl (by decide) rfl rfl (pa_cons (pv 5) (pa_cons (pe_op op_sub (pv 4) (pe_op op_mulU (pv 8) (pv 5))) pa_nil)) (by rfl))
      (pss_one (ps_par (i := 6) (j := 7) rfl sc_bezout.nd rfl rfl (by decide) rfl rfl (pa_cons (pv 7) (pa_cons (pe_op op_sub (pv 6) (pe_op op_mulU (pv 8) (pv 7))) pa_nil)) (by rfl)))))))
      (pss_cons (ps_if (pt_cmpR op_lt (pv 2) pe_int (nomark _)) (pss_one (ps_ret (pe_tup (pa_cons (pe_un un_neg (pv 2)) (pa_cons (pe_un un_neg (pv 4)) (pa_cons (pe_un un_neg (pv 6)) pa_nil)))))) pss_nil)
      (pss_one (ps_ret (pe_tup (pa_cons (pv 2) (pa_cons (pv 4) (pa_cons (pv 6) pa_nil)))))))))))
/-! ### common_multiple -/
theorem sc_common_multiple : FnScope ["numbers", "result", "number"] ["numbers"] (defScope s_common_multiple) := ⟨rfl, rfl, rfl, by decide +kernel, rfl, by decide +kernel, by decide +kernel⟩
theorem le_mul1 {a b : Int} (h : 0 ≤ a) (h1 : 1 ≤ b) : a ≤ a * b := by
  have := Int.mul_le_mul_of_nonneg_left h1 h
  omega
def prI : List Int → Int
  | [] => 1
  | n :: l => n * prI l
theorem prI_append (l : List Int) (n : Int) : prI (l ++ [n]) = prI l * n := by
  induction l with
  | nil => simp [prI]
  | cons x l ih => simp only [List.cons_append, prI, ih, Int.mul_assoc]
theorem prI_pos : ∀ {l : List Int}, (∀ n ∈ l, 1 ≤ n) → 1 ≤ prI l
  | [], _ => by simp [prI]
  | n :: l, h => by
    have h1 := h n (by simp)
    have h2 := prI_pos (l := l) (fun m hm => h m (by simp [hm]))
    exact Int.le_trans h1 (le_mul1 (by omega) h2)
theorem prI_take {l : List Int} (h : ∀ n ∈ l, 1 ≤ n) (i : Nat) : prI (l.take i) ≤ prI l := by
  have h2 : prI l = prI (l.take i) * prI (l.drop i) := by
    conv => lhs; rw [← List.take_append_drop i l]
    generalize l.take i = a
    generalize l.drop i = b
    induction a with
    | nil => simp [prI]
    | cons x a ih => simp only [List.cons_append, prI, ih, Int.mul_assoc]
  rw [h2]
  exact le_mul1 (by have := prI_pos (l := l.take i) (fun n hn => h n (List.mem_of_mem_take hn)); omega) (prI_pos (fun n hn => h n (List.mem_of_mem_drop hn)))
theorem gcd_le1 {r n : Int} (hr : 1 ≤ r) (hn : 1 ≤ n) : 1 ≤ ((Nat.gcd r.natAbs n.natAbs : Nat) : Int) ∧ ((Nat.gcd r.natAbs n.natAbs : Nat) : Int) ≤ n := by
  have h1 : 0 < Nat.gcd r.natAbs n.natAbs := Nat.gcd_pos_of_pos_left _ (by omega)
  have h2 : Nat.gcd r.natAbs n.natAbs ≤ n.natAbs := Nat.le_of_dvd (by omega) (Nat.gcd_dvd_right _ _)
  omega
theorem lcm_step {r n : Int} (hr : 1 ≤ r) (hn : 1 ≤ n) : ∃ u : Int, (1 ≤ u ∧ u ≤ r) ∧ r / ((Nat.gcd r.natAbs n.natAbs : Nat) : Int) = u ∧ r ∣ u * n ∧ u ∣ r := by
  have hg := gcd_le1 hr hn
  have d1 : ((Nat.gcd r.natAbs n.natAbs : Nat) : Int) ∣ r := Int.natAbs_dvd_natAbs.mp (by rw [Int.natAbs_natCast]; exact Nat.gcd_dvd_left _ _)
  have d2 : ((Nat.gcd r.natAbs n.natAbs : Nat) : Int) ∣ n := Int.natAbs_dvd_natAbs.mp (by rw [Int.natAbs_natCast]; exact Nat.gcd_dvd_right _ _)
  generalize ((Nat.gcd r.natAbs n.natAbs : Nat) : Int) = g at *
  obtain ⟨u, rfl⟩ := d1
  obtain ⟨v, rfl⟩ := d2
  have u1 : 1 ≤ u := by
    rcases Int.lt_or_le 0 u with h | h
    · omega
    · have := Int.mul_nonpos_of_nonneg_of_nonpos (show (0 : Int) ≤ g by omega) h
      omega
  refine ⟨u, ⟨u1, ?_⟩, ?_, ⟨v, ?_⟩, Int.dvd_mul_left _ _⟩
  · rw [Int.mul_comm]; exact le_mul1 (by omega) hg.1
  · rw [Int.mul_ediv_cancel_left _ (by omega)]
  · rw [Int.mul_left_comm, Int.mul_assoc]
def sp_common_multiple (K : PySem.W.Frag) : Sp := fun vs H Q _ => ∃ (a : Addr) (ns : List Int), vs = [.ref a] ∧ SqL K H a (ns.map V.int) ∧ (∀ n ∈ ns, 1 ≤ n) ∧ Sz 8000 (prI ns) ∧ ∀ L : Int, 1 ≤ L → (∀ n ∈ ns, n ∣ L) → L ≤ prI ns → Q (.int L) H
theorem len_common_multiple {K : PySem.W.Frag} {vs : List V} {H : Hp} {Q : VK} {E : XK} (h : sp_common_multiple K vs H Q E) : vs.length = ["numbers"].length := by
  obtain ⟨_, _, rfl, _⟩ := h
  rfl
def t_common_multiple_f1_b (K : PySem.W.Frag) : TS := (tAsg (tOp rMulU (tOp rDivU (tVar 1) (tCB rGcd (tCons (tVar 1) (tCons (tVar 2) tNil)))) (tVar 2)) (gName 1))
def t_common_multiple (K : PySem.W.Frag) : TS := (tSeq (tAsg (tC (.int 1)) (gName 1))
  (tSeq (tFor (iList K (tVar 0)) (gName 2) (t_common_multiple_f1_b K))
  (tRet (tVar 1))))
theorem pure_common_multiple (K : PySem.W.Frag) (vs : List V) (H : Hp) (Q : VK) (E : XK) (h : sp_common_multiple K vs H Q E) : t_common_multiple K { nx := fun _ H' => Q .non H', rt := Q } (start ["numbers", "result", "number"] vs) H := by
  obtain ⟨a, ns, rfl, ha, h1, hs, hq⟩ := h
  unfold t_common_multiple
  walk_at "z"
  refine ⟨a, rfl, ⟨_, ha⟩, for_L (xs := ns.map V.int) (fun i σ H' => ∃ r o, σ = [some (.ref a), some (.int r), o] ∧ H' = H ∧ 1 ≤ r ∧ (∀ n ∈ ns.take i, n ∣ r) ∧ r ≤ prI (ns.take i)) ⟨1, none, rfl, rfl, by omega, by simp, by simp [prI]⟩ (fun i σ H' _ h => by obtain ⟨_, _, _, rfl, _⟩ := h; exact ha) (fun i x σ H' hx h N hN => ?_) (fun σ H' h => ?_)⟩
  · obtain ⟨r, o, rfl, rfl, hr, hd, hle⟩ := h
    rw [List.getElem?_map] at hx
    obtain ⟨n, hn, rfl⟩ := Option.map_eq_some_iff.mp hx
    have et : ns.take (i + 1) = ns.take i ++ [n] := by rw [List.take_succ, hn]; rfl
    have hm : n ∈ ns := List.mem_of_getElem? hn
    have n1 := h1 n hm
    have hle2 : prI (ns.take i) * n ≤ prI ns := by rw [← prI_append, ← et]; exact prI_take h1 _
    have p1 : 1 ≤ prI (ns.take i) := prI_pos fun m hm => h1 m (List.mem_of_mem_take hm)
    have nle : n ≤ prI ns := Int.le_trans (by rw [Int.mul_comm]; exact le_mul1 (by omega) p1) hle2
    have rle : r ≤ prI ns := Int.le_trans hle (Int.le_trans (le_mul1 (by omega) n1) hle2)
    obtain ⟨u, u0, eu, em, md⟩ := lcm_step hr n1
    have szr : Sz 8000 r := sz_le hs (by omega)
    have szn : Sz 8000 n := sz_le hs (by omega)
    have szu : Sz 8000 u := sz_le szr (by omega)
    unfold t_common_multiple_f1_b
    walk_at "z"
    rw [eu]
    refine ⟨?_, mulW szu szn (by decide) (by decide) (by decide), hN _ _ ⟨u * n, _, rfl, rfl, Int.le_trans n1 (by rw [Int.mul_comm]; exact le_mul1 (by omega) u0.1), fun m hm => ?_, ?_⟩⟩
    · have hg := gcd_le1 hr n1
      exact wide_div (b := 8000) (by omega) (Nat.lt_of_le_of_lt (by omega) szn) (by decide) (by decide)
    · rw [et, List.mem_append] at hm
      rcases hm with hm | hm
      · exact Int.dvd_trans (hd m hm) em
      · rw [List.mem_singleton.mp hm]; exact Int.dvd_mul_left _ _
    · rw [et, prI_append]
      exact Int.le_trans (Int.mul_le_mul_of_nonneg_right u0.2 (by omega)) (Int.mul_le_mul_of_nonneg_right hle (by omega))
  · obtain ⟨r, o, rfl, rfl, hr, hd, hle⟩ := h
    walk_at "z"
    rw [List.length_map, List.take_length] at hd hle
    exact hq r hr hd hle
theorem ok_common_multiple {P : Program} {w : World} {K : PySem.W.Frag} {mg : Str → Option Value} {base : Heap} (T : Tx K mg) : Okk P w K mg base 1 "common_multiple" ["numbers"] (sp_common_multiple K) := by
  have hb_gcd := T.b_gcd
  obtain ⟨fd, F⟩ := T.f_common_multiple
  refine ⟨fd, F.ok sc_common_multiple (fun vs H Q E h => len_common_multiple h) (fun cdv A outer s H vs Q E hr h => ⟨t_common_multiple K, PSs.nox ?_, pure_common_multiple K vs H Q E h⟩), F.bindsN (fun _ _ _ _ _ _ us hl => match us, hl with | [_], _ => rfl), T.g_common_multiple, F.kp⟩
  exact (pss_cons (ps_set (i := 1) sc_common_multiple.nd rfl (by first | exact Or.inl rfl | exact Or.inr rfl) pe_int)
      (pss_cons (ps_for PassesOwn.never rfl (pi_list (pv 0)) (pg_name (i := 2) sc_common_multiple.nd rfl (by first | exact Or.inl rfl | exact Or.inr rfl)) (pss_one (ps_set (i := 1) sc_common_multiple.nd rfl (by first | exact Or.inl rfl | exact Or.inr rfl) (pe_op op_mulU (pe_op op_fdivW (pv 1) (pe_callBfun cr_gcd rfl hb_gcd (pa_cons (pv 1) (pa_cons (pv 2) pa_nil)))) (pv 2)))))
      (pss_one (ps_ret (pv 1)))))
/-! ### top_of -/
theorem sc_top_of : FnScope ["ground", "number"] ["ground", "number"] (defScope s_top_of) := ⟨rfl, rfl, rfl, by decide +kernel, rfl, by decide +kernel, by decide +kernel⟩
/-- a number of a ground: a over b, or the rest a -/
def NumR (H : Hp) (g : Int) (v : V) (a b : Int) : Prop :=
  (g = 0 ∧ (∃ p, v = .ref p ∧ H p = some (.tup [.int a, .int b])) ∧ 1 ≤ b ∧ Nat.gcd a.natAbs b.natAbs = 1) ∨ (g ≠ 0 ∧ v = .int a ∧ b = 1 ∧ 0 ≤ a ∧ a < g)
/-- at most sixty digits -/
def S60 (x : Int) : Prop := -(10 ^ 60) < x ∧ x < 10 ^ 60
theorem S60.sz {x : Int} (h : S60 x) : Sz 3000 x := Nat.lt_of_lt_of_le (show x.natAbs < 2 ^ 250 by have := h.1; have := h.2; omega) (Nat.pow_le_pow_right (by decide) (by decide))
theorem NumR.kn2 {H : Hp} {g : Int} {v : V} {a b : Int} (h : NumR H g v a b) : Kn2 H v := by
  rcases h with ⟨_, ⟨p, rfl, hp⟩, _⟩ | ⟨_, rfl, _⟩
  · refine ⟨.inr (.inl ⟨_, hp⟩), ?_⟩
    rintro xs ⟨a', e, h⟩ x hx
    cases e
    rw [hp] at h
    cases h
    simp only [List.mem_cons, List.not_mem_nil, or_false] at hx
    rcases hx with rfl | rfl <;> exact trivial
  · exact ⟨trivial, fun xs ⟨_, e, _⟩ => by cases e⟩
theorem NumR.numV {H : Hp} {g : Int} {v : V} {a b : Int} (h : NumR H g v a b) (sa : S60 a) (sb : S60 b) : NumV H g v (10 ^ 60) := by
  rcases h with ⟨e, ⟨p, rfl, hp⟩, b1, hc⟩ | ⟨hg, rfl, _, a0, a1⟩
  · exact .inr ⟨e, a, b, ⟨p, rfl, hp⟩, sa, sb, b1, hc⟩
  · exact .inl ⟨hg, a, rfl, a0, a1⟩
theorem ground_le {g : Int} (h : GroundV (.int g)) : 0 ≤ g ∧ g ≤ 9999 := by
  obtain ⟨n, e, h1, h2, _⟩ := h
  cases e
  exact ⟨h1, h2⟩
theorem ground_sz {g : Int} (h : GroundV (.int g)) : Sz 1000 g := Nat.lt_of_lt_of_le (show g.natAbs < 2 ^ 14 by have := ground_le h; omega) (Nat.pow_le_pow_right (by decide) (by decide))
theorem ground_cop {H : Hp} {g : Int} {w : V} {c d : Int} (h : GroundV (.int g)) (n : NumR H g w c d) (hc : c ≠ 0) : g ≠ 0 → Nat.gcd c.natAbs g.natAbs = 1 := fun hg => by
  obtain ⟨m, e, _, _, h | hp⟩ := h
  · cases e; exact absurd h hg
  · cases e
    rcases n with ⟨h, _⟩ | ⟨_, _, _, c0, c1⟩
    · exact absurd h hg
    · refine Classical.byContradiction fun hne => ?_
      have hg0 : Nat.gcd c.natAbs g.natAbs ≠ 0 := Nat.pos_iff_ne_zero.mp (Nat.gcd_pos_of_pos_left _ (by omega))
      have hle : Nat.gcd c.natAbs g.natAbs ≤ c.natAbs := Nat.le_of_dvd (by omega) (Nat.gcd_dvd_left _ _)
      refine hp.2 ((Nat.gcd c.natAbs g.natAbs : Nat) : Int) (by omega) (by omega) ?_
      exact Int.natAbs_dvd_natAbs.mp (by rw [Int.natAbs_natCast]; exact Nat.gcd_dvd_right _ _)
def sp_top_of (K : PySem.W.Frag) : Sp := fun vs H Q _ => ∃ (g : Int) (v : V) (a b : Int), vs = [.int g, v] ∧ NumR H g v a b ∧ Q (.int a) H
theorem len_top_of {K : PySem.W.Frag} {vs : List V} {H : Hp} {Q : VK} {E : XK} (h : sp_top_of K vs H Q E) : vs.length = ["ground", "number"].length := by
  obtain ⟨_, _, _, _, rfl, _⟩ := h
  rfl
def t_top_of (K : PySem.W.Frag) : TS := (tRet (tIf (tTest (tOp rEq (tVar 0) (tC (.int 0)))) (tOp (rIxA K) (tVar 1) (tC (.int 0))) (tVar 1)))
theorem NumR.same {H H' : Hp} {g : Int} {v : V} {a b : Int} (h : NumR H g v a b) (s : Same H H') : NumR H' g v a b := by
  rcases h with ⟨e, ⟨p, e2, h⟩, r⟩ | h
  · exact .inl ⟨e, ⟨p, e2, s _ _ h⟩, r⟩
  · exact .inr h
theorem pure_top_of (K : PySem.W.Frag) (vs : List V) (H : Hp) (Q : VK) (E : XK) (h : sp_top_of K vs H Q E) : t_top_of K { nx := fun _ H' => Q .non H', rt := Q } (start ["ground", "number"] vs) H := by
  obtain ⟨g, v, a, b, rfl, hn, hq⟩ := h
  unfold t_top_of
  walk_at "z"
  rcases hn with ⟨rfl, ⟨p, rfl, hp⟩, _⟩ | ⟨hg, rfl, _⟩
  · walk_at "z"
    exact ixT (sqT_of hp) (v := .int a) rfl hq
  · rw [if_neg hg]
    exact hq
theorem ok_top_of {P : Program} {w : World} {K : PySem.W.Frag} {mg : Str → Option Value} {base : Heap} (T : Tx K mg) : Okk P w K mg base 1 "top_of" ["ground", "number"] (sp_top_of K) := by
  obtain ⟨fd, F⟩ := T.f_top_of
  refine ⟨fd, F.ok sc_top_of (fun vs H Q E h => len_top_of h) (fun cdv A outer s H vs Q E hr h => ⟨t_top_of K, PSs.nox ?_, pure_top_of K vs H Q E h⟩), F.bindsN (fun _ _ _ _ _ _ us hl => match us, hl with | [_, _], _ => rfl), T.g_top_of, F.kp⟩
  exact (pss_one (ps_ret (pe_ifExp (pt_cmpR op_eq (pv 0) pe_int (nomark _)) (pe_ix ix_lt (pv 1) pe_int (fun _ _ => rfl)) (pv 1))))
/-! ### bottom_of -/
theorem sc_bottom_of : FnScope ["ground", "number"] ["ground", "number"] (defScope s_bottom_of) := ⟨rfl, rfl, rfl, by decide +kernel, rfl, by decide +kernel, by decide +kernel⟩
theorem isiT {K : PySem.W.Frag} {H : Hp} {T : Addr} {xs : List V} {Q : VK} (h : H T = some (.tup xs)) (q : Q (.bl true) H) : rIsi K [.ref T, .ty "tuple"] H Q :=
  isi_kn_tuple (.inr (.inl ⟨_, h⟩)) (fun _ _ => q) fun n => absurd ⟨T, rfl, h⟩ (n xs)
theorem NumR.numL {H : Hp} {g : Int} {v : V} {a b l : Int} (h : NumR H g v a b) (sa : -l < a ∧ a < l) (sb : -l < b ∧ b < l) : NumV H g v l := by
  rcases h with ⟨e, ⟨p, rfl, hp⟩, b1, hc⟩ | ⟨hg, rfl, _, a0, a1⟩
  · exact .inr ⟨e, a, b, ⟨p, rfl, hp⟩, sa, sb, b1, hc⟩
  · exact .inl ⟨hg, a, rfl, a0, a1⟩
theorem all_true {n : Nat} : outL (fun _ => some (V.bl true)) n = (List.replicate n true).map V.bl := by
  induction n with
  | zero => rfl
  | succ n ih => rw [outL_succ, ih, List.replicate_succ', List.map_append]; rfl
theorem all_id {n : Nat} : (List.replicate n true).all id = true := by
  induction n with
  | zero => rfl
  | succ n ih => rw [List.replicate_succ, List.all_cons, ih]; rfl
def TabFit (qss : List (List (Int × Int))) (W : Nat) : Prop := 1 ≤ qss.length ∧ qss.length ≤ 12 ∧ 1 ≤ W ∧ W ≤ 12 ∧ ∀ qs ∈ qss, qs.length = W ∧ ∀ q ∈ qs, (-(10 ^ 20) < q.1 ∧ q.1 < 10 ^ 20) ∧ -(10 ^ 20) < q.2 ∧ q.2 < 10 ^ 20
def RowN (H : Hp) (g : Int) (v : V) (qs : List (Int × Int)) : Prop := ∃ T xs, v = .ref T ∧ H T = some (.tup xs) ∧ All2 (fun v q => NumR H g v q.1 q.2) xs qs
theorem RowN.same {H H' : Hp} {g : Int} {v : V} {qs : List (Int × Int)} (h : RowN H g v qs) (s : Same H H') : RowN H' g v qs := by
  obtain ⟨T, xs, e, hT, hA⟩ := h
  exact ⟨T, xs, e, s _ _ hT, hA.imp fun v q n => n.same s⟩
def TabN (H : Hp) (g : Int) (v : V) (qss : List (List (Int × Int))) : Prop := ∃ T xs, v = .ref T ∧ H T = some (.tup xs) ∧ All2 (RowN H g) xs qss
theorem TabN.same {H H' : Hp} {g : Int} {v : V} {qss : List (List (Int × Int))} (h : TabN H g v qss) (s : Same H H') : TabN H' g v qss := by
  obtain ⟨T, xs, e, hT, hA⟩ := h
  exact ⟨T, xs, e, s _ _ hT, hA.imp fun v q n => n.same s⟩
def sp_bottom_of (K : PySem.W.Frag) : Sp := fun vs H Q _ => ∃ (g : Int) (v : V) (a b : Int), vs = [.int g, v] ∧ NumR H g v a b ∧ Q (.int b) H
theorem len_bottom_of {K : PySem.W.Frag} {vs : List V} {H : Hp} {Q : VK} {E : XK} (h : sp_bottom_of K vs H Q E) : vs.length = ["ground", "number"].length := by
  obtain ⟨_, _, _, _, rfl, _⟩ := h
  rfl
def t_bottom_of (K : PySem.W.Frag) : TS := (tRet (tIf (tTest (tOp rEq (tVar 0) (tC (.int 0)))) (tOp (rIxA K) (tVar 1) (tC (.int 1))) (tC (.int 1))))
theorem pure_bottom_of (K : PySem.W.Frag) (vs : List V) (H : Hp) (Q : VK) (E : XK) (h : sp_bottom_of K vs H Q E) : t_bottom_of K { nx := fun _ H' => Q .non H', rt := Q } (start ["ground", "number"] vs) H := by
  obtain ⟨g, v, a, b, rfl, hn, hq⟩ := h
  unfold t_bottom_of
  walk_at "z"
  rcases hn with ⟨rfl, ⟨p, rfl, hp⟩, _⟩ | ⟨hg, rfl, rfl, _⟩
  · walk_at "z"
    exact ixT (sqT_of hp) (v := .int b) rfl hq
  · rw [if_neg hg]
    exact hq
theorem ok_bottom_of {P : Program} {w : World} {K : PySem.W.Frag} {mg : Str → Option Value} {base : Heap} (T : Tx K mg) : Okk P w K mg base 1 "bottom_of" ["ground", "number"] (sp_bottom_of K) := by
  obtain ⟨fd, F⟩ := T.f_bottom_of
  refine ⟨fd, F.ok sc_bottom_of (fun vs H Q E h => len_bottom_of h) (fun cdv A outer s H vs Q E hr h => ⟨t_bottom_of K, PSs.nox ?_, pure_bottom_of K vs H Q E h⟩), F.bindsN (fun _ _ _ _ _ _ us hl => match us, hl with | [_, _], _ => rfl), T.g_bottom_of, F.kp⟩
  exact (pss_one (ps_ret (pe_ifExp (pt_cmpR op_eq (pv 0) pe_int (nomark _)) (pe_ix ix_lt (pv 1) pe_int (fun _ _ => rfl)) pe_int)))
/-! ### number_of -/
theorem sc_number_of : FnScope ["ground", "integer"] ["ground", "integer"] (defScope s_number_of) := ⟨rfl, rfl, rfl, by decide +kernel, rfl, by decide +kernel, by decide +kernel⟩
def sp_number_of (K : PySem.W.Frag) : Sp := fun vs H Q _ => ∃ g n : Int, vs = [.int g, .int n] ∧ 0 ≤ g ∧ (g = 0 → ∀ p, H p = none → Q (.ref p) (upd H p (.tup [.int n, .int 1]))) ∧ (g ≠ 0 → Q (.int (n % g)) H)
theorem len_number_of {K : PySem.W.Frag} {vs : List V} {H : Hp} {Q : VK} {E : XK} (h : sp_number_of K vs H Q E) : vs.length = ["ground", "integer"].length := by
  obtain ⟨_, _, rfl, _⟩ := h
  rfl
def t_number_of (K : PySem.W.Frag) : TS := (tRet (tIf (tTest (tOp rEq (tVar 0) (tC (.int 0)))) (tTup (tCons (tVar 1) (tCons (tC (.int 1)) tNil))) (tOp rModU (tVar 1) (tVar 0))))
theorem pure_number_of (K : PySem.W.Frag) (vs : List V) (H : Hp) (Q : VK) (E : XK) (h : sp_number_of K vs H Q E) : t_number_of K { nx := fun _ H' => Q .non H', rt := Q } (start ["ground", "integer"] vs) H := by
  obtain ⟨g, n, rfl, h0, h1, h2⟩ := h
  unfold t_number_of
  walk_at "z"
  by_cases hg : g = 0
  · rw [if_pos hg]
    exact ⟨by decide, h1 hg⟩
  · rw [if_neg hg]
    exact ⟨by omega, h2 hg⟩
theorem ok_number_of {P : Program} {w : World} {K : PySem.W.Frag} {mg : Str → Option Value} {base : Heap} (T : Tx K mg) : Okk P w K mg base 1 "number_of" ["ground", "integer"] (sp_number_of K) := by
  obtain ⟨fd, F⟩ := T.f_number_of
  refine ⟨fd, F.ok sc_number_of (fun vs H Q E h => len_number_of h) (fun cdv A outer s H vs Q E hr h => ⟨t_number_of K, PSs.nox ?_, pure_number_of K vs H Q E h⟩), F.bindsN (fun _ _ _ _ _ _ us hl => match us, hl with | [_, _], _ => rfl), T.g_number_of, F.kp⟩
  exact (pss_one (ps_ret (pe_ifExp (pt_cmpR op_eq (pv 0) pe_int (nomark _)) (pe_tup (pa_cons (pv 1) (pa_cons pe_int pa_nil))) (pe_op op_mod (pv 1) (pv 0)))))
/-! ### integer_dot -/
theorem sc_integer_dot : FnScope ["one", "other", "x", "y"] ["one", "other"] (defScope s_integer_dot) := ⟨rfl, rfl, rfl, by decide +kernel, rfl, by decide +kernel, by decide +kernel⟩
def WholeR (qs : List (Int × Int)) (ns : List Int) : Prop := ∃ B : Int, 1 ≤ B ∧ (∀ q ∈ qs, q.2 ∣ B) ∧ B ≤ prI (qs.map (·.2)) ∧ ns = qs.map fun q => q.1 * (B / q.2)
def TabOk (qss : List (List (Int × Int))) (W : Nat) : Prop := qss.length ≤ 12 ∧ (∀ qs ∈ qss, qs.length = W ∧ (∀ q ∈ qs, Sz 150 q.1) ∧ Sz 450 (prI (qs.map (·.2)))) ∧ W < 2 ^ 20
theorem All2.push {α β : Type} {R : α → β → Prop} {xs : List α} {qs : List β} (h : All2 R xs qs) {x : α} {q : β} (hx : R x q) : All2 R (xs ++ [x]) (qs ++ [q]) := by
  refine ⟨by simp [h.1], fun i v r hv hr => ?_⟩
  by_cases e : i < xs.length
  · rw [List.getElem?_append_left e] at hv
    rw [List.getElem?_append_left (by rw [← h.1]; exact e)] at hr
    exact h.2 i v r hv hr
  · have hi : i < (xs ++ [x]).length := (List.getElem?_eq_some_iff.mp hv).1
    simp at hi
    have e2 : i = xs.length := by omega
    subst e2
    rw [List.getElem?_append_right (Nat.le_refl _)] at hv
    rw [List.getElem?_append_right (by rw [h.1]; exact Nat.le_refl _)] at hr
    simp [h.1] at hv hr
    subst hv; subst hr
    exact hx
theorem ListI.upd {H : Hp} {v : V} {ns : List Int} {D : Addr} {o : HO} (h : ListI H v ns) (hv : v ≠ .ref D) : ListI (upd H D o) v ns := by
  obtain ⟨a, rfl, h⟩ := h
  exact ⟨a, rfl, by rw [upd_ne (fun e => hv (by rw [e]))]; exact h⟩
theorem rows_imp {H H' : Hp} {xs : List V} {nss : List (List Int)} (h : All2 (ListI H) xs nss) (f : ∀ v ns, v ∈ xs → ListI H v ns → ListI H' v ns) : All2 (ListI H') xs nss :=
  ⟨h.1, fun i v q a b => f v q (List.mem_of_getElem? a) (h.2 i v q a b)⟩
theorem NumR.updL {H : Hp} {g : Int} {v : V} {a b : Int} {D : Addr} {o : HO} {zs : List V} (h : NumR H g v a b) (hD : H D = some (.lst zs)) : NumR (upd H D o) g v a b := by
  rcases h with ⟨e, ⟨p, e2, h⟩, r⟩ | h
  · refine .inl ⟨e, ⟨p, e2, ?_⟩, r⟩
    rw [upd_ne (fun e => by rw [e, hD] at h; cases h)]
    exact h
  · exact .inr h
theorem RowN.updL {H : Hp} {g : Int} {v : V} {qs : List (Int × Int)} {D : Addr} {o : HO} {zs : List V} (h : RowN H g v qs) (hD : H D = some (.lst zs)) : RowN (upd H D o) g v qs := by
  obtain ⟨T, xs, e, hT, hA⟩ := h
  refine ⟨T, xs, e, ?_, hA.imp fun v q n => n.updL hD⟩
  rw [upd_ne (fun e => by rw [e, hD] at hT; cases hT)]
  exact hT
theorem num_bot {H : Hp} {g : Int} {v : V} {a b : Int} (h : NumR H g v a b) : 1 ≤ b ∧ (g ≠ 0 → b = 1 ∧ 0 ≤ a ∧ a < g) := by
  rcases h with ⟨e, _, h, _⟩ | ⟨e, _, h, h1, h2⟩
  · exact ⟨h, fun e2 => absurd e e2⟩
  · exact ⟨by omega, fun _ => ⟨h, h1, h2⟩⟩
theorem row_bot {H : Hp} {g : Int} {v : V} {qs : List (Int × Int)} (h : RowN H g v qs) : ∀ q ∈ qs, 1 ≤ q.2 ∧ (g ≠ 0 → q.2 = 1 ∧ 0 ≤ q.1 ∧ q.1 < g) := fun q hq => by
  obtain ⟨T, xs, _, _, hA⟩ := h
  obtain ⟨i, hi⟩ := List.mem_iff_getElem?.mp hq
  have hlt := (List.getElem?_eq_some_iff.mp hi).1
  exact num_bot (hA.2 i _ q (List.getElem?_eq_getElem (by rw [hA.1]; exact hlt)) hi)
theorem sz_up {n m : Nat} {x : Int} (h : Sz n x) (hm : n ≤ m) : Sz m x := Nat.lt_of_lt_of_le h (Nat.pow_le_pow_right (by decide) hm)
theorem All2.set {α β : Type} {R : α → β → Prop} {xs : List α} {qs : List β} (h : All2 R xs qs) {i : Nat} {x : α} {q : β} (hx : R x q) : All2 R (xs.set i x) (qs.set i q) := by
  refine ⟨by simp [h.1], fun k v r hv hr => ?_⟩
  rw [List.getElem?_set] at hv hr
  by_cases e : i = k
  · rw [if_pos e] at hv hr
    split at hv
    · rw [if_pos (by rw [← h.1]; assumption)] at hr
      cases hv; cases hr; exact hx
    · cases hv
  · rw [if_neg e] at hv hr
    exact h.2 k v r hv hr
def OverR (F : Type) [Lean.Grind.Field F] (d n : Int) (q : Int × Int) : Prop := Lin.val F q.1 q.2 = Lin.ph F n * (Lin.ph F d)⁻¹
theorem tab_head {H : Hp} {g : Int} {v : V} {qss : List (List (Int × Int))} {W : Nat} (h : TabN H g v qss) (hf : TabFit qss W) {K : PySem.W.Frag} {Q : VK} (q : Q (.int (W : Int)) H) : rIxA K v (.int 0) H fun x H1 => rLenU K [x] H1 Q := by
  obtain ⟨T, xs, rfl, hT, hA⟩ := h
  have h0 : 0 < xs.length := by rw [hA.1]; exact hf.1
  obtain ⟨qs, hqs, T2, ys, e, hT2, hy⟩ := hA.get (List.getElem?_eq_getElem h0)
  refine ixT (sqT_of hT) (v := .ref T2) (atN (i := 0) (by rw [List.getElem?_eq_getElem h0, e])) ?_
  refine lenT (sqT_of hT2) ?_
  rw [hy.1, (hf.2.2.2.2 qs (List.mem_of_getElem? hqs)).1]
  exact q
/-! comprehensions that lay new things: P v a: v is a thing that tells a; S i a: what the i-th one tells -/
structure Stay {α : Type} (P : Hp → V → α → Prop) : Prop where
  same : ∀ {H H' : Hp} {v : V} {a : α}, P H v a → Same H H' → P H' v a
  upd : ∀ {H : Hp} {D : Addr} {zs : List V} {o : HO} {v : V} {a : α}, P H v a → H D = some (.lst zs) → P (L2.upd H D o) v a
theorem stay_num (g : Int) : Stay (α := Int × Int) fun H v q => NumR H g v q.1 q.2 := ⟨fun h s => h.same s, fun h hD => h.updL hD⟩
theorem stay_row (g : Int) : Stay (RowN · g) := ⟨fun h s => h.same s, fun h hD => h.updL hD⟩
def BI {α : Type} (P : Hp → V → α → Prop) (S : Nat → α → Prop) (H1 : Hp) (D : Addr) (i : Nat) (H' : Hp) : Prop :=
  Same H1 H' ∧ ∃ (zs : List V) (as : List α), H' D = some (.lst zs) ∧ All2 (P H') zs as ∧ as.length = i ∧ ∀ (k : Nat) (a : α), as[k]? = some a → S k a
section
variable {α : Type} {P : Hp → V → α → Prop} {S : Nat → α → Prop} {H1 : Hp} {D : Addr} {i : Nat} {H' : Hp}
theorem BI.zero (hD : H1 D = none) : BI P S H1 D 0 (upd H1 D (.lst [])) := ⟨same_upd hD, [], [], upd_same, ⟨rfl, fun i v q a b => by simp at a⟩, rfl, fun k a h => by simp at h⟩
theorem BI.step (st : Stay P) (hD : H1 D = none) (h : BI P S H1 D i H') {H2 : Hp} (s : Same H' H2) {y : V} {a : α} (hp : P H2 y a) (hs : S i a) (hi : i < 2 ^ 20) : OutOf D (BI P S H1 D (i + 1)) (some y) H2 := by
  obtain ⟨s1, zs, as, hz, hA, hl, hS⟩ := h
  refine ⟨zs, s _ _ hz, by rw [hA.1, hl]; exact Nat.lt_of_lt_of_le hi (by decide), same_mutD (s1.trans s) hD, zs ++ [y], as ++ [a], upd_same, (hA.imp fun v q n => st.upd (st.same n s) (s _ _ hz)).push (st.upd hp (s _ _ hz)), by simp [hl], fun k b hk => ?_⟩
  by_cases e : k < as.length
  · rw [List.getElem?_append_left e] at hk
    exact hS k b hk
  · have hlt := (List.getElem?_eq_some_iff.mp hk).1
    simp at hlt
    have e2 : k = as.length := by omega
    subst e2
    rw [List.getElem?_append_right (Nat.le_refl _)] at hk
    simp at hk
    subst hk
    rw [hl]; exact hs
variable {K : PySem.W.Frag} {g : TG} {te : TE} {vs : List Nat} {σ : St} {Q : VK}
theorem comp_RA {lo : Int} {n : Nat} (st : Stay P) (hn : n < 2 ^ 20)
    (turn : ∀ i H', i < n → Same H1 H' → ∀ Qo : VK, (∀ H2 y a, Same H' H2 → P H2 y a → S i a → Qo y H2) → g (.int (lo + i)) (wipe σ vs) H' fun σ2 H2 => wipe σ2 vs = wipe σ vs ∧ te σ2 H2 Qo)
    (fin : ∀ D H' zs as, H1 D = none → Same H1 H' → H' D = some (.lst zs) → All2 (P H') zs as → as.length = n → (∀ (k : Nat) (a : α), as[k]? = some a → S k a) → Q (.ref D) H') : LcW (Itr lo n) H1 g tYes te vs σ Q := fun D hD =>
  lc_range (lo := lo) (n := n) (BI P S H1 D) (BI.zero hD) (fun i H' hi p => turn i H' hi p.1 _ fun H2 y a s hp hs => p.step st hD s hp hs (by omega)) (fun H' ⟨s, zs, as, hz, hA, hl, hS⟩ => fin D H' zs as hD s hz hA hl hS)
theorem comp_TA {a : Addr} {xs : List V} (st : Stay P) (hT : H1 a = some (.tup xs)) (hn : xs.length < 2 ^ 20)
    (turn : ∀ i x H', xs[i]? = some x → Same H1 H' → ∀ Qo : VK, (∀ H2 y a, Same H' H2 → P H2 y a → S i a → Qo y H2) → g x (wipe σ vs) H' fun σ2 H2 => wipe σ2 vs = wipe σ vs ∧ te σ2 H2 Qo)
    (fin : ∀ D H' zs as, H1 D = none → Same H1 H' → H' D = some (.lst zs) → All2 (P H') zs as → as.length = xs.length → (∀ (k : Nat) (a : α), as[k]? = some a → S k a) → Q (.ref D) H') : LcW (Itt K a) H1 g tYes te vs σ Q := fun D hD =>
  lc_tup (xs := xs) (BI P S H1 D) (BI.zero hD) (fun i H' _ p => sqT_of (p.1 _ _ hT)) (fun i x H' hx p => turn i x H' hx p.1 _ fun H2 y a s hp hs => p.step st hD s hp hs (by have := (List.getElem?_eq_some_iff.mp hx).1; omega)) (fun H' ⟨s, zs, as, hz, hA, hl, hS⟩ => fin D H' zs as hD s hz hA hl hS)
theorem comp_LA {a : Addr} {xs : List V} (st : Stay P) (hT : H1 a = some (.lst xs)) (hn : xs.length < 2 ^ 20)
    (turn : ∀ i x H', xs[i]? = some x → Same H1 H' → ∀ Qo : VK, (∀ H2 y a, Same H' H2 → P H2 y a → S i a → Qo y H2) → g x (wipe σ vs) H' fun σ2 H2 => wipe σ2 vs = wipe σ vs ∧ te σ2 H2 Qo)
    (fin : ∀ D H' zs as, H1 D = none → Same H1 H' → H' D = some (.lst zs) → All2 (P H') zs as → as.length = xs.length → (∀ (k : Nat) (a : α), as[k]? = some a → S k a) → Q (.ref D) H') : LcW (Itl K a) H1 g tYes te vs σ Q := fun D hD =>
  lc_list (xs := xs) (BI P S H1 D) (BI.zero hD) (fun i H' _ p => sqL_of (p.1 _ _ hT)) (fun i x H' hx p => turn i x H' hx p.1 _ fun H2 y a s hp hs => p.step st hD s hp hs (by have := (List.getElem?_eq_some_iff.mp hx).1; omega)) (fun H' ⟨s, zs, as, hz, hA, hl, hS⟩ => fin D H' zs as hD s hz hA hl hS)
/-- over zip of two of one length -/
theorem comp_ZA {b1 b2 : Bool} {a b : Addr} {xs ys : List V} (st : Stay P) (h1 : H1 a = some (if b1 then .lst xs else .tup xs)) (h2 : H1 b = some (if b2 then .lst ys else .tup ys)) (hl : xs.length = ys.length) (hn : xs.length < 2 ^ 20)
    (turn : ∀ i x y T H', xs[i]? = some x → ys[i]? = some y → Same H1 H' → H' T = some (.tup [x, y]) → ∀ Qo : VK, (∀ H2 y a, Same H' H2 → P H2 y a → S i a → Qo y H2) → g (.ref T) (wipe σ vs) H' fun σ2 H2 => wipe σ2 vs = wipe σ vs ∧ te σ2 H2 Qo)
    (fin : ∀ D H' zs as, H1 D = none → Same H1 H' → H' D = some (.lst zs) → All2 (P H') zs as → as.length = xs.length → (∀ (k : Nat) (a : α), as[k]? = some a → S k a) → Q (.ref D) H') : LcW (ItzB b1 b2 K a b) H1 g tYes te vs σ Q :=
  comp_zB (xs := xs) (ys := ys) (n := xs.length) (by omega) (fun D i H' => BI P S H1 D i H') (fun D hD => BI.zero hD) (fun D i H p => ⟨sqB_same (p.1 _ _ h1), sqB_same (p.1 _ _ h2)⟩)
    (fun D i x y T H' hD hx hy p hT => turn i x y T _ hx hy (p.1.trans (same_upd hT)) upd_same _ fun H2 v a s hp hs => p.step st hD ((same_upd hT).trans s) hp hs (by have := (List.getElem?_eq_some_iff.mp hx).1; omega))
    (fun D H' hD ⟨s, zs, as, hz, hA, hl, hS⟩ => fin D H' zs as hD s hz hA hl hS)
end
def turnQ (qss : List (List (Int × Int))) (W : Nat) : List (List (Int × Int)) := (List.range W).map fun j => qss.map fun qs => qs.getD j (0, 1)
theorem tab_w {H : Hp} {g : Int} {v : V} {qss : List (List (Int × Int))} {W : Nat} (h : TabN H g v qss) (h1 : 1 ≤ qss.length) (hW : ∀ qs ∈ qss, qs.length = W) {K : PySem.W.Frag} {Q : VK} (q : Q (.int (W : Int)) H) : rIxA K v (.int 0) H fun x H1 => rLenU K [x] H1 Q := by
  obtain ⟨T, xs, rfl, hT, hA⟩ := h
  have h0 : 0 < xs.length := by rw [hA.1]; exact h1
  obtain ⟨qs, hqs, T2, ys, e, hT2, hy⟩ := hA.get (List.getElem?_eq_getElem h0)
  refine ixT (sqT_of hT) (v := .ref T2) (atN (i := 0) (by rw [List.getElem?_eq_getElem h0, e])) ?_
  refine lenT (sqT_of hT2) ?_
  rw [hy.1, hW qs (List.mem_of_getElem? hqs)]
  exact q
theorem RowN.ix {K : PySem.W.Frag} {H : Hp} {g : Int} {v : V} {qs : List (Int × Int)} (h : RowN H g v qs) {j : Nat} {q : Int × Int} (hq : qs[j]? = some q) {Q : VK} (k : ∀ z, NumR H g z q.1 q.2 → Q z H) : rIxA K v (.int (j : Int)) H Q := by
  obtain ⟨T, xs, rfl, hT, hA⟩ := h
  have hj := (List.getElem?_eq_some_iff.mp hq).1
  have hx := List.getElem?_eq_getElem (show j < xs.length by rw [hA.1]; exact hj)
  exact ixT (sqT_of hT) (atN hx) (k _ (hA.2 j _ q hx hq))
section
variable {F : Type} [Lean.Grind.Field F]
def rowF (F : Type) [Lean.Grind.Field F] (qs : List (Int × Int)) : Nat → F := fun j => (qs.map fun q => Lin.val F q.1 q.2).getD j 0
theorem rowF_at {qs : List (Int × Int)} {j : Nat} {q : Int × Int} (h : qs[j]? = some q) : rowF F qs j = Lin.val F q.1 q.2 := by
  unfold rowF
  rw [List.getD_eq_getElem?_getD, List.getElem?_map, h]; rfl
theorem rowF_no {qs : List (Int × Int)} {j : Nat} (h : qs.length ≤ j) : rowF F qs j = 0 := by
  unfold rowF
  rw [List.getD_eq_getElem?_getD, List.getElem?_map, List.getElem?_eq_none h]; rfl
def atF (F : Type) [Lean.Grind.Field F] (qss : List (List (Int × Int))) (i j : Nat) : F := rowF F (qss.getD i []) j
theorem atF_at {qss : List (List (Int × Int))} {i : Nat} {qs : List (Int × Int)} (h : qss[i]? = some qs) : atF F qss i = rowF F qs := by
  unfold atF
  rw [Lin.getD_some h]
end
theorem takes_len {X : Cx} {W : WX} (tk : Takes X W) : Takes X (fun cls d σ H => σ.length = X.N.length → W cls d σ H) := fun u s' ⟨a, B, sI, pins, σ, H, cls, d, e, I, nb, up, sky, na, os, ag, w⟩ =>
  tk u s' ⟨a, B, sI, pins, σ, H, cls, d, e, I, nb, up, sky, na, os, ag, w I.len⟩
/-- a list or a tuple of numbers; a list of lists or a tuple of tuples -/
def SeqP (H : Hp) (g : Int) (b : Bool) (v : V) (qs : List (Int × Int)) : Prop := ∃ a xs, v = .ref a ∧ H a = some (if b then .lst xs else .tup xs) ∧ All2 (fun v q => NumR H g v q.1 q.2) xs qs
theorem SeqP.same {H H' : Hp} {g : Int} {b : Bool} {v : V} {qs : List (Int × Int)} (h : SeqP H g b v qs) (s : Same H H') : SeqP H' g b v qs := by
  obtain ⟨a, xs, e, h, r⟩ := h
  exact ⟨a, xs, e, s _ _ h, r.imp fun v q n => n.same s⟩
def TabP (H : Hp) (g : Int) (b : Bool) (v : V) (qss : List (List (Int × Int))) : Prop := ∃ T xs, v = .ref T ∧ H T = some (if b then .lst xs else .tup xs) ∧ All2 (SeqP H g b) xs qss
theorem TabN.p {H : Hp} {g : Int} {v : V} {qss : List (List (Int × Int))} (h : TabN H g v qss) : TabP H g false v qss := h
theorem comp_BF {K : PySem.W.Frag} {b : Bool} {a : Addr} {xs : List V} {g : TG} {tt : TT} {te : TE} {vs : List Nat} {σ : St} {H1 : Hp} {Q : VK} (hT : H1 a = some (if b then .lst xs else .tup xs)) (outs : Nat → Option V) (hn : xs.length < 2 ^ 22)
    (turn : ∀ i x H', xs[i]? = some x → Same H1 H' → ∀ Qo : Option V → Hp → Prop, (∀ H2, Same H' H2 → Qo (outs i) H2) → g x (wipe σ vs) H' fun σ2 H2 => wipe σ2 vs = wipe σ vs ∧ tt σ2 H2 fun b H3 => if b = true then te σ2 H3 fun y H4 => Qo (some y) H4 else Qo none H3)
    (fin : ∀ D H', H1 D = none → Same H1 H' → H' D = some (.lst (outL outs xs.length)) → Q (.ref D) H') : LcW (ItB b K a) H1 g tt te vs σ Q := by
  cases b
  · exact comp_TF hT outs hn turn fin
  · exact comp_LF (sqL_of hT) outs hn turn fin
theorem lc_B {K : PySem.W.Frag} {b : Bool} {a : Addr} {xs : List V} {g : TG} {tt : TT} {te : TE} {vs : List Nat} {σ : St} {H1 : Hp} {Q : VK} (Pv : Addr → Nat → Hp → Prop) (h0 : ∀ D, H1 D = none → Pv D 0 (upd H1 D (.lst []))) (hl : ∀ D i H, Pv D i H → H a = some (if b then .lst xs else .tup xs))
    (hs : ∀ D i x H, H1 D = none → xs[i]? = some x → Pv D i H → g x (wipe σ vs) H fun σ2 H2 => wipe σ2 vs = wipe σ vs ∧ tt σ2 H2 fun b H3 => if b = true then te σ2 H3 fun y H4 => OutOf D (Pv D (i + 1)) (some y) H4 else Pv D (i + 1) H3)
    (hd : ∀ D H, H1 D = none → Pv D xs.length H → Q (.ref D) H) : LcW (ItB b K a) H1 g tt te vs σ Q := fun D hD => by
  cases b
  · exact lc_tup (xs := xs) (Pv D) (h0 D hD) (fun i H _ p => sqT_of (hl D i H p)) (fun i x H hx p => hs D i x H hD hx p) (fun H p => hd D H hD p)
  · exact lc_list (xs := xs) (Pv D) (h0 D hD) (fun i H _ p => sqL_of (hl D i H p)) (fun i x H hx p => hs D i x H hD hx p) (fun H p => hd D H hD p)
theorem _root_.PySem.ZExc.fnOk_reason : PySem.ZExc.FnOk1 ("reason" : Str) := ⟨by decide, fun _ _ _ _ => by kernel_rfl, fun _ _ _ _ => by kernel_rfl, fun _ _ => by kernel_rfl, fun _ _ _ _ _ _ => by kernel_rfl, fun _ _ _ _ _ _ => by kernel_rfl, fun _ _ _ _ _ _ _ _ _ _ _ _ _ _ _ => by with_unfolding_all rfl⟩
def dotI (ns ms : List Int) : Int := (List.zipWith (fun n m => n * m) ns ms).sum
theorem comp_ZF {K : PySem.W.Frag} {b1 b2 : Bool} {a b : Addr} {xs ys : List V} {g : TG} {tt : TT} {te : TE} {vs : List Nat} {σ : St} {H1 : Hp} {Q : VK} (h1 : H1 a = some (if b1 then .lst xs else .tup xs)) (h2 : H1 b = some (if b2 then .lst ys else .tup ys)) (hl : xs.length = ys.length) (outs : Nat → Option V) (hn : xs.length < 2 ^ 22)
    (turn : ∀ i x y T H', xs[i]? = some x → ys[i]? = some y → Same H1 H' → H' T = some (.tup [x, y]) → ∀ Qo : Option V → Hp → Prop, (∀ H2, Same H' H2 → Qo (outs i) H2) → g (.ref T) (wipe σ vs) H' fun σ2 H2 => wipe σ2 vs = wipe σ vs ∧ tt σ2 H2 fun b H3 => if b = true then te σ2 H3 fun y H4 => Qo (some y) H4 else Qo none H3)
    (fin : ∀ D H', H1 D = none → Same H1 H' → H' D = some (.lst (outL outs xs.length)) → Q (.ref D) H') : LcW (ItzB b1 b2 K a b) H1 g tt te vs σ Q :=
  comp_zB (xs := xs) (ys := ys) (n := xs.length) (by omega) (fun D i H' => Same H1 H' ∧ H' D = some (.lst (outL outs i))) (fun D hD => ⟨same_upd hD, upd_same⟩) (fun D i H p => ⟨sqB_same (p.1 _ _ h1), sqB_same (p.1 _ _ h2)⟩)
    (fun D i x y T H' hD hx hy p hT => turn i x y T _ hx hy (p.1.trans (same_upd hT)) upd_same (OutOf D fun H' => Same H1 H' ∧ H' D = some (.lst (outL outs (i + 1)))) fun H2 s => out_ok hD outs (List.getElem?_eq_some_iff.mp hx).1 hn p ((same_upd hT).trans s))
    (fun D H' hD p => fin D H' hD p.1 p.2)
def unitQ (n : Nat) : List (List (Int × Int)) := (List.range n).map fun i => (List.range n).map fun j => (if i = j then ((1 : Int), (1 : Int)) else (0, 1))
theorem seq_bot {H : Hp} {g : Int} {b : Bool} {v : V} {qs : List (Int × Int)} (h : SeqP H g b v qs) : ∀ q ∈ qs, 1 ≤ q.2 ∧ (g ≠ 0 → q.2 = 1 ∧ 0 ≤ q.1 ∧ q.1 < g) := fun q hq => by
  obtain ⟨T, xs, _, _, hA⟩ := h
  obtain ⟨i, hi⟩ := List.mem_iff_getElem?.mp hq
  have hlt := (List.getElem?_eq_some_iff.mp hi).1
  exact num_bot (hA.2 i _ q (List.getElem?_eq_getElem (by rw [hA.1]; exact hlt)) hi)
/-- over a list or a tuple, what is laid being told apart from the new list D -/
theorem comp_BD {α : Type} {P : Addr → Hp → V → α → Prop} {S : Nat → α → Prop} {K : PySem.W.Frag} {b : Bool} {a : Addr} {xs : List V} {g : TG} {te : TE} {vs : List Nat} {σ : St} {H1 : Hp} {Q : VK}
    (same : ∀ {D : Addr} {H H' : Hp} {v : V} {c : α}, P D H v c → Same H H' → P D H' v c) (upd' : ∀ {D : Addr} {H : Hp} {zs : List V} {o : HO} {v : V} {c : α}, P D H v c → H D = some (.lst zs) → P D (L2.upd H D o) v c)
    (hT : H1 a = some (if b then .lst xs else .tup xs)) (hn : xs.length < 2 ^ 20)
    (turn : ∀ D i x H', H1 D = none → (∃ zs, H' D = some (.lst zs)) → xs[i]? = some x → Same H1 H' → ∀ Qo : VK, (∀ H2 y c, Same H' H2 → P D H2 y c → S i c → Qo y H2) → g x (wipe σ vs) H' fun σ2 H2 => wipe σ2 vs = wipe σ vs ∧ te σ2 H2 Qo)
    (fin : ∀ D H' zs cs, H1 D = none → Same H1 H' → H' D = some (.lst zs) → All2 (P D H') zs cs → cs.length = xs.length → (∀ (k : Nat) (c : α), cs[k]? = some c → S k c) → Q (.ref D) H') : LcW (ItB b K a) H1 g tYes te vs σ Q := by
  refine lc_B (xs := xs) (fun D i H' => Same H1 H' ∧ ∃ (zs : List V) (cs : List α), H' D = some (.lst zs) ∧ All2 (P D H') zs cs ∧ cs.length = i ∧ ∀ (k : Nat) (c : α), cs[k]? = some c → S k c) (fun D hD => ⟨same_upd hD, [], [], upd_same, ⟨rfl, fun i v q a b => by simp at a⟩, rfl, fun k c h => by simp at h⟩)
    (fun D i H' p => p.1 _ _ hT) (fun D i x H' hD hx p => ?_) (fun D H' hD p => ?_)
  · obtain ⟨s1, zs, cs, hz, hA, hl, hS⟩ := p
    refine turn D i x H' hD ⟨zs, hz⟩ hx s1 _ fun H2 y c s hp hs => ?_
    have hi := (List.getElem?_eq_some_iff.mp hx).1
    refine ⟨zs, s _ _ hz, by rw [hA.1, hl]; exact Nat.lt_of_lt_of_le (show i < 2 ^ 20 by omega) (by decide), same_mutD (s1.trans s) hD, zs ++ [y], cs ++ [c], upd_same, (hA.imp fun v q n => upd' (same n s) (s _ _ hz)).push (upd' hp (s _ _ hz)), by simp [hl], fun k e hk => ?_⟩
    by_cases hlt : k < cs.length
    · rw [List.getElem?_append_left hlt] at hk
      exact hS k e hk
    · have h2 := (List.getElem?_eq_some_iff.mp hk).1
      simp at h2
      have e2 : k = cs.length := by omega
      subst e2
      rw [List.getElem?_append_right (Nat.le_refl _)] at hk
      simp at hk
      subst hk
      rw [hl]; exact hs
  · obtain ⟨s1, zs, cs, hz, hA, hl, hS⟩ := p
    exact fin D H' zs cs hD s1 hz hA hl hS
/-- what whole_row gives: integers and a bottom -/
def WP (D : Addr) (H : Hp) (v : V) (c : List Int × Int) : Prop := ∃ p L, v = .ref p ∧ L ≠ D ∧ H p = some (.tup [.ref L, .int c.2]) ∧ H L = some (.lst (c.1.map V.int))
theorem WP.same {D : Addr} {H H' : Hp} {v : V} {c : List Int × Int} (h : WP D H v c) (s : Same H H') : WP D H' v c := by
  obtain ⟨p, L, e, n, h1, h2⟩ := h
  exact ⟨p, L, e, n, s _ _ h1, s _ _ h2⟩
theorem WP.upd {D : Addr} {H : Hp} {zs : List V} {o : HO} {v : V} {c : List Int × Int} (h : WP D H v c) (hD : H D = some (.lst zs)) : WP D (L2.upd H D o) v c := by
  obtain ⟨p, L, e, n, h1, h2⟩ := h
  exact ⟨p, L, e, n, by rw [upd_ne (fun e2 => by rw [e2, hD] at h1; cases h1)]; exact h1, by rw [upd_ne n]; exact h2⟩
/-- c are the integers and the bottom of the row qs -/
def WQ (qs : List (Int × Int)) (c : List Int × Int) : Prop := c.1 = qs.map (fun q => q.1 * (c.2 / q.2)) ∧ 1 ≤ c.2 ∧ (∀ q ∈ qs, q.2 ∣ c.2) ∧ c.2 ≤ prI (qs.map (·.2))
def sp_integer_dot (K : PySem.W.Frag) : Sp := fun vs H Q _ => ∃ (A B : Addr) (ns ms : List Int), vs = [.ref A, .ref B] ∧ H A = some (.lst (ns.map V.int)) ∧ H B = some (.lst (ms.map V.int)) ∧ ns.length = ms.length ∧ ns.length ≤ 12 ∧ (∀ n ∈ ns, Sz 700 n) ∧ (∀ m ∈ ms, Sz 700 m) ∧ ∀ H', Same H H' → Q (.int (dotI ns ms)) H'
theorem len_integer_dot {K : PySem.W.Frag} {vs : List V} {H : Hp} {Q : VK} {E : XK} (h : sp_integer_dot K vs H Q E) : vs.length = ["one", "other"].length := by
  obtain ⟨_, _, _, _, rfl, _⟩ := h
  rfl
def t_integer_dot (K : PySem.W.Frag) : TS := (tRet (tCB (rSum K) (tCons (tLc (iZipX K (tCons (tVar 0) (tCons (tVar 1) tNil))) (gTup K 2 (gCons (gName 2) (gCons (gName 3) gNil))) tYes (tOp rMulU (tVar 2) (tVar 3)) [2, 3]) tNil)))
theorem pure_integer_dot (K : PySem.W.Frag) (vs : List V) (H : Hp) (Q : VK) (E : XK) (h : sp_integer_dot K vs H Q E) : t_integer_dot K { nx := fun _ H' => Q .non H', rt := Q } (start ["one", "other", "x", "y"] vs) H := by
  obtain ⟨A, B, ns, ms, rfl, hA, hB, hl, hl2, s1, s2, hq⟩ := h
  unfold t_integer_dot
  walk_at "z"
  refine ⟨true, true, A, B, ns.map V.int, ms.map V.int, rfl, sqL_of hA, sqL_of hB, comp_ZF hA hB (by simpa using hl) (fun i => ((List.zipWith (fun n m => n * m) ns ms)[i]?).map V.int) (by simp; omega) (fun i x y T H' hx hy s hT Qo hQo => ?_) (fun D H' hD s hz => ?_)⟩
  · rw [List.getElem?_map] at hx hy
    obtain ⟨n, hn, rfl⟩ := Option.map_eq_some_iff.mp hx
    obtain ⟨m, hm, rfl⟩ := Option.map_eq_some_iff.mp hy
    walk_at "z"
    refine ⟨_, sqT_of hT, rfl, ?_⟩
    walk_at "z"
    refine ⟨mulW (s1 n (List.mem_of_getElem? hn)) (s2 m (List.mem_of_getElem? hm)) (by decide) (by decide) (by decide), ?_⟩
    have := hQo H' (Same.refl _)
    rw [List.getElem?_zipWith, hn, hm] at this
    exact this
  · rw [outL_get _ _ (by simp; omega)] at hz
    exact ⟨D, _, rfl, sqL_of hz, hq H' s⟩
theorem ok_integer_dot {P : Program} {w : World} {K : PySem.W.Frag} {mg : Str → Option Value} {base : Heap} (T : Tx K mg) : Okk P w K mg base 1 "integer_dot" ["one", "other"] (sp_integer_dot K) := by
  have hf_sum := T.n_sum
  have hf_zip := T.n_zip
  obtain ⟨fd, F⟩ := T.f_integer_dot
  refine ⟨fd, F.ok sc_integer_dot (fun vs H Q E h => len_integer_dot h) (fun cdv A outer s H vs Q E hr h => ⟨t_integer_dot K, PSs.nox ?_, pure_integer_dot K vs H Q E h⟩), F.bindsN (fun _ _ _ _ _ _ us hl => match us, hl with | [_, _], _ => rfl), T.g_integer_dot, F.kp⟩
  exact (pss_one (ps_ret (pe_callB (cr_sum rfl) (by rfl) hf_sum (by decide +kernel) (pa_cons (pe_lc (own := [("x", 2), ("y", 3)]) (g := (gTup K 2 (gCons (gName 2) (gCons (gName 3) gNil)))) (tt := tYes) rfl sc_integer_dot.nd (pi_zipX (by rfl) hf_zip (pa_cons (pv 0) (pa_cons (pv 1) pa_nil))) (blkOk_by (own := [("x", 2), ("y", 3)]) (N := ["one", "other", "x", "y"]) (sc := defScope s_integer_dot) (by decide +kernel)) (fun _ _ _ _ _ => (pg_tup rfl (pgs_cons (pg_name (i := 2) sc_integer_dot.nd rfl (by first | exact Or.inl rfl | exact Or.inr rfl)) (pgs_cons (pg_name (i := 3) sc_integer_dot.nd rfl (by first | exact Or.inl rfl | exact Or.inr rfl)) pgs_nil)))) (fun _ _ _ _ _ => pts_nil) (fun _ _ _ _ _ => (pe_op op_mulU (pv 2) (pv 3)))) pa_nil))))
/-! ### length_fits -/
theorem sc_length_fits : FnScope ["value", "most"] ["value", "most"] (defScope s_length_fits) := ⟨rfl, rfl, rfl, by decide +kernel, rfl, by decide +kernel, by decide +kernel⟩
def sp_length_fits (K : PySem.W.Frag) : Sp := fun vs H Q _ => ∃ (v : V) (d : PyData) (m : Int) (no : List Addr), vs = [v, .int m] ∧ Pl H no d v ∧ Q (.bl (lenB m d)) H
theorem len_length_fits {K : PySem.W.Frag} {vs : List V} {H : Hp} {Q : VK} {E : XK} (h : sp_length_fits K vs H Q E) : vs.length = ["value", "most"].length := by
  obtain ⟨_, _, _, _, rfl, _⟩ := h
  rfl
def t_length_fits (K : PySem.W.Frag) : TS := (tRet (tAndV (tCB (rIsi K) (tCons (tVar 0) (tCons (tC (.ty "tuple")) tNil))) (tAndV (tOp rGeI (tCB (rLenU K) (tCons (tVar 0) tNil)) (tC (.int 1))) (tOrV (tIsN (tVar 1)) (tOp rLeI (tCB (rLenU K) (tCons (tVar 0) tNil)) (tVar 1))))))
theorem pure_length_fits (K : PySem.W.Frag) (vs : List V) (H : Hp) (Q : VK) (E : XK) (h : sp_length_fits K vs H Q E) : t_length_fits K { nx := fun _ H' => Q .non H', rt := Q } (start ["value", "most"] vs) H := by
  obtain ⟨v, d, m, no, rfl, p, hq⟩ := h
  unfold t_length_fits
  walk_at "z"
  refine isi_pl p ?_
  walk_at "z"
  cases h : isTup d with
  | false =>
    have e : lenB m d = false := by
      cases d <;> first | rfl | simp [isTup] at h
    rw [e] at hq
    simpa using hq
  | true =>
    obtain ⟨ds, rfl⟩ := tup_of h
    obtain ⟨a, xs, rfl, hT, hA⟩ := pl_tup p
    rw [if_pos rfl]
    refine lenT (sqT_of hT) ?_
    walk_at "z"
    rw [lenB_t] at hq
    rw [← hA.1] at hq
    by_cases h1 : 1 ≤ xs.length
    · rw [if_pos (by omega), if_neg (fun e => by cases e)]
      refine lenT (sqT_of hT) ?_
      walk_at "z"
      simpa [h1] using hq
    · rw [if_neg (by omega)]
      have : decide (1 ≤ xs.length ∧ (xs.length : Int) ≤ m) = false := decide_eq_false (by omega)
      rw [this] at hq
      exact hq
theorem ok_length_fits {P : Program} {w : World} {K : PySem.W.Frag} {mg : Str → Option Value} {base : Heap} (T : Tx K mg) : Okk P w K mg base 1 "length_fits" ["value", "most"] (sp_length_fits K) := by
  have hf_isinstance := T.n_isinstance
  have hf_len := T.n_len
  have hf_tuple := T.n_tuple
  obtain ⟨fd, F⟩ := T.f_length_fits
  refine ⟨fd, F.ok sc_length_fits (fun vs H Q E h => len_length_fits h) (fun cdv A outer s H vs Q E hr h => ⟨t_length_fits K, PSs.nox ?_, pure_length_fits K vs H Q E h⟩), F.bindsN (fun _ _ _ _ _ _ us hl => match us, hl with | [_, _], _ => rfl), T.g_length_fits, F.kp⟩
  exact (pss_one (ps_ret (pe_and (pe_callB call_isi (by rfl) hf_isinstance (by decide +kernel) (pa_cons (pv 0) (pa_cons (pe_bltn (v := .ty "tuple") rfl hf_tuple (by decide +kernel) rfl) pa_nil))) (pe_and (pe_cmpR op_ge (pe_callB call_len_seq (by rfl) hf_len (by decide +kernel) (pa_cons (pv 0) pa_nil)) pe_int (nomark _)) (pe_one (pe_or (pe_cmp (pc_isN (pv 1))) (pe_one (pe_cmpR op_le (pe_callB call_len_seq (by rfl) hf_len (by decide +kernel) (pa_cons (pv 0) pa_nil)) (pv 1) (nomark _)))))))))
/-! ### turned -/
theorem sc_turned : FnScope ["table", "row", "column"] ["table"] (defScope s_turned) := ⟨rfl, rfl, rfl, by decide +kernel, rfl, by decide +kernel, by decide +kernel⟩
def sp_turned (K : PySem.W.Frag) : Sp := fun vs H Q _ => ∃ (g : Int) (v : V) (qss : List (List (Int × Int))) (W : Nat), vs = [v] ∧ TabN H g v qss ∧ 1 ≤ qss.length ∧ qss.length < 2 ^ 10 ∧ W < 2 ^ 10 ∧ (∀ qs ∈ qss, qs.length = W) ∧ ∀ z H', Same H H' → TabN H' g z (turnQ qss W) → Q z H'
theorem len_turned {K : PySem.W.Frag} {vs : List V} {H : Hp} {Q : VK} {E : XK} (h : sp_turned K vs H Q E) : vs.length = ["table"].length := by
  obtain ⟨_, _, _, _, rfl, _⟩ := h
  rfl
def t_turned (K : PySem.W.Frag) : TS := (tRet (tCB (rTupOf K) (tCons (tLc (iRng1 (tCons (tCB (rLenU K) (tCons (tOp (rIxA K) (tVar 0) (tC (.int 0))) tNil)) tNil)) (gName 2) tYes (tCB (rTupOf K) (tCons (tLc (iTup K (tVar 0)) (gName 1) tYes (tOp (rIxA K) (tVar 1) (tVar 2)) [1]) tNil)) [2]) tNil)))
theorem pure_turned (K : PySem.W.Frag) (vs : List V) (H : Hp) (Q : VK) (E : XK) (h : sp_turned K vs H Q E) : t_turned K { nx := fun _ H' => Q .non H', rt := Q } (start ["table", "row", "column"] vs) H := by
  obtain ⟨g, v, qss, W, rfl, hT, h1, hl, hlW, hW, hq⟩ := h
  unfold t_turned
  walk_at "z"
  refine tab_w hT h1 hW ?_
  obtain ⟨T, xs, rfl, hT, hA⟩ := hT
  refine ⟨_, rfl, by omega, by omega, comp_RA (P := fun H v a => RowN H g v a) (S := fun j rs => rs = qss.map fun qs => qs.getD j (0, 1)) (stay_row g) (by omega) (fun j H' hj s Qo hQo => ?_) (fun D H' zs as hD s hz hAA hlen hS => ?_)⟩
  · walk_at "z"
    refine ⟨T, rfl, ⟨_, sqT_of (s _ _ hT)⟩, comp_TA (P := fun H v (q : Int × Int) => NumR H g v q.1 q.2) (S := fun i (q : Int × Int) => ∃ qs, qss[i]? = some qs ∧ q = qs.getD j (0, 1)) (stay_num g) (s _ _ hT) (by rw [hA.1]; omega) (fun i x H2 hx s2 Qo2 hQo2 => ?_) (fun D H2 zs as hD s2 hz hAA hlen hS => ?_)⟩
    · obtain ⟨qs, hqs, hr⟩ := hA.get hx
      have hw := hW qs (List.mem_of_getElem? hqs)
      walk_at "z"
      rw [Int.zero_add]
      have hqj : qs[j]? = some (qs.getD j (0, 1)) := by
        rw [List.getD_eq_getElem?_getD, List.getElem?_eq_getElem (show j < qs.length by omega)]; rfl
      exact (hr.same (s.trans s2)).ix hqj fun z n => hQo2 _ _ _ (Same.refl _) n ⟨qs, hqs, rfl⟩
    · refine ⟨D, _, rfl, .inl ⟨sqL_of hz, fun T2 hT2 => ?_⟩⟩
      have s3 := same_upd (o := .tup zs) hT2
      refine hQo _ _ as (s2.trans s3) ⟨T2, zs, rfl, upd_same, hAA.imp fun v q n => n.same s3⟩ ?_
      refine List.ext_getElem? fun k => ?_
      rw [List.getElem?_map]
      by_cases hk : k < as.length
      · obtain ⟨qs, h2, h3⟩ := hS k _ (List.getElem?_eq_getElem hk)
        rw [List.getElem?_eq_getElem hk, h2, h3]; rfl
      · rw [List.getElem?_eq_none (by omega), List.getElem?_eq_none (by rw [← hA.1]; omega)]; rfl
  · refine ⟨D, _, rfl, .inl ⟨sqL_of hz, fun T2 hT2 => ?_⟩⟩
    have s3 := same_upd (o := .tup zs) hT2
    have e : as = turnQ qss W := by
      refine List.ext_getElem? fun k => ?_
      unfold turnQ
      rw [List.getElem?_map]
      by_cases hk : k < as.length
      · rw [List.getElem?_eq_getElem hk, hS k _ (List.getElem?_eq_getElem hk), List.getElem?_range (by simpa using (by omega : k < W))]; rfl
      · rw [List.getElem?_eq_none (by omega), List.getElem?_eq_none (by simp; omega)]; rfl
    subst e
    exact hq _ _ (s.trans s3) ⟨T2, zs, rfl, upd_same, hAA.imp fun v q n => n.same s3⟩
theorem ok_turned {P : Program} {w : World} {K : PySem.W.Frag} {mg : Str → Option Value} {base : Heap} (T : Tx K mg) : Okk P w K mg base 1 "turned" ["table"] (sp_turned K) := by
  have hf_len := T.n_len
  have hf_range := T.n_range
  have hf_tuple := T.n_tuple
  obtain ⟨fd, F⟩ := T.f_turned
  refine ⟨fd, F.ok sc_turned (fun vs H Q E h => len_turned h) (fun cdv A outer s H vs Q E hr h => ⟨t_turned K, PSs.nox ?_, pure_turned K vs H Q E h⟩), F.bindsN (fun _ _ _ _ _ _ us hl => match us, hl with | [_], _ => rfl), T.g_turned, F.kp⟩
  exact (pss_one (ps_ret (pe_callTy call_tuple_of (by rfl) hf_tuple (by decide +kernel) (pa_cons (pe_lc (own := [("column", 2)]) (g := (gName 2)) (tt := tYes) rfl sc_turned.nd (pi_range1 rfl hf_range (pa_cons (pe_callB call_len_seq (by rfl) hf_len (by decide +kernel) (pa_cons (pe_ix ix_lt (pv 0) pe_int (fun _ _ => rfl)) pa_nil)) pa_nil)) (blkOk_by (own := [("column", 2)]) (N := ["table", "row", "column"]) (sc := defScope s_turned) (by decide +kernel)) (fun _ _ _ _ _ => (pg_name (i := 2) sc_turned.nd rfl (by first | exact Or.inl rfl | exact Or.inr rfl))) (fun _ _ _ _ _ => pts_nil) (fun _ _ _ _ _ => (pe_callTy call_tuple_of (by rfl) hf_tuple (by decide +kernel) (pa_cons (pe_lc (own := [("row", 1)]) (g := (gName 1)) (tt := tYes) rfl sc_turned.nd (pi_tup (pv 0)) (blkOk_by (own := [("row", 1)]) (by kernel_rfl)) (fun _ _ _ _ _ => (pg_name (i := 1) sc_turned.nd rfl (by first | exact Or.inl rfl | exact Or.inr rfl))) (fun _ _ _ _ _ => pts_nil) (fun _ _ _ _ _ => (pe_ix ix_lt (pv 1) (pv 2) (fun _ _ => rfl)))) pa_nil)))) pa_nil))))
/-! ### beside -/
theorem sc_beside : FnScope ["one", "other", "row", "further"] ["one", "other"] (defScope s_beside) := ⟨rfl, rfl, rfl, by decide +kernel, rfl, by decide +kernel, by decide +kernel⟩
def sp_beside (K : PySem.W.Frag) : Sp := fun vs H Q _ => ∃ (g : Int) (b : Bool) (v w : V) (qss rss : List (List (Int × Int))), vs = [v, w] ∧ TabP H g b v qss ∧ TabN H g w rss ∧ qss.length = rss.length ∧ qss.length ≤ 12 ∧ (∀ qs ∈ qss, qs.length ≤ 13) ∧ (∀ rs ∈ rss, rs.length ≤ 12) ∧
  ∀ z H', Same H H' → TabP H' g true z (List.zipWith (fun a b => a ++ b) qss rss) → Q z H'
theorem len_beside {K : PySem.W.Frag} {vs : List V} {H : Hp} {Q : VK} {E : XK} (h : sp_beside K vs H Q E) : vs.length = ["one", "other"].length := by
  obtain ⟨_, _, _, _, _, _, rfl, _⟩ := h
  rfl
def t_beside (K : PySem.W.Frag) : TS := (tRet (tLc (iZipX K (tCons (tVar 0) (tCons (tVar 1) tNil))) (gTup K 2 (gCons (gName 2) (gCons (gName 3) gNil))) tYes (tOp rCat (tCB (rListOf K) (tCons (tVar 2) tNil)) (tCB (rListOf K) (tCons (tVar 3) tNil))) [2, 3]))
theorem pure_beside (K : PySem.W.Frag) (vs : List V) (H : Hp) (Q : VK) (E : XK) (h : sp_beside K vs H Q E) : t_beside K { nx := fun _ H' => Q .non H', rt := Q } (start ["one", "other", "row", "further"] vs) H := by
  obtain ⟨g, b, v, w, qss, rss, rfl, ⟨A, xs, rfl, hA, hR⟩, ⟨B, ys, rfl, hB, hS⟩, hl, hl2, w1, w2, hq⟩ := h
  unfold t_beside
  walk_at "z"
  refine ⟨b, false, A, B, xs, ys, rfl, sqB_same hA, sqT_of hB, comp_zB (xs := xs) (ys := ys) (n := xs.length) (by rw [hR.1, hS.1]; omega)
    (fun D i H' => Same H H' ∧ ∃ zs ass, H' D = some (.lst zs) ∧ All2 (SeqP H' g true) zs ass ∧ (∀ v ∈ zs, v ≠ .ref D) ∧ ass = (List.zipWith (fun a b => a ++ b) qss rss).take i) (fun D hD => ⟨same_upd hD, [], [], upd_same, ⟨rfl, fun i v q a b => by simp at a⟩, by simp, by simp⟩)
    (fun D i H p => ⟨sqB_same (p.1 _ _ hA), sqT_of (p.1 _ _ hB)⟩) (fun D i x y T H' hD hx hy p hT => ?_) (fun D H' hD p => ?_)⟩
  · obtain ⟨s, zs, ass, hz, hAA, hne, e⟩ := p
    obtain ⟨qs, hqs, T1, us, rfl, h1, r1⟩ := hR.get hx
    obtain ⟨rs, hrs, T2, us2, rfl, h2, r2⟩ := hS.get hy
    walk_at "z"
    refine ⟨_, sqT_of upd_same, rfl, ?_⟩
    walk_at "z"
    have sT := same_upd (o := .tup [V.ref T1, V.ref T2]) hT
    generalize upd H' T (.tup [V.ref T1, V.ref T2]) = H3 at *
    have s3 := s.trans sT
    have h13 := s3 _ _ h1
    refine ⟨T1, us, rfl, (by cases b; exact .inr (sqT_of h13); exact .inl (sqL_of h13)), fun l1 hl1 => ?_⟩
    have sl1 := same_upd (o := .lst us) hl1
    have el1 : upd H3 l1 (.lst us) l1 = some (.lst us) := upd_same
    generalize upd H3 l1 (.lst us) = H4 at *
    refine ⟨T2, us2, rfl, .inr (sqT_of (sl1 _ _ (s3 _ _ h2))), fun l2 hl2 => ?_⟩
    have sl2 := same_upd (o := .lst us2) hl2
    have el2 : upd H4 l2 (.lst us2) l2 = some (.lst us2) := upd_same
    generalize upd H4 l2 (.lst us2) = H5 at *
    have wq := w1 qs (List.mem_of_getElem? hqs)
    have wr := w2 rs (List.mem_of_getElem? hrs)
    refine ⟨l1, l2, us, us2, rfl, rfl, sl2 _ _ el1, el2, by rw [r1.1, r2.1]; exact Nat.le_trans (show qs.length + rs.length ≤ 25 by omega) (by decide), fun p hp => ?_⟩
    have sp := same_upd (o := .lst (us ++ us2)) hp
    have s6 := ((sT.trans sl1).trans sl2).trans sp
    have ep : upd H5 p (.lst (us ++ us2)) p = some (.lst (us ++ us2)) := upd_same
    generalize upd H5 p (.lst (us ++ us2)) = H6 at *
    have hi := (List.getElem?_eq_some_iff.mp hx).1
    have hpD : p ≠ D := fun e => by
      have h5 := ((sT.trans sl1).trans sl2) _ _ hz
      rw [e, h5] at hp; cases hp
    refine ⟨zs, s6 _ _ hz, ?_, same_mutD (s.trans s6) hD, zs ++ [.ref p], ass ++ [qs ++ rs], upd_same, ?_, fun v hv => ?_, ?_⟩
    · rw [hAA.1, e, List.length_take]
      exact Nat.lt_of_le_of_lt (Nat.min_le_left _ _) (Nat.lt_of_lt_of_le (show i < 2 ^ 20 by rw [hR.1] at hi; omega) (by decide))
    · have up : ∀ (v : V) (q : List (Int × Int)), v ≠ .ref D → SeqP H6 g true v q → SeqP (upd H6 D (.lst (zs ++ [.ref p]))) g true v q := fun v q hv ⟨a, xs, e, h, r⟩ =>
        ⟨a, xs, e, by rw [upd_ne (fun e2 => hv (by rw [e, e2]))]; exact h, r.imp fun v q n => n.updL (s6 _ _ hz)⟩
      refine All2.push ⟨hAA.1, fun k v q a b => up v q (hne v (List.mem_of_getElem? a)) ((hAA.2 k v q a b).same s6)⟩ (up _ _ (fun e => hpD (by cases e; rfl)) ⟨p, us ++ us2, rfl, ep, ?_⟩)
      refine ⟨by simp [r1.1, r2.1], fun k v q a b => ?_⟩
      by_cases hk : k < us.length
      · rw [List.getElem?_append_left hk] at a
        rw [List.getElem?_append_left (by rw [← r1.1]; exact hk)] at b
        exact (r1.2 k v q a b).same (s.trans s6)
      · rw [List.getElem?_append_right (by omega)] at a
        rw [List.getElem?_append_right (by rw [← r1.1]; omega), ← r1.1] at b
        exact (r2.2 _ v q a b).same (s.trans s6)
    · rcases List.mem_append.mp hv with hv | hv
      · exact hne v hv
      · rw [List.mem_singleton.mp hv]
        exact fun e => hpD (by cases e; rfl)
    · rw [e, List.take_succ, List.getElem?_zipWith, hqs, hrs]; rfl
  · obtain ⟨s, zs, ass, hz, hAA, hne, e⟩ := p
    rw [hR.1, List.take_of_length_le (by simp; omega)] at e
    subst e
    exact hq (.ref D) H' s ⟨D, zs, rfl, hz, hAA⟩
theorem ok_beside {P : Program} {w : World} {K : PySem.W.Frag} {mg : Str → Option Value} {base : Heap} (T : Tx K mg) : Okk P w K mg base 1 "beside" ["one", "other"] (sp_beside K) := by
  have hf_list := T.n_list
  have hf_zip := T.n_zip
  obtain ⟨fd, F⟩ := T.f_beside
  refine ⟨fd, F.ok sc_beside (fun vs H Q E h => len_beside h) (fun cdv A outer s H vs Q E hr h => ⟨t_beside K, PSs.nox ?_, pure_beside K vs H Q E h⟩), F.bindsN (fun _ _ _ _ _ _ us hl => match us, hl with | [_, _], _ => rfl), T.g_beside, F.kp⟩
  exact (pss_one (ps_ret (pe_lc (own := [("row", 2), ("further", 3)]) (g := (gTup K 2 (gCons (gName 2) (gCons (gName 3) gNil)))) (tt := tYes) rfl sc_beside.nd (pi_zipX (by rfl) hf_zip (pa_cons (pv 0) (pa_cons (pv 1) pa_nil))) (blkOk_by (own := [("row", 2), ("further", 3)]) (N := ["one", "other", "row", "further"]) (sc := defScope s_beside) (by decide +kernel)) (fun _ _ _ _ _ => (pg_tup rfl (pgs_cons (pg_name (i := 2) sc_beside.nd rfl (by first | exact Or.inl rfl | exact Or.inr rfl)) (pgs_cons (pg_name (i := 3) sc_beside.nd rfl (by first | exact Or.inl rfl | exact Or.inr rfl)) pgs_nil)))) (fun _ _ _ _ _ => pts_nil) (fun _ _ _ _ _ => (pe_op op_cat (pe_callTy call_list_of (by rfl) hf_list (by decide +kernel) (pa_cons (pv 2) pa_nil)) (pe_callTy call_list_of (by rfl) hf_list (by decide +kernel) (pa_cons (pv 3) pa_nil)))))))
/-! ### find_lead -/
theorem sc_find_lead : FnScope ["rows", "top", "column", "i"] ["rows", "top", "column"] (defScope s_find_lead) := ⟨rfl, rfl, rfl, by decide +kernel, rfl, by decide +kernel, by decide +kernel⟩
def sp_find_lead (K : PySem.W.Frag) : Sp := fun vs H Q _ => ∃ (A : Addr) (xs : List V) (nss : List (List Int)) (t c : Nat), vs = [.ref A, .int (t : Int), .int (c : Int)] ∧ H A = some (.lst xs) ∧ All2 (ListI H) xs nss ∧ (∀ ns ∈ nss, c < ns.length) ∧ t ≤ nss.length ∧ nss.length < 2 ^ 40 ∧
  (∀ i, t ≤ i → i < nss.length → gI nss i c ≠ 0 → (∀ k, t ≤ k → k < i → gI nss k c = 0) → Q (.int (i : Int)) H) ∧ ((∀ i, t ≤ i → i < nss.length → gI nss i c = 0) → Q .non H)
theorem len_find_lead {K : PySem.W.Frag} {vs : List V} {H : Hp} {Q : VK} {E : XK} (h : sp_find_lead K vs H Q E) : vs.length = ["rows", "top", "column"].length := by
  obtain ⟨_, _, _, _, _, rfl, _⟩ := h
  rfl
def t_find_lead_f1_b (K : PySem.W.Frag) : TS := (tIfS (tTest (tOp rNe (tOp (rIxA K) (tOp (rIxA K) (tVar 0) (tVar 3)) (tVar 2)) (tC (.int 0)))) (tRet (tVar 3)) tNext)
def t_find_lead (K : PySem.W.Frag) : TS := (tSeq (tFor (iRng2 (tCons (tVar 1) (tCons (tCB (rLenU K) (tCons (tVar 0) tNil)) tNil))) (gName 3) (t_find_lead_f1_b K))
  (tRet (tC .non)))
theorem pure_find_lead (K : PySem.W.Frag) (vs : List V) (H : Hp) (Q : VK) (E : XK) (h : sp_find_lead K vs H Q E) : t_find_lead K { nx := fun _ H' => Q .non H', rt := Q } (start ["rows", "top", "column", "i"] vs) H := by
  obtain ⟨A, xs, nss, t, c, rfl, hA, hR, hc, ht, hl, hq1, hq0⟩ := h
  have hxl : xs.length = nss.length := hR.1
  unfold t_find_lead
  walk_at "z"
  refine lenL (sqL_of hA) ?_
  refine ⟨_, _, rfl, by omega, for_R (fun i σ H' => ∃ o, σ = [some (.ref A), some (.int (t : Int)), some (.int (c : Int)), o] ∧ H' = H ∧ ∀ k, t ≤ k → k < t + i → gI nss k c = 0) ⟨none, rfl, rfl, fun k a b => by omega⟩ (fun i σ H' hi h N hN => ?_) (fun σ H' h => ?_)⟩
  · obtain ⟨o, rfl, rfl, hz⟩ := h
    have hj : t + i < xs.length := by omega
    obtain ⟨ns, hns, a, ea, ha⟩ := hR.get (List.getElem?_eq_getElem hj)
    have hcn := hc ns (List.mem_of_getElem? hns)
    have eg : gI nss (t + i) c = ns.getD c 0 := by
      unfold gI Lin.gI
      rw [show nss.getD (t + i) [] = ns by rw [List.getD_eq_getElem?_getD, hns]; rfl]
    unfold t_find_lead_f1_b
    walk_at "z"
    rw [show (t : Int) + (i : Int) = ((t + i : Nat) : Int) by omega]
    refine ixL (sqL_of hA) (v := .ref a) (atN (by rw [List.getElem?_eq_getElem hj, ea])) ?_
    refine ixLI ha hcn ?_
    walk_at "z"
    by_cases h0 : ns.getD c 0 = 0
    · rw [if_neg (fun h => h h0)]
      refine hN _ _ ⟨_, rfl, rfl, fun k a b => ?_⟩
      by_cases e : k = t + i
      · rw [e, eg, h0]
      · exact hz k a (by omega)
    · rw [if_pos h0]
      exact hq1 (t + i) (by omega) (by omega) (by rw [eg]; exact h0) fun k a b => hz k a b
  · obtain ⟨o, rfl, rfl, hz⟩ := h
    walk_at "z"
    exact hq0 fun i a b => hz i a (by omega)
theorem ok_find_lead {P : Program} {w : World} {K : PySem.W.Frag} {mg : Str → Option Value} {base : Heap} (T : Tx K mg) : Okk P w K mg base 1 "find_lead" ["rows", "top", "column"] (sp_find_lead K) := by
  have hf_len := T.n_len
  have hf_range := T.n_range
  obtain ⟨fd, F⟩ := T.f_find_lead
  refine ⟨fd, F.ok sc_find_lead (fun vs H Q E h => len_find_lead h) (fun cdv A outer s H vs Q E hr h => ⟨t_find_lead K, PSs.nox ?_, pure_find_lead K vs H Q E h⟩), F.bindsN (fun _ _ _ _ _ _ us hl => match us, hl with | [_, _, _], _ => rfl), T.g_find_lead, F.kp⟩
  exact (pss_cons (ps_for PassesOwn.never rfl (pi_range2 rfl hf_range (pa_cons (pv 1) (pa_cons (pe_callB call_len_seq (by rfl) hf_len (by decide +kernel) (pa_cons (pv 0) pa_nil)) pa_nil))) (pg_name (i := 3) sc_find_lead.nd rfl (by first | exact Or.inl rfl | exact Or.inr rfl)) (pss_one (ps_if (pt_cmpR op_ne (pe_ix ix_lt (pe_ix ix_lt (pv 0) (pv 3) (fun _ _ => rfl)) (pv 2) (fun _ _ => rfl)) pe_int (nomark _)) (pss_one (ps_ret (pv 3))) pss_nil)))
      (pss_one (ps_ret pe_non)))
/-! ### is_below -/
theorem sc_is_below : FnScope ["value", "limit"] ["value", "limit"] (defScope s_is_below) := ⟨rfl, rfl, rfl, by decide +kernel, rfl, by decide +kernel, by decide +kernel⟩
def sp_is_below (K : PySem.W.Frag) : Sp := fun vs H Q _ => ∃ (v : V) (l : Int), vs = [v, .int l] ∧ Kn H v ∧ Q (.bl (belowB v l)) H
theorem len_is_below {K : PySem.W.Frag} {vs : List V} {H : Hp} {Q : VK} {E : XK} (h : sp_is_below K vs H Q E) : vs.length = ["value", "limit"].length := by
  obtain ⟨_, _, rfl, _⟩ := h
  rfl
def t_is_below (K : PySem.W.Frag) : TS := (tRet (tAndV (tCall (sp_is_int K) [] E0 (tCons (tVar 0) tNil)) (tOrV (tIsN (tVar 1)) (tChain rLtI rLtI (tUn rNeg (tVar 1)) (tVar 0) (tVar 1)))))
theorem pure_is_below (K : PySem.W.Frag) (vs : List V) (H : Hp) (Q : VK) (E : XK) (h : sp_is_below K vs H Q E) : t_is_below K { nx := fun _ H' => Q .non H', rt := Q } (start ["value", "limit"] vs) H := by
  obtain ⟨v, l, rfl, hk, hq⟩ := h
  unfold t_is_below
  walk_at "z"
  refine ⟨v, rfl, hk, ?_⟩
  walk_at "z"
  cases v with
  | int i =>
    simp only [isI, if_true]
    walk_at "z"
    unfold belowB at hq
    by_cases h1 : -l < i
    · rw [if_pos h1]
      simpa [h1] using hq
    · rw [if_neg h1]
      simpa [h1] using hq
  | _ =>
    simp only [isI, Bool.false_eq_true, if_false]
    exact hq
theorem ok_is_below {P : Program} {w : World} {K : PySem.W.Frag} {mg : Str → Option Value} {base : Heap} (T : Tx K mg) : Okk P w K mg base 2 "is_below" ["value", "limit"] (sp_is_below K) := by
  obtain ⟨fd_is_int, F_is_int, b_is_int, g_is_int, k_is_int⟩ := ok_is_int (P := P) (w := w) (base := base) T
  obtain ⟨fd, F⟩ := T.f_is_below
  refine ⟨fd, F.ok sc_is_below (fun vs H Q E h => len_is_below h) (fun cdv A outer s H vs Q E hr h => ⟨t_is_below K, PSs.nox ?_, pure_is_below K vs H Q E h⟩), F.bindsN (fun _ _ _ _ _ _ us hl => match us, hl with | [_, _], _ => rfl), T.g_is_below, F.kp⟩
  exact (pss_one (ps_ret (pe_and (pe_call F_is_int (hr.mono (by decide)) rfl g_is_int k_is_int b_is_int .nil pass0 (pa_cons (pv 0) pa_nil)) (pe_one (pe_or (pe_cmp (pc_isN (pv 1))) (pe_one (pe_chain op_lt op_lt (pe_un un_neg (pv 1)) (pv 0) (pv 1))))))))
/-! ### is_between -/
theorem sc_is_between : FnScope ["value", "low", "high"] ["value", "low", "high"] (defScope s_is_between) := ⟨rfl, rfl, rfl, by decide +kernel, rfl, by decide +kernel, by decide +kernel⟩
def betwB (v : V) (lo hi : Int) : Bool := match v with
  | .int i => decide (lo ≤ i ∧ i ≤ hi)
  | _ => false
def sp_is_between (K : PySem.W.Frag) : Sp := fun vs H Q _ => ∃ (v : V) (lo hi : Int), vs = [v, .int lo, .int hi] ∧ Kn H v ∧ Q (.bl (betwB v lo hi)) H
theorem len_is_between {K : PySem.W.Frag} {vs : List V} {H : Hp} {Q : VK} {E : XK} (h : sp_is_between K vs H Q E) : vs.length = ["value", "low", "high"].length := by
  obtain ⟨_, _, _, rfl, _⟩ := h
  rfl
def t_is_between (K : PySem.W.Frag) : TS := (tRet (tAndV (tCall (sp_is_int K) [] E0 (tCons (tVar 0) tNil)) (tAndV (tOp rGeI (tVar 0) (tVar 1)) (tOrV (tIsN (tVar 2)) (tOp rLeI (tVar 0) (tVar 2))))))
theorem pure_is_between (K : PySem.W.Frag) (vs : List V) (H : Hp) (Q : VK) (E : XK) (h : sp_is_between K vs H Q E) : t_is_between K { nx := fun _ H' => Q .non H', rt := Q } (start ["value", "low", "high"] vs) H := by
  obtain ⟨v, lo, hi, rfl, hk, hq⟩ := h
  unfold t_is_between
  walk_at "z"
  refine ⟨v, rfl, hk, ?_⟩
  walk_at "z"
  cases v with
  | int i =>
    simp only [isI, if_true]
    walk_at "z"
    unfold betwB at hq
    by_cases h1 : lo ≤ i
    · rw [if_pos h1]
      simpa [h1] using hq
    · rw [if_neg h1]
      simpa [h1] using hq
  | _ =>
    simp only [isI, Bool.false_eq_true, if_false]
    exact hq
theorem ok_is_between {P : Program} {w : World} {K : PySem.W.Frag} {mg : Str → Option Value} {base : Heap} (T : Tx K mg) : Okk P w K mg base 2 "is_between" ["value", "low", "high"] (sp_is_between K) := by
  obtain ⟨fd_is_int, F_is_int, b_is_int, g_is_int, k_is_int⟩ := ok_is_int (P := P) (w := w) (base := base) T
  obtain ⟨fd, F⟩ := T.f_is_between
  refine ⟨fd, F.ok sc_is_between (fun vs H Q E h => len_is_between h) (fun cdv A outer s H vs Q E hr h => ⟨t_is_between K, PSs.nox ?_, pure_is_between K vs H Q E h⟩), F.bindsN (fun _ _ _ _ _ _ us hl => match us, hl with | [_, _, _], _ => rfl), T.g_is_between, F.kp⟩
  exact (pss_one (ps_ret (pe_and (pe_call F_is_int (hr.mono (by decide)) rfl g_is_int k_is_int b_is_int .nil pass0 (pa_cons (pv 0) pa_nil)) (pe_and (pe_cmpR op_ge (pv 0) (pv 1) (nomark _)) (pe_one (pe_or (pe_cmp (pc_isN (pv 2))) (pe_one (pe_cmpR op_le (pv 0) (pv 2) (nomark _)))))))))
/-! ### undone_modulo -/
theorem sc_undone_modulo : FnScope ["number", "modulus"] ["number", "modulus"] (defScope s_undone_modulo) := ⟨rfl, rfl, rfl, by decide +kernel, rfl, by decide +kernel, by decide +kernel⟩
def sp_undone_modulo (K : PySem.W.Frag) : Sp := fun vs H Q _ => ∃ a m : Int, vs = [.int a, .int m] ∧ 0 < m ∧ Sz 8000 m ∧ ∀ u H', Same H H' → 0 ≤ u → u < m → (a * u) % m = ((Nat.gcd (a % m).natAbs m.natAbs : Nat) : Int) % m → Q (.int u) H'
theorem len_undone_modulo {K : PySem.W.Frag} {vs : List V} {H : Hp} {Q : VK} {E : XK} (h : sp_undone_modulo K vs H Q E) : vs.length = ["number", "modulus"].length := by
  obtain ⟨_, _, rfl, _⟩ := h
  rfl
def t_undone_modulo (K : PySem.W.Frag) : TS := (tRet (tOp rModU (tOp (rIxA K) (tCall (sp_bezout K) [] E0 (tCons (tOp rModU (tVar 0) (tVar 1)) (tCons (tVar 1) tNil))) (tC (.int 1))) (tVar 1)))
theorem pure_undone_modulo (K : PySem.W.Frag) (vs : List V) (H : Hp) (Q : VK) (E : XK) (h : sp_undone_modulo K vs H Q E) : t_undone_modulo K { nx := fun _ H' => Q .non H', rt := Q } (start ["number", "modulus"] vs) H := by
  obtain ⟨a, m, rfl, hm, sm, hq⟩ := h
  unfold t_undone_modulo
  walk_at "z"
  have h0 : 0 ≤ a % m := Int.emod_nonneg _ (by omega)
  have h1 : a % m < m := Int.emod_lt_of_pos _ hm
  refine ⟨hm, a % m, m, rfl, h0, by omega, sz_le sm (by omega), sm, fun p u v H' s e su hp => ?_⟩
  refine ixT (sqT_of hp) (v := .int u) rfl ?_
  walk_at "z"
  refine ⟨hm, hq _ _ s (Int.emod_nonneg _ (by omega)) (Int.emod_lt_of_pos _ hm) ?_⟩
  rw [← e, Int.mul_emod, emod_emod', ← Int.mul_emod, Int.add_mul_emod_self_left, Int.mul_emod (a % m), emod_emod', ← Int.mul_emod]
theorem ok_undone_modulo {P : Program} {w : World} {K : PySem.W.Frag} {mg : Str → Option Value} {base : Heap} (T : Tx K mg) : Okk P w K mg base 2 "undone_modulo" ["number", "modulus"] (sp_undone_modulo K) := by
  obtain ⟨fd_bezout, F_bezout, b_bezout, g_bezout, k_bezout⟩ := ok_bezout (P := P) (w := w) (base := base) T
  obtain ⟨fd, F⟩ := T.f_undone_modulo
  refine ⟨fd, F.ok sc_undone_modulo (fun vs H Q E h => len_undone_modulo h) (fun cdv A outer s H vs Q E hr h => ⟨t_undone_modulo K, PSs.nox ?_, pure_undone_modulo K vs H Q E h⟩), F.bindsN (fun _ _ _ _ _ _ us hl => match us, hl with | [_, _], _ => rfl), T.g_undone_modulo, F.kp⟩
  exact (pss_one (ps_ret (pe_op op_mod (pe_ix ix_lt (pe_call F_bezout (hr.mono (by decide)) rfl g_bezout k_bezout b_bezout .nil pass0 (pa_cons (pe_op op_mod (pv 0) (pv 1)) (pa_cons (pv 1) pa_nil))) pe_int (fun _ _ => rfl)) (pv 1))))
/-! ### whole_row -/
theorem sc_whole_row : FnScope ["ground", "numbers", "bottom", "number"] ["ground", "numbers"] (defScope s_whole_row) := ⟨rfl, rfl, rfl, by decide +kernel, rfl, by decide +kernel, by decide +kernel⟩
def sp_whole_row (K : PySem.W.Frag) : Sp := fun vs H Q _ => ∃ (g : Int) (T : Addr) (xs : List V) (qs : List (Int × Int)) (b : Bool), vs = [.int g, .ref T] ∧ H T = some (if b then .lst xs else .tup xs) ∧ All2 (fun v q => NumR H g v q.1 q.2) xs qs ∧ qs.length < 2 ^ 22 ∧
  Sz 8000 (prI (qs.map (·.2))) ∧ (∀ q ∈ qs, Sz 8000 q.1) ∧
  ∀ p L B H', H L = none → Same H H' → H' p = some (.tup [.ref L, .int B]) → H' L = some (.lst ((qs.map fun q => q.1 * (B / q.2)).map V.int)) → 1 ≤ B → (∀ q ∈ qs, q.2 ∣ B) → B ≤ prI (qs.map (·.2)) → Q (.ref p) H'
theorem len_whole_row {K : PySem.W.Frag} {vs : List V} {H : Hp} {Q : VK} {E : XK} (h : sp_whole_row K vs H Q E) : vs.length = ["ground", "numbers"].length := by
  obtain ⟨_, _, _, _, _, rfl, _⟩ := h
  rfl
def t_whole_row (K : PySem.W.Frag) : TS := (tSeq (tAsg (tCall (sp_common_multiple K) [] E0 (tCons (tLc (iSeqB K (tVar 1)) (gName 3) tYes (tCall (sp_bottom_of K) [] E0 (tCons (tVar 0) (tCons (tVar 3) tNil))) [3]) tNil)) (gName 2))
  (tRet (tTup (tCons (tLc (iSeqB K (tVar 1)) (gName 3) tYes (tOp rMulU (tCall (sp_top_of K) [] E0 (tCons (tVar 0) (tCons (tVar 3) tNil))) (tOp rDivU (tVar 2) (tCall (sp_bottom_of K) [] E0 (tCons (tVar 0) (tCons (tVar 3) tNil))))) [3]) (tCons (tVar 2) tNil)))))
theorem pure_whole_row (K : PySem.W.Frag) (vs : List V) (H : Hp) (Q : VK) (E : XK) (h : sp_whole_row K vs H Q E) : t_whole_row K { nx := fun _ H' => Q .non H', rt := Q } (start ["ground", "numbers", "bottom", "number"] vs) H := by
  obtain ⟨g, T, xs, qs, b, rfl, hT, hA, hl, hs, hs1, hq⟩ := h
  have hxl : xs.length = qs.length := hA.1
  have hb1 : ∀ n ∈ qs.map (·.2), 1 ≤ n := fun n hn => by
    obtain ⟨q, hq, rfl⟩ := List.mem_map.mp hn
    obtain ⟨i, hi⟩ := List.mem_iff_getElem?.mp hq
    have hlt := (List.getElem?_eq_some_iff.mp hi).1
    rcases hA.2 i _ q (List.getElem?_eq_getElem (by omega)) hi with ⟨_, _, h, _⟩ | ⟨_, _, h, _⟩ <;> omega
  unfold t_whole_row
  walk_at "z"
  refine ⟨T, b, rfl, ⟨_, sqB_same hT⟩, comp_BF hT (fun i => (qs[i]?).map fun q => V.int q.2) (by omega) (fun i x H' hx s Qo hQo => ?_) (fun L H1 _ s1 hL => ?_)⟩
  · obtain ⟨q, hq', hr⟩ := hA.get hx
    walk_at "z"
    refine ⟨g, x, q.1, q.2, rfl, hr.same s, ?_⟩
    have := hQo H' (Same.refl _)
    rw [hq'] at this
    exact this
  · rw [outL_get qs _ hxl] at hL
    refine ⟨L, qs.map (·.2), rfl, sqL_of (by rw [hL, List.map_map]; rfl), hb1, hs, fun B hB hd hle => ?_⟩
    have szB : Sz 8000 B := sz_le hs (by omega)
    refine ⟨T, b, rfl, ⟨_, sqB_same (s1 _ _ hT)⟩, comp_BF (s1 _ _ hT) (fun i => (qs[i]?).map fun q => V.int (q.1 * (B / q.2))) (by omega) (fun i x H' hx s Qo hQo => ?_) (fun L2 H2 hLn s2 hL2 => ?_)⟩
    · obtain ⟨q, hq', hr⟩ := hA.get hx
      have hm := List.mem_of_getElem? hq'
      have hq2 := hb1 q.2 (List.mem_map_of_mem (f := fun q : Int × Int => q.2) hm)
      have hdq := hd q.2 (List.mem_map_of_mem (f := fun q : Int × Int => q.2) hm)
      have leq : q.2 ≤ B := Int.le_of_dvd (by omega) hdq
      walk_at "z"
      refine ⟨g, x, q.1, q.2, rfl, (hr.same s1).same s, ?_⟩
      refine ⟨g, x, q.1, q.2, rfl, (hr.same s1).same s, ?_⟩
      walk_at "z"
      refine ⟨wide_div (b := 8000) (by omega) (Nat.lt_of_le_of_lt (by omega) szB) (by decide) (by decide), ?_⟩
      have szd : Sz 8000 (B / q.2) := sz_le szB (by
        have h1 := Int.ediv_nonneg (show 0 ≤ B by omega) (show 0 ≤ q.2 by omega)
        have h2 := Int.ediv_le_self q.2 (show 0 ≤ B by omega)
        omega)
      refine ⟨mulW (hs1 q hm) szd (by decide) (by decide) (by decide), ?_⟩
      have := hQo H' (Same.refl _)
      rw [hq'] at this
      exact this
    · rw [outL_get qs _ hxl] at hL2
      refine ⟨by decide, fun p hp => ?_⟩
      refine hq p L2 B _ (none_back s1 hLn) ((s1.trans s2).trans (same_upd hp)) upd_same (same_upd hp _ _ (by rw [hL2, List.map_map]; rfl)) hB (fun q hm => hd _ (List.mem_map_of_mem (f := fun q : Int × Int => q.2) hm)) hle
theorem ok_whole_row {P : Program} {w : World} {K : PySem.W.Frag} {mg : Str → Option Value} {base : Heap} (T : Tx K mg) : Okk P w K mg base 2 "whole_row" ["ground", "numbers"] (sp_whole_row K) := by
  obtain ⟨fd_common_multiple, F_common_multiple, b_common_multiple, g_common_multiple, k_common_multiple⟩ := ok_common_multiple (P := P) (w := w) (base := base) T
  obtain ⟨fd_top_of, F_top_of, b_top_of, g_top_of, k_top_of⟩ := ok_top_of (P := P) (w := w) (base := base) T
  obtain ⟨fd_bottom_of, F_bottom_of, b_bottom_of, g_bottom_of, k_bottom_of⟩ := ok_bottom_of (P := P) (w := w) (base := base) T
  obtain ⟨fd, F⟩ := T.f_whole_row
  refine ⟨fd, F.ok sc_whole_row (fun vs H Q E h => len_whole_row h) (fun cdv A outer s H vs Q E hr h => ⟨t_whole_row K, PSs.nox ?_, pure_whole_row K vs H Q E h⟩), F.bindsN (fun _ _ _ _ _ _ us hl => match us, hl with | [_, _], _ => rfl), T.g_whole_row, F.kp⟩
  exact (pss_cons (ps_set (i := 2) sc_whole_row.nd rfl (by first | exact Or.inl rfl | exact Or.inr rfl) (pe_call F_common_multiple (hr.mono (by decide)) rfl g_common_multiple k_common_multiple b_common_multiple .nil pass0 (pa_cons (pe_lc (own := [("number", 3)]) (g := (gName 3)) (tt := tYes) rfl sc_whole_row.nd (pi_seqB (pv 1)) (blkOk_by (own := [("number", 3)]) (N := ["ground", "numbers", "bottom", "number"]) (sc := defScope s_whole_row) (by decide +kernel)) (fun _ _ _ _ _ => (pg_name (i := 3) sc_whole_row.nd rfl (by first | exact Or.inl rfl | exact Or.inr rfl))) (fun _ _ _ _ _ => pts_nil) (fun _ _ _ _ _ => (pe_call F_bottom_of (hr.mono (by decide)) rfl g_bottom_of k_bottom_of b_bottom_of .nil pass0 (pa_cons (pv 0) (pa_cons (pv 3) pa_nil))))) pa_nil)))
      (pss_one (ps_ret (pe_tup (pa_cons (pe_lc (own := [("number", 3)]) (g := (gName 3)) (tt := tYes) rfl sc_whole_row.nd (pi_seqB (pv 1)) (blkOk_by (own := [("number", 3)]) (N := ["ground", "numbers", "bottom", "number"]) (sc := defScope s_whole_row) (by decide +kernel)) (fun _ _ _ _ _ => (pg_name (i := 3) sc_whole_row.nd rfl (by first | exact Or.inl rfl | exact Or.inr rfl))) (fun _ _ _ _ _ => pts_nil) (fun _ _ _ _ _ => (pe_op op_mulU (pe_call F_top_of (hr.mono (by decide)) rfl g_top_of k_top_of b_top_of .nil pass0 (pa_cons (pv 0) (pa_cons (pv 3) pa_nil))) (pe_op op_fdivW (pv 2) (pe_call F_bottom_of (hr.mono (by decide)) rfl g_bottom_of k_bottom_of b_bottom_of .nil pass0 (pa_cons (pv 0) (pa_cons (pv 3) pa_nil))))))) (pa_cons (pv 2) pa_nil))))))
/-! ### check_between -/
theorem sc_check_between : FnScope ["number", "low", "high"] ["number", "low", "high"] (defScope s_check_between) := ⟨rfl, rfl, rfl, by decide +kernel, rfl, by decide +kernel, by decide +kernel⟩
def sp_check_between (K : PySem.W.Frag) : Sp := fun vs H Q E => ∃ (v : V) (d : PyData) (lo hi : Int) (no : List Addr), vs = [v, .int lo, .int hi] ∧ Pl H no d v ∧ ((∃ n, v = .int n ∧ lo ≤ n ∧ n ≤ hi ∧ Q .non H) ∨ ((∀ n, v = .int n → n < lo ∨ hi < n) ∧ RaiseF K E H "InvalidNumber" "given" v))
theorem len_check_between {K : PySem.W.Frag} {vs : List V} {H : Hp} {Q : VK} {E : XK} (h : sp_check_between K vs H Q E) : vs.length = ["number", "low", "high"].length := by
  obtain ⟨_, _, _, _, _, rfl, _⟩ := h
  rfl
def t_check_between (K : PySem.W.Frag) (E : XK) : TS := (tIfS (tOr (tNot (tB (tCall (sp_is_int K) [] E0 (tCons (tVar 0) tNil)))) (tOr (tTest (tOp rLtI (tVar 0) (tVar 1))) (tTest (tOp rGtI (tVar 0) (tVar 2))))) (tRaise1 "given" (He.ga K "InvalidNumber") (fun cls d _ H => E cls d H) (tCons (tVar 0) tNil)) tNext)
theorem pure_check_between (K : PySem.W.Frag) (vs : List V) (H : Hp) (Q : VK) (E : XK) (h : sp_check_between K vs H Q E) : t_check_between K E { nx := fun _ H' => Q .non H', rt := Q } (start ["number", "low", "high"] vs) H := by
  obtain ⟨v, d, lo, hi, no, rfl, p, h⟩ := h
  unfold t_check_between
  walk_at "z"
  refine ⟨v, rfl, p.kn, ?_⟩
  walk_at "z"
  cases hi2 : isI v with
  | false =>
    rcases h with ⟨n, rfl, _⟩ | ⟨_, h⟩
    · simp [isI] at hi2
    · refine ⟨v, rfl, fun dd hd => h H dd (Same.refl _) hd⟩
  | true =>
    obtain ⟨n, rfl⟩ : ∃ n, v = .int n := by
      cases v <;> first | exact ⟨_, rfl⟩ | simp [isI] at hi2
    rw [if_neg (by decide)]
    walk_at "z"
    rcases h with ⟨m, e, h1, h2, h3⟩ | ⟨h1, h⟩
    · cases e
      rw [if_neg (by omega), if_neg (by omega)]
      exact h3
    · by_cases c : n < lo
      · rw [if_pos c]
        exact ⟨_, rfl, fun dd hd => h H dd (Same.refl _) hd⟩
      · rw [if_neg c]
        rw [if_pos (by have := h1 n rfl; omega)]
        exact ⟨_, rfl, fun dd hd => h H dd (Same.refl _) hd⟩
theorem ok_check_between {P : Program} {w : World} {K : PySem.W.Frag} {mg : Str → Option Value} {base : Heap} (T : Tx K mg) : OkkX P w K mg base 2 "check_between" ["number", "low", "high"] (sp_check_between K) := by
  obtain ⟨fd_is_int, F_is_int, b_is_int, g_is_int, k_is_int⟩ := ok_is_int (P := P) (w := w) (base := base) T
  obtain ⟨fd, F⟩ := T.f_check_between
  refine ⟨fd, F.ok sc_check_between (fun vs H Q E h => len_check_between h) (fun cdv A outer s H vs Q E hr h => ⟨t_check_between K E, ?_, pure_check_between K vs H Q E h⟩), F.bindsN (fun _ _ _ _ _ _ us hl => match us, hl with | [_, _, _], _ => rfl), T.g_check_between, F.kp⟩
  exact (pss_one (ps_if (PW.pt (pw_or (pt_not (pt_val (pe_call F_is_int (hr.mono (by decide)) rfl g_is_int k_is_int b_is_int .nil pass0 (pa_cons (pv 0) pa_nil)))) (pw_or (pt_cmpR op_lt (pv 0) (pv 1) (nomark _)) (pw_or1 (pt_cmpR op_gt (pv 0) (pv 2) (nomark _)))))) (pss_one (ps_raise1 PySem.F.excBase_IndexError PySem.F.store_IndexError PySem.ZExc.fnOk_given rfl T.x_InvalidNumber hr (takes_of rfl rfl rfl rfl) (pa_cons (pv 0) pa_nil) rfl (by decide))) pss_nil))
/-! ### rows_fit -/
theorem sc_rows_fit : FnScope ["value", "most_rows", "most_columns", "row"] ["value", "most_rows", "most_columns"] (defScope s_rows_fit) := ⟨rfl, rfl, rfl, by decide +kernel, rfl, by decide +kernel, by decide +kernel⟩
def sp_rows_fit (K : PySem.W.Frag) : Sp := fun vs H Q _ => ∃ (v : V) (d : PyData) (mr mc : Int) (no : List Addr), vs = [v, .int mr, .int mc] ∧ Pl H no d v ∧ mr ≤ 12 ∧ ∀ H', Same H H' → Q (.bl (rowsB mr mc d)) H'
theorem len_rows_fit {K : PySem.W.Frag} {vs : List V} {H : Hp} {Q : VK} {E : XK} (h : sp_rows_fit K vs H Q E) : vs.length = ["value", "most_rows", "most_columns"].length := by
  obtain ⟨_, _, _, _, _, rfl, _⟩ := h
  rfl
def t_rows_fit (K : PySem.W.Frag) : TS := (tSeq (tIfS (tOr (tNot (tB (tCall (sp_length_fits K) [] E0 (tCons (tVar 0) (tCons (tVar 1) tNil))))) (tNot (tB (tCB (rAll K) (tCons (tLc (iTup K (tVar 0)) (gName 3) tYes (tCall (sp_length_fits K) [] E0 (tCons (tVar 3) (tCons (tVar 2) tNil))) [3]) tNil))))) (tRet (tC (.bl false))) tNext)
  (tRet (tOp rEq (tLenSc (iTup K (tVar 0)) (gName 3) tYes (tCB (rLenU K) (tCons (tVar 3) tNil)) [3]) (tC (.int 1)))))
theorem lenB_tup {m : Int} {d : PyData} (h : lenB m d = true) : ∃ ds, d = .tuple ds ∧ 1 ≤ ds.length ∧ (ds.length : Int) ≤ m := by
  cases d with
  | tuple ds =>
    rw [lenB_t] at h
    rw [decide_eq_true_eq] at h
    exact ⟨ds, rfl, h⟩
  | _ => simp [lenB] at h
theorem all_bl (f : PyData → Bool) (ds : List PyData) : outL (fun i => (ds[i]?).map fun d => V.bl (f d)) ds.length = (ds.map f).map V.bl := by
  rw [outL_map]
  simp [List.map_map, Function.comp_def]
theorem pure_rows_fit (K : PySem.W.Frag) (vs : List V) (H : Hp) (Q : VK) (E : XK) (h : sp_rows_fit K vs H Q E) : t_rows_fit K { nx := fun _ H' => Q .non H', rt := Q } (start ["value", "most_rows", "most_columns", "row"] vs) H := by
  obtain ⟨v, d, mr, mc, no, rfl, p, hm, hq⟩ := h
  unfold t_rows_fit
  walk_at "z"
  refine ⟨v, d, mr, no, rfl, p, ?_⟩
  dsimp only
  refine ⟨_, rfl, ?_⟩
  cases hl : lenB mr d with
  | false =>
    have e : rowsB mr mc d = false := by
      cases d with
      | tuple ds => rw [rowsB_t]; rw [hl]; rfl
      | _ => rfl
    have := hq H (Same.refl H)
    rw [e] at this
    simpa using this
  | true =>
    rw [if_neg (by decide)]
    obtain ⟨ds, rfl, l1, l2⟩ := lenB_tup hl
    obtain ⟨a, xs, rfl, hT, hA⟩ := pl_tup p
    refine ⟨a, rfl, ⟨_, sqT_of hT⟩, comp_T (sqT_of hT) (fun i => (ds[i]?).map fun d => .bl (lenB mc d)) (by rw [hA.1]; omega) (fun i x H' hx s Qo hQo => ?_) (fun D H' s hD => ?_)⟩
    · obtain ⟨e, he, pe⟩ := hA.get hx
      walk_at "z"
      have := hQo H' (Same.refl _)
      rw [he] at this
      exact ⟨x, e, mc, no, rfl, pe.same s, this⟩
    · rw [hA.1, all_bl] at hD
      refine ⟨D, _, rfl, sqL_of hD, ?_⟩
      dsimp only
      refine ⟨_, rfl, ?_⟩
      rw [List.all_map]
      cases ha : ds.all (id ∘ lenB mc) with
      | false =>
        have e : rowsB mr mc (.tuple ds) = false := by
          rw [rowsB_t]
          rw [hl, show ds.all (lenB mc) = false from ha]; rfl
        have := hq H' s
        rw [e] at this
        simpa using this
      | true =>
        rw [if_neg (by decide)]
        have ha : ds.all (lenB mc) = true := ha
        walk_at "z"
        have tl : ∀ {i : Nat} {x : V} {e : PyData}, xs[i]? = some x → ds[i]? = some e → ∃ b ys, x = .ref b ∧ H b = some (.tup ys) ∧ ys.length = dlen e := fun {i x e} hx he => by
          have pe := hA.2 i _ _ hx he
          rw [List.all_eq_true] at ha
          obtain ⟨es, rfl, _⟩ := lenB_tup (ha e (List.mem_of_getElem? he))
          obtain ⟨b, ys, rfl, hb, hB⟩ := pl_tup pe
          exact ⟨b, ys, rfl, hb, hB.1⟩
        refine ⟨a, rfl, ⟨_, sqT_of (s _ _ hT)⟩, len_any (c := fun i => (dlen (ds.getD i .none) : Int)) (s _ _ hT) (by rw [hA.1]; exact l1) (by rw [hA.1]; omega) (fun i x H2 hx s2 Qo N hQo => ?_) (fun n H2 s2 hn => ?_)⟩
        · obtain ⟨e, he, _⟩ := hA.get hx
          obtain ⟨b, ys, rfl, hb, hl2⟩ := tl hx he
          walk_at "z"
          refine lenT (sqT_of (s2 _ _ (s _ _ hb))) ?_
          rw [hl2]
          rw [List.getD_eq_getElem?_getD, he] at hQo
          exact hQo
        · walk_at "z"
          have := hq H2 (s.trans s2)
          have e : rowsB mr mc (.tuple ds) = decide ((n : Int) = 1) := by
            rw [rowsB_t]
            rw [hl, ha, Bool.true_and, Bool.true_and, Bool.eq_iff_iff, decide_eq_true_eq, List.all_eq_true]
            constructor
            · intro h9
              have : n = 1 := hn.2 fun i hi => by
                rw [hA.1] at hi
                have := of_decide_eq_true (h9 _ (List.getElem_mem hi))
                rw [List.getD_eq_getElem?_getD, List.getElem?_eq_getElem hi]
                show ((dlen ds[i] : Nat) : Int) = _
                rw [this]
              omega
            · intro h9 d hd
              obtain ⟨i, hi⟩ := List.mem_iff_getElem?.mp hd
              have hlt := (List.getElem?_eq_some_iff.mp hi).1
              have := hn.1 (by omega) i (by rw [hA.1]; exact hlt)
              simp only [List.getD_eq_getElem?_getD, hi] at this
              rw [decide_eq_true_eq]
              have h0 : ((dlen d : Nat) : Int) = dlen (ds.getD 0 .none) := by
                rw [List.getD_eq_getElem?_getD]; exact this
              omega
          rw [e] at this
          exact this
theorem ok_rows_fit {P : Program} {w : World} {K : PySem.W.Frag} {mg : Str → Option Value} {base : Heap} (T : Tx K mg) : Okk P w K mg base 2 "rows_fit" ["value", "most_rows", "most_columns"] (sp_rows_fit K) := by
  obtain ⟨fd_length_fits, F_length_fits, b_length_fits, g_length_fits, k_length_fits⟩ := ok_length_fits (P := P) (w := w) (base := base) T
  have hf_all := T.n_all
  have hf_len := T.n_len
  obtain ⟨fd, F⟩ := T.f_rows_fit
  refine ⟨fd, F.ok sc_rows_fit (fun vs H Q E h => len_rows_fit h) (fun cdv A outer s H vs Q E hr h => ⟨t_rows_fit K, PSs.nox ?_, pure_rows_fit K vs H Q E h⟩), F.bindsN (fun _ _ _ _ _ _ us hl => match us, hl with | [_, _, _], _ => rfl), T.g_rows_fit, F.kp⟩
  exact (pss_cons (ps_if (PW.pt (pw_or (pt_not (pt_val (pe_call F_length_fits (hr.mono (by decide)) rfl g_length_fits k_length_fits b_length_fits .nil pass0 (pa_cons (pv 0) (pa_cons (pv 1) pa_nil))))) (pw_or1 (pt_not (pt_val (pe_callB (cr_all rfl) (by rfl) hf_all (by decide +kernel) (pa_cons (pe_lc (own := [("row", 3)]) (g := (gName 3)) (tt := tYes) rfl sc_rows_fit.nd (pi_tup (pv 0)) (blkOk_by (own := [("row", 3)]) (N := ["value", "most_rows", "most_columns", "row"]) (sc := defScope s_rows_fit) (by decide +kernel)) (fun _ _ _ _ _ => (pg_name (i := 3) sc_rows_fit.nd rfl (by first | exact Or.inl rfl | exact Or.inr rfl))) (fun _ _ _ _ _ => pts_nil) (fun _ _ _ _ _ => (pe_call F_length_fits (hr.mono (by decide)) rfl g_length_fits k_length_fits b_length_fits .nil pass0 (pa_cons (pv 3) (pa_cons (pv 2) pa_nil))))) pa_nil))))))) (pss_one (ps_ret pe_bl)) pss_nil)
      (pss_one (ps_ret (pe_cmpR op_eq (pe_lenSc rfl hf_len (by decide +kernel) (own := [("row", 3)]) (g := (gName 3)) (tt := tYes) rfl sc_rows_fit.nd (pi_tup (pv 0)) (blkOk_by (own := [("row", 3)]) (N := ["value", "most_rows", "most_columns", "row"]) (sc := defScope s_rows_fit) (by decide +kernel)) (fun _ _ _ _ _ => (pg_name (i := 3) sc_rows_fit.nd rfl (by first | exact Or.inl rfl | exact Or.inr rfl))) (fun _ _ _ _ _ => pts_nil) (fun _ _ _ _ _ => (pe_callB call_len_seq (by rfl) hf_len (by decide +kernel) (pa_cons (pv 3) pa_nil)))) pe_int (nomark _)))))
/-! ### unit_rows -/
theorem sc_unit_rows : FnScope ["ground", "size", "one", "zero", "j", "i"] ["ground", "size"] (defScope s_unit_rows) := ⟨rfl, rfl, rfl, by decide +kernel, rfl, by decide +kernel, by decide +kernel⟩
theorem numOf {K : PySem.W.Frag} {g : Nat} {n : Int} {H : Hp} {Q : VK} {E : XK} (hg : GroundV (.int (g : Int))) (hn : n = 0 ∨ n = 1) (q : ∀ v H', Same H H' → NumR H' g v n 1 → Q v H') : sp_number_of K [.int (g : Int), .int n] H Q E := by
  have g9 := ground_le hg
  refine ⟨_, _, rfl, g9.1, fun g0 p hp => q _ _ (same_upd hp) (.inl ⟨g0, ⟨p, rfl, upd_same⟩, by omega, by rcases hn with rfl | rfl <;> rfl⟩), fun g0 => ?_⟩
  have g2 : 2 ≤ (g : Int) := by
    obtain ⟨m, e, _, _, h | h⟩ := hg
    · cases e; omega
    · cases e; exact h.1
  rw [Int.emod_eq_of_lt (by omega) (by omega)]
  exact q _ _ (Same.refl _) (.inr ⟨g0, rfl, rfl, by omega, by omega⟩)
def sp_unit_rows (K : PySem.W.Frag) : Sp := fun vs H Q _ => ∃ (g : Nat) (n : Nat) (_ : GroundV (.int (g : Int))), vs = [.int (g : Int), .int (n : Int)] ∧ n ≤ 12 ∧ ∀ z H', Same H H' → TabN H' g z (unitQ n) → Q z H'
theorem len_unit_rows {K : PySem.W.Frag} {vs : List V} {H : Hp} {Q : VK} {E : XK} (h : sp_unit_rows K vs H Q E) : vs.length = ["ground", "size"].length := by
  obtain ⟨_, _, _, rfl, _⟩ := h
  rfl
def t_unit_rows (K : PySem.W.Frag) : TS := (tSeq (tAsg (tTup (tCons (tCall (sp_number_of K) [] E0 (tCons (tVar 0) (tCons (tC (.int 1)) tNil))) (tCons (tCall (sp_number_of K) [] E0 (tCons (tVar 0) (tCons (tC (.int 0)) tNil))) tNil))) (gTup K 2 (gCons (gName 2) (gCons (gName 3) gNil))))
  (tRet (tCB (rTupOf K) (tCons (tLc (iRng1 (tCons (tVar 1) tNil)) (gName 5) tYes (tCB (rTupOf K) (tCons (tLc (iRng1 (tCons (tVar 1) tNil)) (gName 4) tYes (tIf (tTest (tOp rEq (tVar 5) (tVar 4))) (tVar 2) (tVar 3)) [4]) tNil)) [5]) tNil))))
theorem pure_unit_rows (K : PySem.W.Frag) (vs : List V) (H : Hp) (Q : VK) (E : XK) (h : sp_unit_rows K vs H Q E) : t_unit_rows K { nx := fun _ H' => Q .non H', rt := Q } (start ["ground", "size", "one", "zero", "j", "i"] vs) H := by
  obtain ⟨g, n, hg, rfl, hn, hq⟩ := h
  unfold t_unit_rows
  walk_at "z"
  refine numOf hg (.inr rfl) fun v1 H1 s1 n1 => ?_
  walk_at "z"
  refine numOf hg (.inl rfl) fun v0 H2' s2 n0 => ?_
  walk_at "z"
  refine ⟨by decide, fun pp hpp => ⟨_, sqT_of upd_same, rfl, ?_⟩⟩
  walk_at "z"
  have sp := same_upd (o := .tup [v1, v0]) hpp
  have n1 := (n1.same s2).same sp
  have n0 := n0.same sp
  have s2 := s2.trans sp
  generalize upd H2' pp (.tup [v1, v0]) = H2 at *
  refine ⟨_, rfl, by omega, by omega, comp_RA (P := fun H v a => RowN H g v a) (S := fun i rs => rs = (List.range n).map fun j => (if i = j then ((1 : Int), (1 : Int)) else (0, 1))) (stay_row g) (by omega) (fun i H' hi s Qo hQo => ?_) (fun D H' zs as hD s hz hAA hlen hS => ?_)⟩
  · walk_at "z"
    refine ⟨_, rfl, by omega, by omega, comp_RA (P := fun H v (q : Int × Int) => NumR H g v q.1 q.2) (S := fun j (q : Int × Int) => q = if i = j then ((1 : Int), (1 : Int)) else (0, 1)) (stay_num g) (by omega) (fun j H3 hj s3 Qo2 hQo2 => ?_) (fun D H3 zs as hD s3 hz hAA hlen hS => ?_)⟩
    · walk_at "z"
      rw [Int.zero_add, Int.zero_add]
      by_cases e : i = j
      · rw [if_pos (by omega)]
        exact hQo2 _ _ (1, 1) (Same.refl _) ((n1.same s).same s3) (by rw [if_pos e])
      · rw [if_neg (by omega)]
        exact hQo2 _ _ (0, 1) (Same.refl _) ((n0.same s).same s3) (by rw [if_neg e])
    · refine ⟨D, _, rfl, .inl ⟨sqL_of hz, fun T2 hT2 => ?_⟩⟩
      have s4 := same_upd (o := .tup zs) hT2
      refine hQo _ _ as (s3.trans s4) ⟨T2, zs, rfl, upd_same, hAA.imp fun v q n => n.same s4⟩ ?_
      refine List.ext_getElem? fun k => ?_
      rw [List.getElem?_map]
      by_cases hk : k < as.length
      · rw [List.getElem?_eq_getElem hk, hS k _ (List.getElem?_eq_getElem hk), List.getElem?_range (by simpa using (by omega : k < n))]; rfl
      · rw [List.getElem?_eq_none (by omega), List.getElem?_eq_none (by simp; omega)]; rfl
  · refine ⟨D, _, rfl, .inl ⟨sqL_of hz, fun T2 hT2 => ?_⟩⟩
    have s3 := same_upd (o := .tup zs) hT2
    have e : as = unitQ n := by
      refine List.ext_getElem? fun k => ?_
      unfold unitQ
      rw [List.getElem?_map]
      by_cases hk : k < as.length
      · rw [List.getElem?_eq_getElem hk, hS k _ (List.getElem?_eq_getElem hk), List.getElem?_range (by simpa using (by omega : k < n))]; rfl
      · rw [List.getElem?_eq_none (by omega), List.getElem?_eq_none (by simp; omega)]; rfl
    subst e
    exact hq _ _ ((s1.trans s2).trans (s.trans s3)) ⟨T2, zs, rfl, upd_same, hAA.imp fun v q n => n.same s3⟩
theorem ok_unit_rows {P : Program} {w : World} {K : PySem.W.Frag} {mg : Str → Option Value} {base : Heap} (T : Tx K mg) : Okk P w K mg base 2 "unit_rows" ["ground", "size"] (sp_unit_rows K) := by
  obtain ⟨fd_number_of, F_number_of, b_number_of, g_number_of, k_number_of⟩ := ok_number_of (P := P) (w := w) (base := base) T
  have hf_range := T.n_range
  have hf_tuple := T.n_tuple
  obtain ⟨fd, F⟩ := T.f_unit_rows
  refine ⟨fd, F.ok sc_unit_rows (fun vs H Q E h => len_unit_rows h) (fun cdv A outer s H vs Q E hr h => ⟨t_unit_rows K, PSs.nox ?_, pure_unit_rows K vs H Q E h⟩), F.bindsN (fun _ _ _ _ _ _ us hl => match us, hl with | [_, _], _ => rfl), T.g_unit_rows, F.kp⟩
  exact (pss_cons (ps_asg (pe_tup (pa_cons (pe_call F_number_of (hr.mono (by decide)) rfl g_number_of k_number_of b_number_of .nil pass0 (pa_cons (pv 0) (pa_cons pe_int pa_nil))) (pa_cons (pe_call F_number_of (hr.mono (by decide)) rfl g_number_of k_number_of b_number_of .nil pass0 (pa_cons (pv 0) (pa_cons pe_int pa_nil))) pa_nil))) (pg_tup rfl (pgs_cons (pg_name (i := 2) sc_unit_rows.nd rfl (by first | exact Or.inl rfl | exact Or.inr rfl)) (pgs_cons (pg_name (i := 3) sc_unit_rows.nd rfl (by first | exact Or.inl rfl | exact Or.inr rfl)) pgs_nil))))
      (pss_one (ps_ret (pe_callTy call_tuple_of (by rfl) hf_tuple (by decide +kernel) (pa_cons (pe_lc (own := [("i", 5)]) (g := (gName 5)) (tt := tYes) rfl sc_unit_rows.nd (pi_range1 rfl hf_range (pa_cons (pv 1) pa_nil)) (blkOk_by (own := [("i", 5)]) (N := ["ground", "size", "one", "zero", "j", "i"]) (sc := defScope s_unit_rows) (by decide +kernel)) (fun _ _ _ _ _ => (pg_name (i := 5) sc_unit_rows.nd rfl (by first | exact Or.inl rfl | exact Or.inr rfl))) (fun _ _ _ _ _ => pts_nil) (fun _ _ _ _ _ => (pe_callTy call_tuple_of (by rfl) hf_tuple (by decide +kernel) (pa_cons (pe_lc (own := [("j", 4)]) (g := (gName 4)) (tt := tYes) rfl sc_unit_rows.nd (pi_range1 rfl hf_range (pa_cons (pv 1) pa_nil)) (blkOk_by (own := [("j", 4)]) (by kernel_rfl)) (fun _ _ _ _ _ => (pg_name (i := 4) sc_unit_rows.nd rfl (by first | exact Or.inl rfl | exact Or.inr rfl))) (fun _ _ _ _ _ => pts_nil) (fun _ _ _ _ _ => (pe_ifExp (pt_cmpR op_eq (pv 5) (pv 4) (nomark _)) (pv 2) (pv 3)))) pa_nil)))) pa_nil)))))
/-! ### prime_fits -/
theorem sc_prime_fits : FnScope ["value", "most"] ["value", "most"] (defScope s_prime_fits) := ⟨rfl, rfl, rfl, by decide +kernel, rfl, by decide +kernel, by decide +kernel⟩
def sp_prime_fits (K : PySem.W.Frag) : Sp := fun vs H Q _ => ∃ n hi : Int, vs = [.int n, .int hi] ∧ hi < 2 ^ 40 ∧ ∀ b : Bool, (b = true ↔ n ≤ hi ∧ PrimeI n) → Q (.bl b) H
theorem len_prime_fits {K : PySem.W.Frag} {vs : List V} {H : Hp} {Q : VK} {E : XK} (h : sp_prime_fits K vs H Q E) : vs.length = ["value", "most"].length := by
  obtain ⟨_, _, rfl, _⟩ := h
  rfl
def t_prime_fits (K : PySem.W.Frag) : TS := (tRet (tAndV (tCall (sp_is_between K) [] E0 (tCons (tVar 0) (tCons (tC (.int 2)) (tCons (tVar 1) tNil)))) (tCall (sp_has_no_parts K) [] E0 (tCons (tVar 0) tNil))))
theorem pure_prime_fits (K : PySem.W.Frag) (vs : List V) (H : Hp) (Q : VK) (E : XK) (h : sp_prime_fits K vs H Q E) : t_prime_fits K { nx := fun _ H' => Q .non H', rt := Q } (start ["value", "most"] vs) H := by
  obtain ⟨n, hi, rfl, hh, hq⟩ := h
  unfold t_prime_fits
  walk_at "z"
  refine ⟨_, _, _, rfl, trivial, ?_⟩
  unfold betwB
  walk_at "z"
  by_cases h1 : 2 ≤ n ∧ n ≤ hi
  · rw [if_pos h1]
    refine ⟨n, rfl, by omega, fun b hb => hq b (hb.trans ⟨fun h => ⟨h1.2, h⟩, fun h => h.2⟩)⟩
  · rw [if_neg h1]
    exact hq _ ⟨fun h => (by cases h), fun h => absurd ⟨h.2.1, h.1⟩ h1⟩
theorem ok_prime_fits {P : Program} {w : World} {K : PySem.W.Frag} {mg : Str → Option Value} {base : Heap} (T : Tx K mg) : Okk P w K mg base 3 "prime_fits" ["value", "most"] (sp_prime_fits K) := by
  obtain ⟨fd_is_between, F_is_between, b_is_between, g_is_between, k_is_between⟩ := ok_is_between (P := P) (w := w) (base := base) T
  obtain ⟨fd_has_no_parts, F_has_no_parts, b_has_no_parts, g_has_no_parts, k_has_no_parts⟩ := ok_has_no_parts (P := P) (w := w) (base := base) T
  obtain ⟨fd, F⟩ := T.f_prime_fits
  refine ⟨fd, F.ok sc_prime_fits (fun vs H Q E h => len_prime_fits h) (fun cdv A outer s H vs Q E hr h => ⟨t_prime_fits K, PSs.nox ?_, pure_prime_fits K vs H Q E h⟩), F.bindsN (fun _ _ _ _ _ _ us hl => match us, hl with | [_, _], _ => rfl), T.g_prime_fits, F.kp⟩
  exact (pss_one (ps_ret (pe_and (pe_call F_is_between (hr.mono (by decide)) rfl g_is_between k_is_between b_is_between .nil pass0 (pa_cons (pv 0) (pa_cons pe_int (pa_cons (pv 1) pa_nil)))) (pe_one (pe_call F_has_no_parts (hr.mono (by decide)) rfl g_has_no_parts k_has_no_parts b_has_no_parts .nil pass0 (pa_cons (pv 0) pa_nil))))))
/-! ### number_fits -/
theorem sc_number_fits : FnScope ["ground", "value", "limit", "top", "bottom"] ["ground", "value", "limit"] (defScope s_number_fits) := ⟨rfl, rfl, rfl, by decide +kernel, rfl, by decide +kernel, by decide +kernel⟩
def sp_number_fits (K : PySem.W.Frag) : Sp := fun vs H Q _ => ∃ (g : Int) (v : V) (l : Int), vs = [.int g, v, .int l] ∧ Kn2 H v ∧ ∀ b : Bool, (b = true ↔ NumV H g v l) → Q (.bl b) H
theorem len_number_fits {K : PySem.W.Frag} {vs : List V} {H : Hp} {Q : VK} {E : XK} (h : sp_number_fits K vs H Q E) : vs.length = ["ground", "value", "limit"].length := by
  obtain ⟨_, _, _, rfl, _⟩ := h
  rfl
def t_number_fits (K : PySem.W.Frag) : TS := (tSeq (tIfS (tTest (tOp rNe (tVar 0) (tC (.int 0)))) (tRet (tAndV (tCall (sp_is_int K) [] E0 (tCons (tVar 1) tNil)) (tChain rLeI rLtI (tC (.int 0)) (tVar 1) (tVar 0)))) tNext)
  (tSeq (tIfS (tOr (tNot (tB (tCB (rIsi K) (tCons (tVar 1) (tCons (tC (.ty "tuple")) tNil))))) (tTest (tOp rNe (tCB (rLenU K) (tCons (tVar 1) tNil)) (tC (.int 2))))) (tRet (tC (.bl false))) tNext)
  (tSeq (tAsg (tVar 1) (gTup K 2 (gCons (gName 3) (gCons (gName 4) gNil))))
  (tSeq (tIfS (tOr (tNot (tB (tCall (sp_is_below K) [] E0 (tCons (tVar 3) (tCons (tVar 2) tNil))))) (tNot (tB (tCall (sp_is_below K) [] E0 (tCons (tVar 4) (tCons (tVar 2) tNil)))))) (tRet (tC (.bl false))) tNext)
  (tRet (tAndV (tOp rGeI (tVar 4) (tC (.int 1))) (tOp rEq (tCB rGcd (tCons (tVar 3) (tCons (tVar 4) tNil))) (tC (.int 1)))))))))
theorem bfalse {p : Prop} (h : ¬ p) : (false = true ↔ p) := ⟨fun x => (by cases x), fun x => (h x).elim⟩
theorem TupV.inj {H : Hp} {v : V} {xs ys : List V} (a : TupV H v xs) (b : TupV H v ys) : xs = ys := by
  obtain ⟨p, e, h⟩ := a
  obtain ⟨q, e2, h2⟩ := b
  rw [e] at e2
  cases e2
  rw [h] at h2
  cases h2
  rfl
theorem pure_number_fits (K : PySem.W.Frag) (vs : List V) (H : Hp) (Q : VK) (E : XK) (h : sp_number_fits K vs H Q E) : t_number_fits K { nx := fun _ H' => Q .non H', rt := Q } (start ["ground", "value", "limit", "top", "bottom"] vs) H := by
  obtain ⟨g, v, l, rfl, hk, hq⟩ := h
  unfold t_number_fits
  walk_at "z"
  by_cases h0 : g = 0
  · subst h0
    walk_at "z"
    refine isi_kn_tuple hk.1 (fun xs ht => ?_) (fun hn => ?_)
    · walk_at "z"
      have hkx := hk.2 xs ht
      obtain ⟨a, rfl, ha⟩ := ht
      have ht : TupV H (V.ref a) xs := ⟨a, rfl, ha⟩
      refine lenT (sqT_of ha) ?_
      walk_at "z"
      match xs, ha, ht, hkx with
      | [], ha, ht, _ =>
        rw [if_pos (by simp)]
        refine hq false (bfalse fun h => ?_)
        rcases h with ⟨h, _⟩ | ⟨_, t, b, h, _⟩
        · exact h rfl
        · have := ht.inj h; simp at this
      | [x], ha, ht, _ =>
        rw [if_pos (by simp)]
        refine hq false (bfalse fun h => ?_)
        rcases h with ⟨h, _⟩ | ⟨_, t, b, h, _⟩
        · exact h rfl
        · have := ht.inj h; simp at this
      | x :: y :: z :: r, ha, ht, _ =>
        rw [if_pos (by simp only [List.length_cons]; omega)]
        refine hq false (bfalse fun h => ?_)
        rcases h with ⟨h, _⟩ | ⟨_, t, b, h, _⟩
        · exact h rfl
        · have := ht.inj h; simp at this
      | [x, y], ha, ht, hkx =>
        have e2 : ¬ ¬ (([x, y] : List V).length : Int) = 2 := fun c => c rfl
        rw [if_neg e2]
        refine ⟨[x, y], sqT_of ha, rfl, ?_⟩
        walk_at "z"
        refine ⟨x, l, rfl, hkx x (by simp), ?_⟩
        walk_at "z"
        by_cases hx : belowB x l = true
        · rw [hx]
          walk_at "z"
          refine ⟨y, l, rfl, hkx y (by simp), ?_⟩
          walk_at "z"
          by_cases hy : belowB y l = true
          · rw [hy]
            walk_at "z"
            obtain ⟨t, rfl, t1, t2⟩ := belowB_int hx
            obtain ⟨b, rfl, b1, b2⟩ := belowB_int hy
            walk_at "z"
            have iff : NumV H 0 (V.ref a) l ↔ 1 ≤ b ∧ Nat.gcd t.natAbs b.natAbs = 1 := by
              constructor
              · rintro (⟨h, _⟩ | ⟨_, t', b', h, _, _, h1, h2⟩)
                · exact absurd rfl h
                · have := ht.inj h
                  simp at this
                  obtain ⟨rfl, rfl⟩ := this
                  exact ⟨h1, h2⟩
              · rintro ⟨h1, h2⟩
                exact .inr ⟨rfl, t, b, ht, ⟨t1, t2⟩, ⟨b1, b2⟩, h1, h2⟩
            by_cases hb : 1 ≤ b
            · rw [if_pos hb]
              refine hq _ ?_
              rw [iff, decide_eq_true_eq]
              constructor
              · intro h; exact ⟨hb, by omega⟩
              · rintro ⟨_, h⟩; omega
            · rw [if_neg hb]
              exact hq false (bfalse fun h => hb (iff.mp h).1)
          · have hy2 : belowB y l = false := by simpa using hy
            rw [hy2]
            walk_at "z"
            refine hq false (bfalse fun h => ?_)
            rcases h with ⟨h, _⟩ | ⟨_, t, b, h, _, h3, _⟩
            · exact h rfl
            · have := ht.inj h
              simp at this
              rw [this.2] at hy
              exact hy (decide_eq_true h3)
        · have hx2 : belowB x l = false := by simpa using hx
          rw [hx2]
          walk_at "z"
          refine hq false (bfalse fun h => ?_)
          rcases h with ⟨h, _⟩ | ⟨_, t, b, h, h3, _⟩
          · exact h rfl
          · have := ht.inj h
            simp at this
            rw [this.1] at hx
            exact hx (decide_eq_true h3)
    · walk_at "z"
      refine hq false (bfalse fun h => ?_)
      rcases h with ⟨h, _⟩ | ⟨_, t, b, h, _⟩
      · exact h rfl
      · exact hn _ h
  · rw [if_pos h0]
    refine ⟨v, rfl, hk.1, ?_⟩
    walk_at "z"
    cases v with
    | int n =>
      simp only [isI, if_true]
      walk_at "z"
      have iff : NumV H g (V.int n) l ↔ 0 ≤ n ∧ n < g := by
        constructor
        · rintro (⟨_, m, e, h⟩ | ⟨h, _⟩)
          · cases e; exact h
          · exact absurd h h0
        · intro h
          exact .inl ⟨h0, n, rfl, h⟩
      by_cases h1 : 0 ≤ n
      · rw [if_pos h1]
        refine hq _ ?_
        rw [iff, decide_eq_true_eq]
        exact ⟨fun h => ⟨h1, h⟩, fun h => h.2⟩
      · rw [if_neg h1]
        exact hq false (bfalse fun h => h1 (iff.mp h).1)
    | _ =>
      simp only [isI, Bool.false_eq_true, if_false]
      refine hq false (bfalse ?_)
      rintro (⟨_, m, e, _⟩ | ⟨h, _⟩)
      · cases e
      · exact absurd h h0
theorem ok_number_fits {P : Program} {w : World} {K : PySem.W.Frag} {mg : Str → Option Value} {base : Heap} (T : Tx K mg) : Okk P w K mg base 3 "number_fits" ["ground", "value", "limit"] (sp_number_fits K) := by
  obtain ⟨fd_is_int, F_is_int, b_is_int, g_is_int, k_is_int⟩ := ok_is_int (P := P) (w := w) (base := base) T
  obtain ⟨fd_is_below, F_is_below, b_is_below, g_is_below, k_is_below⟩ := ok_is_below (P := P) (w := w) (base := base) T
  have hf_isinstance := T.n_isinstance
  have hf_len := T.n_len
  have hf_tuple := T.n_tuple
  have hb_gcd := T.b_gcd
  obtain ⟨fd, F⟩ := T.f_number_fits
  refine ⟨fd, F.ok sc_number_fits (fun vs H Q E h => len_number_fits h) (fun cdv A outer s H vs Q E hr h => ⟨t_number_fits K, PSs.nox ?_, pure_number_fits K vs H Q E h⟩), F.bindsN (fun _ _ _ _ _ _ us hl => match us, hl with | [_, _, _], _ => rfl), T.g_number_fits, F.kp⟩
  exact (pss_cons (ps_if (pt_cmpR op_ne (pv 0) pe_int (nomark _)) (pss_one (ps_ret (pe_and (pe_call F_is_int (hr.mono (by decide)) rfl g_is_int k_is_int b_is_int .nil pass0 (pa_cons (pv 1) pa_nil)) (pe_one (pe_chain op_le op_lt pe_int (pv 1) (pv 0)))))) pss_nil)
      (pss_cons (ps_if (PW.pt (pw_or (pt_not (pt_val (pe_callB call_isi (by rfl) hf_isinstance (by decide +kernel) (pa_cons (pv 1) (pa_cons (pe_bltn (v := .ty "tuple") rfl hf_tuple (by decide +kernel) rfl) pa_nil))))) (pw_or1 (pt_cmpR op_ne (pe_callB call_len_seq (by rfl) hf_len (by decide +kernel) (pa_cons (pv 1) pa_nil)) pe_int (nomark _))))) (pss_one (ps_ret pe_bl)) pss_nil)
      (pss_cons (ps_asg (pv 1) (pg_tup rfl (pgs_cons (pg_name (i := 3) sc_number_fits.nd rfl (by first | exact Or.inl rfl | exact Or.inr rfl)) (pgs_cons (pg_name (i := 4) sc_number_fits.nd rfl (by first | exact Or.inl rfl | exact Or.inr rfl)) pgs_nil))))
      (pss_cons (ps_if (PW.pt (pw_or (pt_not (pt_val (pe_call F_is_below (hr.mono (by decide)) rfl g_is_below k_is_below b_is_below .nil pass0 (pa_cons (pv 3) (pa_cons (pv 2) pa_nil))))) (pw_or1 (pt_not (pt_val (pe_call F_is_below (hr.mono (by decide)) rfl g_is_below k_is_below b_is_below .nil pass0 (pa_cons (pv 4) (pa_cons (pv 2) pa_nil)))))))) (pss_one (ps_ret pe_bl)) pss_nil)
      (pss_one (ps_ret (pe_and (pe_cmpR op_ge (pv 4) pe_int (nomark _)) (pe_one (pe_cmpR op_eq (pe_callBfun cr_gcd rfl hb_gcd (pa_cons (pv 3) (pa_cons (pv 4) pa_nil))) pe_int (nomark _))))))))))
/-! ### quotient -/
theorem sc_quotient : FnScope ["ground", "top", "bottom", "common"] ["ground", "top", "bottom"] (defScope s_quotient) := ⟨rfl, rfl, rfl, by decide +kernel, rfl, by decide +kernel, by decide +kernel⟩
/-- x over y is t over b in lowest terms -/
def Frac (t b x y : Int) : Prop := 1 ≤ y ∧ Nat.gcd x.natAbs y.natAbs = 1 ∧ x * b = t * y
def sp_quotient (K : PySem.W.Frag) : Sp := fun vs H Q _ => ∃ g t b : Int, vs = [.int g, .int t, .int b] ∧ 0 ≤ g ∧
  (g = 0 → b ≠ 0 ∧ Sz 8000 b ∧ ∀ p x y H', Same H H' → Frac t b x y → x.natAbs ≤ t.natAbs → y.natAbs ≤ b.natAbs → H' p = some (.tup [.int x, .int y]) → Q (.ref p) H') ∧
  (g ≠ 0 → Sz 1000 g ∧ Sz 8000 t ∧ ∀ w u H', Same H H' → w = t * u % g → (b * u) % g = ((Nat.gcd (b % g).natAbs g.natAbs : Nat) : Int) % g → Q (.int w) H')
theorem len_quotient {K : PySem.W.Frag} {vs : List V} {H : Hp} {Q : VK} {E : XK} (h : sp_quotient K vs H Q E) : vs.length = ["ground", "top", "bottom"].length := by
  obtain ⟨_, _, _, rfl, _⟩ := h
  rfl
def t_quotient (K : PySem.W.Frag) : TS := (tSeq (tIfS (tTest (tOp rNe (tVar 0) (tC (.int 0)))) (tRet (tOp rModU (tOp rMulU (tVar 1) (tCall (sp_undone_modulo K) [] E0 (tCons (tVar 2) (tCons (tVar 0) tNil)))) (tVar 0))) tNext)
  (tSeq (tAsg (tCB rGcd (tCons (tVar 1) (tCons (tVar 2) tNil))) (gName 3))
  (tSeq (tIfS (tTest (tOp rLtI (tVar 2) (tC (.int 0)))) (tAsg (tUn rNeg (tVar 3)) (gName 3)) tNext)
  (tRet (tTup (tCons (tOp rDivZ (tVar 1) (tVar 3)) (tCons (tOp rDivZ (tVar 2) (tVar 3)) tNil)))))))
theorem frac_of {t b c : Int} (hc : c = ((Nat.gcd t.natAbs b.natAbs : Nat) : Int) ∧ 0 < b ∨ c = -((Nat.gcd t.natAbs b.natAbs : Nat) : Int) ∧ b < 0) : Frac t b (t.fdiv c) (b.fdiv c) ∧ (t.fdiv c).natAbs ≤ t.natAbs ∧ (b.fdiv c).natAbs ≤ b.natAbs ∧ c ≠ 0 ∧ c.natAbs ≤ b.natAbs := by
  have hb : b ≠ 0 := by rcases hc with ⟨_, h⟩ | ⟨_, h⟩ <;> omega
  have hg : 0 < Nat.gcd t.natAbs b.natAbs := Nat.gcd_pos_of_pos_right _ (by omega)
  have hca : c.natAbs = Nat.gcd t.natAbs b.natAbs := by rcases hc with ⟨h, _⟩ | ⟨h, _⟩ <;> omega
  have hc0 : c ≠ 0 := by omega
  have d1 : c ∣ t := Int.natAbs_dvd_natAbs.mp (by rw [hca]; exact Nat.gcd_dvd_left _ _)
  have d2 : c ∣ b := Int.natAbs_dvd_natAbs.mp (by rw [hca]; exact Nat.gcd_dvd_right _ _)
  rw [Int.fdiv_eq_ediv_of_dvd d1, Int.fdiv_eq_ediv_of_dvd d2]
  obtain ⟨x, rfl⟩ := d1
  obtain ⟨y, rfl⟩ := d2
  rw [Int.mul_ediv_cancel_left _ hc0, Int.mul_ediv_cancel_left _ hc0]
  have h1 : 1 ≤ c.natAbs := by omega
  refine ⟨⟨?_, ?_, by rw [Int.mul_left_comm, Int.mul_assoc]⟩, ?_, ?_, hc0, ?_⟩
  · have hy : y ≠ 0 := fun z => by rw [z] at hb; simp at hb
    refine Classical.byContradiction fun hn => ?_
    have hy2 : y < 0 := by omega
    rcases hc with ⟨h, h2⟩ | ⟨h, h2⟩
    · have := Int.mul_neg_of_pos_of_neg (show 0 < c by omega) hy2
      omega
    · have := Int.mul_pos_of_neg_of_neg (show c < 0 by omega) hy2
      omega
  · rw [Int.natAbs_mul, Int.natAbs_mul, Nat.gcd_mul_left] at hca
    have : c.natAbs * Nat.gcd x.natAbs y.natAbs = c.natAbs * 1 := by rw [← hca, Nat.mul_one]
    exact Nat.eq_of_mul_eq_mul_left (by omega) this
  · rw [Int.natAbs_mul]; exact Nat.le_mul_of_pos_left _ (by omega)
  · rw [Int.natAbs_mul]; exact Nat.le_mul_of_pos_left _ (by omega)
  · rw [Int.natAbs_mul]
    exact Nat.le_mul_of_pos_right _ (by
      have : y ≠ 0 := fun z => by rw [z] at hb; simp at hb
      omega)
theorem pure_quotient (K : PySem.W.Frag) (vs : List V) (H : Hp) (Q : VK) (E : XK) (h : sp_quotient K vs H Q E) : t_quotient K { nx := fun _ H' => Q .non H', rt := Q } (start ["ground", "top", "bottom", "common"] vs) H := by
  obtain ⟨g, t, b, rfl, hg, hq1, hq2⟩ := h
  unfold t_quotient
  walk_at "z"
  by_cases h0 : g = 0
  · subst h0
    obtain ⟨hb, sb, hq⟩ := hq1 rfl
    walk_at "z"
    have key : ∀ c : Int, (c = ((Nat.gcd t.natAbs b.natAbs : Nat) : Int) ∧ 0 < b ∨ c = -((Nat.gcd t.natAbs b.natAbs : Nat) : Int) ∧ b < 0) →
        CDivZ t c ∧ CDivZ b c ∧ 2 ≤ sizeLine ∧ ∀ p, H p = none → Q (.ref p) (upd H p (.tup [.int (t.fdiv c), .int (b.fdiv c)])) := fun c hc => by
      obtain ⟨f, e1, e2, e3, e4⟩ := frac_of hc
      have lc : c.natAbs.log2 < 9000 := Nat.lt_of_lt_of_le (PySem.Flt.log2_lt_of (k := 8000) (by decide) (sz_le sb e4)) (by decide)
      exact ⟨⟨e3, lc⟩, ⟨e3, lc⟩, by decide, fun p hp => hq p _ _ _ (same_upd hp) f e1 e2 upd_same⟩
    by_cases h0 : b < 0
    · rw [if_pos h0]
      exact key _ (.inr ⟨rfl, h0⟩)
    · rw [if_neg h0]
      exact key _ (.inl ⟨rfl, by omega⟩)
  · rw [if_pos h0]
    obtain ⟨sg, st, hq⟩ := hq2 h0
    refine ⟨b, g, rfl, by omega, Nat.lt_of_lt_of_le sg (Nat.pow_le_pow_right (by decide) (by decide)), fun u H' s u0 u1 e => ?_⟩
    walk_at "z"
    refine ⟨mulW (a := 8000) (b := 1000) st (sz_le sg (by omega)) (by decide) (by decide) (by decide), by omega, ?_⟩
    exact hq _ u _ s rfl e
theorem ok_quotient {P : Program} {w : World} {K : PySem.W.Frag} {mg : Str → Option Value} {base : Heap} (T : Tx K mg) : Okk P w K mg base 3 "quotient" ["ground", "top", "bottom"] (sp_quotient K) := by
  obtain ⟨fd_undone_modulo, F_undone_modulo, b_undone_modulo, g_undone_modulo, k_undone_modulo⟩ := ok_undone_modulo (P := P) (w := w) (base := base) T
  have hb_gcd := T.b_gcd
  obtain ⟨fd, F⟩ := T.f_quotient
  refine ⟨fd, F.ok sc_quotient (fun vs H Q E h => len_quotient h) (fun cdv A outer s H vs Q E hr h => ⟨t_quotient K, PSs.nox ?_, pure_quotient K vs H Q E h⟩), F.bindsN (fun _ _ _ _ _ _ us hl => match us, hl with | [_, _, _], _ => rfl), T.g_quotient, F.kp⟩
  exact (pss_cons (ps_if (pt_cmpR op_ne (pv 0) pe_int (nomark _)) (pss_one (ps_ret (pe_op op_mod (pe_op op_mulU (pv 1) (pe_call F_undone_modulo (hr.mono (by decide)) rfl g_undone_modulo k_undone_modulo b_undone_modulo .nil pass0 (pa_cons (pv 2) (pa_cons (pv 0) pa_nil)))) (pv 0)))) pss_nil)
      (pss_cons (ps_set (i := 3) sc_quotient.nd rfl (by first | exact Or.inl rfl | exact Or.inr rfl) (pe_callBfun cr_gcd rfl hb_gcd (pa_cons (pv 1) (pa_cons (pv 2) pa_nil))))
      (pss_cons (ps_if (pt_cmpR op_lt (pv 2) pe_int (nomark _)) (pss_one (ps_set (i := 3) sc_quotient.nd rfl (by first | exact Or.inl rfl | exact Or.inr rfl) (pe_un un_neg (pv 3)))) pss_nil)
      (pss_one (ps_ret (pe_tup (pa_cons (pe_op op_fdivZ (pv 1) (pv 3)) (pa_cons (pe_op op_fdivZ (pv 2) (pv 3)) pa_nil))))))))
/-! ### lowered -/
theorem sc_lowered : FnScope ["ground", "row", "upper", "column", "before", "lead", "low", "mixed", "number", "over", "back"] ["ground", "row", "upper", "column", "before"] (defScope s_lowered) := ⟨rfl, rfl, rfl, by decide +kernel, rfl, by decide +kernel, by decide +kernel⟩
def sp_lowered (K : PySem.W.Frag) : Sp := fun vs H Q _ => ∃ (g : Int) (A B : Addr) (ns us : List Int) (c : Nat) (d : Int), vs = [.int g, .ref A, .ref B, .int (c : Int), .int d] ∧ H A = some (.lst (ns.map V.int)) ∧ H B = some (.lst (us.map V.int)) ∧
  ns.length = us.length ∧ c < us.length ∧ us.length < 2 ^ 22 ∧ 0 ≤ g ∧ g < 2 ^ 60 ∧ (∀ n ∈ ns, Sz 8000 n) ∧ (∀ n ∈ us, Sz 8000 n) ∧ Sz 8000 d ∧ d ≠ 0 ∧
  (g = 0 → ∀ D H', H D = none → Same H H' → H' D = some (.lst (((mixF us ns c).map fun m => m.fdiv d).map V.int)) → Q (.ref D) H') ∧
  (g ≠ 0 → ∀ u D H', 0 ≤ u → u < g → (d * u) % g = ((Nat.gcd (d % g).natAbs g.natAbs : Nat) : Int) % g → H D = none → Same H H' → H' D = some (.lst (((mixF us ns c).map fun m => m * u % g).map V.int)) → Q (.ref D) H')
theorem len_lowered {K : PySem.W.Frag} {vs : List V} {H : Hp} {Q : VK} {E : XK} (h : sp_lowered K vs H Q E) : vs.length = ["ground", "row", "upper", "column", "before"].length := by
  obtain ⟨_, _, _, _, _, _, _, rfl, _⟩ := h
  rfl
def t_lowered (K : PySem.W.Frag) : TS := (tSeq (tAsg (tTup (tCons (tOp (rIxA K) (tVar 2) (tVar 3)) (tCons (tOp (rIxA K) (tVar 1) (tVar 3)) tNil))) (gTup K 2 (gCons (gName 5) (gCons (gName 6) gNil))))
  (tSeq (tAsg (tLc (RZ.iZipA K (tCons (tVar 1) (tCons (tVar 2) tNil))) (gTup K 2 (gCons (gName 8) (gCons (gName 9) gNil))) tYes (tOp rSub (tOp rMulU (tVar 5) (tVar 8)) (tOp rMulU (tVar 6) (tVar 9))) [8, 9]) (gName 7))
  (tSeq (tIfS (tTest (tOp rEq (tVar 0) (tC (.int 0)))) (tRet (tLc (iList K (tVar 7)) (gName 8) tYes (tOp rDivZ (tVar 8) (tVar 4)) [8])) tNext)
  (tSeq (tAsg (tCall (sp_undone_modulo K) [] E0 (tCons (tVar 4) (tCons (tVar 0) tNil))) (gName 10))
  (tRet (tLc (iList K (tVar 7)) (gName 8) tYes (tOp rModU (tOp rMulU (tVar 8) (tVar 10)) (tVar 0)) [8]))))))
theorem pure_lowered (K : PySem.W.Frag) (vs : List V) (H : Hp) (Q : VK) (E : XK) (h : sp_lowered K vs H Q E) : t_lowered K { nx := fun _ H' => Q .non H', rt := Q } (start ["ground", "row", "upper", "column", "before", "lead", "low", "mixed", "number", "over", "back"] vs) H := by
  obtain ⟨g, A, B, ns, us, c, d, rfl, hA, hB, hl, hc, hl2, hg, hg2, sn, su, sd, hd, hq0, hq1⟩ := h
  unfold t_lowered
  walk_at "z"
  refine ixLI hB hc ?_
  refine ixLI hA (by omega) ?_
  refine ⟨by decide, fun P hP => ⟨_, sqT_of upd_same, rfl, ?_⟩⟩
  walk_at "z"
  have s1 : Same H (upd H P (.tup [.int (us.getD c 0), .int (ns.getD c 0)])) := same_upd hP
  generalize upd H P (.tup [.int (us.getD c 0), .int (ns.getD c 0)]) = H1 at *
  have hml : (mixF us ns c).length = ns.length := by simp [mixF, Lin.mixF, hl]
  refine ⟨A, B, ns.map V.int, us.map V.int, rfl, .inl ⟨sqL_of (s1 _ _ hA), sqL_of (s1 _ _ hB), comp_ZL (by simp [hl]) (sqL_of (s1 _ _ hA)) (sqL_of (s1 _ _ hB)) (fun i => ((mixF us ns c)[i]?).map V.int) (by simp; omega) (fun i x y T H' hx hy s hT Qo hQo => ?_) (fun D H2 s2 hD => ?_)⟩⟩
  · rw [List.getElem?_map] at hx hy
    obtain ⟨n, hn, rfl⟩ := Option.map_eq_some_iff.mp hx
    obtain ⟨u, hu, rfl⟩ := Option.map_eq_some_iff.mp hy
    have gm : ∀ {l : List Int} {k : Nat} {m : Nat}, (∀ n ∈ l, Sz m n) → k < l.length → Sz m (l.getD k 0) := fun h hk => by
      rw [List.getD_eq_getElem?_getD, List.getElem?_eq_getElem hk]; exact h _ (List.getElem_mem hk)
    walk_at "z"
    refine ⟨_, sqT_of upd_same, rfl, ?_⟩
    walk_at "z"
    refine ⟨mulW (gm su hc) (sn n (List.mem_of_getElem? hn)) (by decide) (by decide) (by decide), mulW (gm sn (by omega)) (su u (List.mem_of_getElem? hu)) (by decide) (by decide) (by decide), ?_⟩
    have h2 := hQo (upd H' T (.tup [.int n, .int u])) (same_upd hT)
    have e : (mixF us ns c)[i]? = some (us.getD c 0 * n - ns.getD c 0 * u) := by
      unfold mixF Lin.mixF
      rw [List.getElem?_zipWith, hn, hu]
    rw [e] at h2
    exact h2
  · rw [List.length_map, outL_get (mixF us ns c) V.int hml.symm] at hD
    have s3 := s1.trans s2
    by_cases hg0 : g = 0
    · rw [if_pos hg0]
      refine ⟨D, rfl, ⟨_, sqL_of hD⟩, comp_LF (sqL_of hD) (fun i => ((mixF us ns c)[i]?).map fun m => V.int (m.fdiv d)) (by rw [List.length_map, hml]; omega) (fun i x H3 hx s Qo hQo => ?_) (fun D2 H3 hDn s4 hD2 => ?_)⟩
      · rw [List.getElem?_map] at hx
        obtain ⟨m, hm, rfl⟩ := Option.map_eq_some_iff.mp hx
        walk_at "z"
        refine ⟨⟨hd, Nat.lt_of_lt_of_le (PySem.Flt.log2_lt_of (by decide) sd) (by decide)⟩, ?_⟩
        have h2 := hQo H3 (Same.refl _)
        rw [hm] at h2
        exact h2
      · rw [outL_get (mixF us ns c) _ (by simp)] at hD2
        exact hq0 hg0 D2 H3 (none_back s3 hDn) (s3.trans s4) (by rw [hD2, List.map_map]; rfl)
    · rw [if_neg hg0]
      refine ⟨d, g, rfl, by omega, Nat.lt_of_lt_of_le (show g.natAbs < 2 ^ 60 by omega) (Nat.pow_le_pow_right (by decide) (by decide)), fun u H3 s4 hu0 hu1 hu => ?_⟩
      have hD3 := s4 _ _ hD
      refine ⟨D, rfl, ⟨_, sqL_of hD3⟩, comp_LF (sqL_of hD3) (fun i => ((mixF us ns c)[i]?).map fun m => V.int (m * u % g)) (by rw [List.length_map, hml]; omega) (fun i x H4 hx s Qo hQo => ?_) (fun D2 H4 hDn s5 hD2 => ?_)⟩
      · rw [List.getElem?_map] at hx
        obtain ⟨m, hm, rfl⟩ := Option.map_eq_some_iff.mp hx
        walk_at "z"
        refine ⟨.inl (.inr (by omega)), by omega, ?_⟩
        have h2 := hQo H4 (Same.refl _)
        rw [hm] at h2
        exact h2
      · rw [outL_get (mixF us ns c) _ (by simp)] at hD2
        exact hq1 hg0 u D2 H4 hu0 hu1 hu (none_back (s3.trans s4) hDn) ((s3.trans s4).trans s5) (by rw [hD2, List.map_map]; rfl)
theorem ok_lowered {P : Program} {w : World} {K : PySem.W.Frag} {mg : Str → Option Value} {base : Heap} (T : Tx K mg) : Okk P w K mg base 3 "lowered" ["ground", "row", "upper", "column", "before"] (sp_lowered K) := by
  obtain ⟨fd_undone_modulo, F_undone_modulo, b_undone_modulo, g_undone_modulo, k_undone_modulo⟩ := ok_undone_modulo (P := P) (w := w) (base := base) T
  have hf_zip := T.n_zip
  obtain ⟨fd, F⟩ := T.f_lowered
  refine ⟨fd, F.ok sc_lowered (fun vs H Q E h => len_lowered h) (fun cdv A outer s H vs Q E hr h => ⟨t_lowered K, PSs.nox ?_, pure_lowered K vs H Q E h⟩), F.bindsN (fun _ _ _ _ _ _ us hl => match us, hl with | [_, _, _, _, _], _ => rfl), T.g_lowered, F.kp⟩
  exact (pss_cons (ps_asg (pe_tup (pa_cons (pe_ix ix_lt (pv 2) (pv 3) (fun _ _ => rfl)) (pa_cons (pe_ix ix_lt (pv 1) (pv 3) (fun _ _ => rfl)) pa_nil))) (pg_tup rfl (pgs_cons (pg_name (i := 5) sc_lowered.nd rfl (by first | exact Or.inl rfl | exact Or.inr rfl)) (pgs_cons (pg_name (i := 6) sc_lowered.nd rfl (by first | exact Or.inl rfl | exact Or.inr rfl)) pgs_nil))))
      (pss_cons (ps_setLc (i := 7) (own := [("number", 8), ("over", 9)]) (g := (gTup K 2 (gCons (gName 8) (gCons (gName 9) gNil)))) (tt := tYes) rfl sc_lowered.nd rfl rfl (sw_true rfl rfl rfl (by decide +kernel)) (RZ.pi_zipA (by rfl) hf_zip (pa_cons (pv 1) (pa_cons (pv 2) pa_nil))) (blkOk_by (own := [("number", 8), ("over", 9)]) (N := ["ground", "row", "upper", "column", "before", "lead", "low", "mixed", "number", "over", "back"]) (sc := defScope s_lowered) (by decide +kernel)) (fun _ _ _ _ _ => (pg_tup rfl (pgs_cons (pg_name (i := 8) sc_lowered.nd rfl (by first | exact Or.inl rfl | exact Or.inr rfl)) (pgs_cons (pg_name (i := 9) sc_lowered.nd rfl (by first | exact Or.inl rfl | exact Or.inr rfl)) pgs_nil)))) (fun _ _ _ _ _ => pts_nil) (fun _ _ _ _ _ => (pe_op op_sub (pe_op op_mulU (pv 5) (pv 8)) (pe_op op_mulU (pv 6) (pv 9)))))
      (pss_cons (ps_if (pt_cmpR op_eq (pv 0) pe_int (nomark _)) (pss_one (ps_ret (pe_lc (own := [("number", 8)]) (g := (gName 8)) (tt := tYes) rfl sc_lowered.nd (pi_list (pv 7)) (blkOk_by (own := [("number", 8)]) (N := ["ground", "row", "upper", "column", "before", "lead", "low", "mixed", "number", "over", "back"]) (sc := defScope s_lowered) (by decide +kernel)) (fun _ _ _ _ _ => (pg_name (i := 8) sc_lowered.nd rfl (by first | exact Or.inl rfl | exact Or.inr rfl))) (fun _ _ _ _ _ => pts_nil) (fun _ _ _ _ _ => (pe_op op_fdivZ (pv 8) (pv 4)))))) pss_nil)
      (pss_cons (ps_set (i := 10) sc_lowered.nd rfl (by first | exact Or.inl rfl | exact Or.inr rfl) (pe_call F_undone_modulo (hr.mono (by decide)) rfl g_undone_modulo k_undone_modulo b_undone_modulo .nil pass0 (pa_cons (pv 4) (pa_cons (pv 0) pa_nil))))
      (pss_one (ps_ret (pe_lc (own := [("number", 8)]) (g := (gName 8)) (tt := tYes) rfl sc_lowered.nd (pi_list (pv 7)) (blkOk_by (own := [("number", 8)]) (N := ["ground", "row", "upper", "column", "before", "lead", "low", "mixed", "number", "over", "back"]) (sc := defScope s_lowered) (by decide +kernel)) (fun _ _ _ _ _ => (pg_name (i := 8) sc_lowered.nd rfl (by first | exact Or.inl rfl | exact Or.inr rfl))) (fun _ _ _ _ _ => pts_nil) (fun _ _ _ _ _ => (pe_op op_mod (pe_op op_mulU (pv 8) (pv 10)) (pv 0))))))))))
/-! ### ground_fits -/
theorem sc_ground_fits : FnScope ["value"] ["value"] (defScope s_ground_fits) := ⟨rfl, rfl, rfl, by decide +kernel, rfl, by decide +kernel, by decide +kernel⟩
def sp_ground_fits (K : PySem.W.Frag) : Sp := fun vs H Q _ => ∃ v : V, vs = [v] ∧ Kn H v ∧ ∀ b : Bool, (b = true ↔ GroundV v) → Q (.bl b) H
theorem len_ground_fits {K : PySem.W.Frag} {vs : List V} {H : Hp} {Q : VK} {E : XK} (h : sp_ground_fits K vs H Q E) : vs.length = ["value"].length := by
  obtain ⟨_, rfl, _⟩ := h
  rfl
def t_ground_fits (K : PySem.W.Frag) : TS := (tRet (tAndV (tCall (sp_is_int K) [] E0 (tCons (tVar 0) tNil)) (tOrV (tOp rEq (tVar 0) (tC (.int 0))) (tCall (sp_prime_fits K) [] E0 (tCons (tVar 0) (tCons (tC (.int 9999)) tNil))))))
theorem pure_ground_fits (K : PySem.W.Frag) (vs : List V) (H : Hp) (Q : VK) (E : XK) (h : sp_ground_fits K vs H Q E) : t_ground_fits K { nx := fun _ H' => Q .non H', rt := Q } (start ["value"] vs) H := by
  obtain ⟨v, rfl, hk, hq⟩ := h
  unfold t_ground_fits
  walk_at "z"
  refine ⟨v, rfl, hk, ?_⟩
  walk_at "z"
  cases v with
  | int n =>
    simp only [isI]
    walk_at "z"
    by_cases h3 : n = 0
    · rw [if_pos h3]
      exact hq _ ⟨fun _ => ⟨n, rfl, by omega, by omega, .inl h3⟩, fun _ => rfl⟩
    · rw [if_neg h3]
      refine ⟨n, _, rfl, by omega, fun b hb => hq b (hb.trans ⟨fun h => ⟨n, rfl, by have := h.2.1; omega, h.1, .inr h.2⟩, fun ⟨m, e, _, h4, h⟩ => ?_⟩)⟩
      cases e
      exact ⟨h4, h.resolve_left h3⟩
  | _ =>
    simp only [isI]
    walk_at "z"
    refine hq false ⟨fun h => (by cases h), fun ⟨m, e, _⟩ => (by cases e)⟩
theorem ok_ground_fits {P : Program} {w : World} {K : PySem.W.Frag} {mg : Str → Option Value} {base : Heap} (T : Tx K mg) : Okk P w K mg base 4 "ground_fits" ["value"] (sp_ground_fits K) := by
  obtain ⟨fd_is_int, F_is_int, b_is_int, g_is_int, k_is_int⟩ := ok_is_int (P := P) (w := w) (base := base) T
  obtain ⟨fd_prime_fits, F_prime_fits, b_prime_fits, g_prime_fits, k_prime_fits⟩ := ok_prime_fits (P := P) (w := w) (base := base) T
  obtain ⟨_, hc_LAST_GROUND⟩ := T.c_LAST_GROUND
  obtain ⟨fd, F⟩ := T.f_ground_fits
  refine ⟨fd, F.ok sc_ground_fits (fun vs H Q E h => len_ground_fits h) (fun cdv A outer s H vs Q E hr h => ⟨t_ground_fits K, PSs.nox ?_, pure_ground_fits K vs H Q E h⟩), F.bindsN (fun _ _ _ _ _ _ us hl => match us, hl with | [_], _ => rfl), T.g_ground_fits, F.kp⟩
  exact (pss_one (ps_ret (pe_and (pe_call F_is_int (hr.mono (by decide)) rfl g_is_int k_is_int b_is_int .nil pass0 (pa_cons (pv 0) pa_nil)) (pe_one (pe_or (pe_cmpR op_eq (pv 0) pe_int (nomark _)) (pe_one (pe_call F_prime_fits (hr.mono (by decide)) rfl g_prime_fits k_prime_fits b_prime_fits .nil pass0 (pa_cons (pv 0) (pa_cons (pe_glob rfl hc_LAST_GROUND ⟨_, rfl⟩) pa_nil)))))))))
/-! ### vector_fits -/
theorem sc_vector_fits : FnScope ["ground", "value", "many", "limit", "number"] ["ground", "value", "many", "limit"] (defScope s_vector_fits) := ⟨rfl, rfl, rfl, by decide +kernel, rfl, by decide +kernel, by decide +kernel⟩
def sp_vector_fits (K : PySem.W.Frag) : Sp := fun vs H Q _ => ∃ (g : Int) (v : V) (d : PyData) (m : Nat) (l : Int) (no : List Addr), vs = [.int g, v, .int (m : Int), .int l] ∧ Pl H no d v ∧ m < 2 ^ 20 ∧ ∀ H', Same H H' → Q (.bl (vecB g m l d)) H'
theorem len_vector_fits {K : PySem.W.Frag} {vs : List V} {H : Hp} {Q : VK} {E : XK} (h : sp_vector_fits K vs H Q E) : vs.length = ["ground", "value", "many", "limit"].length := by
  obtain ⟨_, _, _, _, _, _, rfl, _⟩ := h
  rfl
def t_vector_fits (K : PySem.W.Frag) : TS := (tSeq (tIfS (tOr (tNot (tB (tCB (rIsi K) (tCons (tVar 1) (tCons (tC (.ty "tuple")) tNil))))) (tTest (tOp rNe (tCB (rLenU K) (tCons (tVar 1) tNil)) (tVar 2)))) (tRet (tC (.bl false))) tNext)
  (tRet (tCB (rAll K) (tCons (tLc (iTup K (tVar 1)) (gName 4) tYes (tCall (sp_number_fits K) [] E0 (tCons (tVar 0) (tCons (tVar 4) (tCons (tVar 3) tNil)))) [4]) tNil))))
theorem pure_vector_fits (K : PySem.W.Frag) (vs : List V) (H : Hp) (Q : VK) (E : XK) (h : sp_vector_fits K vs H Q E) : t_vector_fits K { nx := fun _ H' => Q .non H', rt := Q } (start ["ground", "value", "many", "limit", "number"] vs) H := by
  obtain ⟨g, v, d, m, l, no, rfl, p, hm, hq⟩ := h
  unfold t_vector_fits
  walk_at "z"
  refine isi_pl p ?_
  walk_at "z"
  cases h : isTup d with
  | false =>
    have e : vecB g m l d = false := by
      cases d <;> first | rfl | simp [isTup] at h
    have := hq H (Same.refl H)
    rw [e] at this
    simpa using this
  | true =>
    obtain ⟨ds, rfl⟩ := tup_of h
    obtain ⟨a, xs, rfl, hT, hA⟩ := pl_tup p
    rw [if_neg (by decide)]
    refine lenT (sqT_of hT) ?_
    walk_at "z"
    by_cases hl : xs.length = m
    · rw [if_neg (by omega)]
      refine ⟨a, rfl, ⟨_, sqT_of hT⟩, comp_T (sqT_of hT) (fun i => (ds[i]?).map fun d => .bl (numB g l d)) (by omega) (fun i x H' hx s Qo hQo => ?_) (fun D H' s hD => ?_)⟩
      · obtain ⟨e, he, pe⟩ := hA.get hx
        walk_at "z"
        obtain ⟨k2, kn⟩ := pl_num (g := g) (l := l) (pe.same s)
        refine ⟨g, x, l, rfl, k2, fun b hb => ?_⟩
        have := hQo H' (Same.refl _)
        rw [he] at this
        have e : b = numB g l e := by rw [Bool.eq_iff_iff, hb, kn]
        rw [e]
        exact this
      · rw [hA.1, all_bl] at hD
        refine ⟨D, _, rfl, sqL_of hD, ?_⟩
        have := hq H' s
        rw [vecB_t] at this
        rw [decide_eq_true (by rw [← hA.1]; exact hl), Bool.true_and] at this
        rw [List.all_map]
        exact this
    · rw [if_pos (by omega)]
      have := hq H (Same.refl H)
      rw [vecB_t] at this
      rw [decide_eq_false (by rw [← hA.1]; exact hl), Bool.false_and] at this
      exact this
theorem ok_vector_fits {P : Program} {w : World} {K : PySem.W.Frag} {mg : Str → Option Value} {base : Heap} (T : Tx K mg) : Okk P w K mg base 4 "vector_fits" ["ground", "value", "many", "limit"] (sp_vector_fits K) := by
  obtain ⟨fd_number_fits, F_number_fits, b_number_fits, g_number_fits, k_number_fits⟩ := ok_number_fits (P := P) (w := w) (base := base) T
  have hf_all := T.n_all
  have hf_isinstance := T.n_isinstance
  have hf_len := T.n_len
  have hf_tuple := T.n_tuple
  obtain ⟨fd, F⟩ := T.f_vector_fits
  refine ⟨fd, F.ok sc_vector_fits (fun vs H Q E h => len_vector_fits h) (fun cdv A outer s H vs Q E hr h => ⟨t_vector_fits K, PSs.nox ?_, pure_vector_fits K vs H Q E h⟩), F.bindsN (fun _ _ _ _ _ _ us hl => match us, hl with | [_, _, _, _], _ => rfl), T.g_vector_fits, F.kp⟩
  exact (pss_cons (ps_if (PW.pt (pw_or (pt_not (pt_val (pe_callB call_isi (by rfl) hf_isinstance (by decide +kernel) (pa_cons (pv 1) (pa_cons (pe_bltn (v := .ty "tuple") rfl hf_tuple (by decide +kernel) rfl) pa_nil))))) (pw_or1 (pt_cmpR op_ne (pe_callB call_len_seq (by rfl) hf_len (by decide +kernel) (pa_cons (pv 1) pa_nil)) (pv 2) (nomark _))))) (pss_one (ps_ret pe_bl)) pss_nil)
      (pss_one (ps_ret (pe_callB (cr_all rfl) (by rfl) hf_all (by decide +kernel) (pa_cons (pe_lc (own := [("number", 4)]) (g := (gName 4)) (tt := tYes) rfl sc_vector_fits.nd (pi_tup (pv 1)) (blkOk_by (own := [("number", 4)]) (N := ["ground", "value", "many", "limit", "number"]) (sc := defScope s_vector_fits) (by decide +kernel)) (fun _ _ _ _ _ => (pg_name (i := 4) sc_vector_fits.nd rfl (by first | exact Or.inl rfl | exact Or.inr rfl))) (fun _ _ _ _ _ => pts_nil) (fun _ _ _ _ _ => (pe_call F_number_fits (hr.mono (by decide)) rfl g_number_fits k_number_fits b_number_fits .nil pass0 (pa_cons (pv 0) (pa_cons (pv 4) (pa_cons (pv 3) pa_nil)))))) pa_nil)))))
/-! ### product_rows -/
theorem sc_product_rows : FnScope ["ground", "one", "other", "left", "row", "right", "column", "below", "bottom"] ["ground", "one", "other"] (defScope s_product_rows) := ⟨rfl, rfl, rfl, by decide +kernel, rfl, by decide +kernel, by decide +kernel⟩
theorem over_zero {F : Type} [Lean.Grind.Field F] [Lean.Grind.IsCharP F 0] {t b x y : Int} (hb : Lin.ph F b ≠ 0) (h : Frac t b x y) : Lin.val F x y = Lin.ph F t * (Lin.ph F b)⁻¹ := by
  obtain ⟨h1, _, h2⟩ := h
  have hy : Lin.ph F y ≠ 0 := fun e => by rw [Lin.ph_eq_zero 0] at e; simp at e; omega
  have e := congrArg (Lin.ph F) h2
  rw [Lin.ph_mul, Lin.ph_mul] at e
  unfold Lin.val
  grind
theorem over_prime {F : Type} [Lean.Grind.Field F] {g : Nat} [Lean.Grind.IsCharP F g] {t b u : Int} (hg : GroundV (.int (g : Int))) (g0 : (g : Int) ≠ 0) (hb : Lin.ph F b ≠ 0)
    (hu : b * u % (g : Int) = ((Nat.gcd (b % (g : Int)).natAbs (g : Int).natAbs : Nat) : Int) % (g : Int)) : Lin.val F (t * u % (g : Int)) 1 = Lin.ph F t * (Lin.ph F b)⁻¹ := by
  have gp : 0 < (g : Int) := by omega
  have h1 := Int.emod_nonneg b g0
  have h2 := Int.emod_lt_of_pos b gp
  have h3 : b % (g : Int) ≠ 0 := fun e => hb ((Lin.ph_eq_zero g).2 e)
  have n : NumR (fun _ => none) (g : Int) (.int (b % (g : Int))) (b % (g : Int)) 1 := .inr ⟨g0, rfl, rfl, h1, h2⟩
  rw [ground_cop hg n h3 g0] at hu
  have e : Lin.ph F (b * u) = Lin.ph F 1 := (Lin.ph_eq g).2 hu
  rw [Lin.ph_mul, Lin.ph_one] at e
  rw [Lin.val_one, Lin.ph_mod, Lin.ph_mul]
  grind
theorem quo {K : PySem.W.Frag} {F : Type} [Lean.Grind.Field F] {g : Nat} [Lean.Grind.IsCharP F g] {n d : Int} {H : Hp} {Q : VK} {E : XK} (hg : GroundV (.int (g : Int))) (sn : Sz 8000 n) (sd : Sz 8000 d) (hd : Lin.ph F d ≠ 0)
    (q : ∀ v (r : Int × Int) H', Same H H' → NumR H' g v r.1 r.2 → OverR F d n r → Q v H') : sp_quotient K [.int (g : Int), .int n, .int d] H Q E := by
  have g9 := ground_le hg
  refine ⟨(g : Int), n, d, rfl, by omega, fun g0 => ⟨fun e => hd (by rw [e]; exact Lin.ph_zero), sd, fun p x y H4 s fr _ _ hp => ?_⟩, fun g0 => ⟨ground_sz hg, sn, fun w u H4 s hw hu => ?_⟩⟩
  · have g00 : g = 0 := by omega
    subst g00
    exact q (.ref p) (x, y) H4 s (.inl ⟨rfl, ⟨p, rfl, hp⟩, fr.1, fr.2.1⟩) (over_zero hd fr)
  · subst hw
    exact q (.int (n * u % (g : Int))) (n * u % (g : Int), 1) H4 s (.inr ⟨g0, rfl, rfl, Int.emod_nonneg _ g0, Int.emod_lt_of_pos _ (by omega)⟩) (over_prime hg g0 hd hu)
theorem ph_nz {F : Type} [Lean.Grind.Field F] {g : Nat} [Lean.Grind.IsCharP F g] {B : Int} (h0 : g = 0 → 1 ≤ B) (h1 : g ≠ 0 → B = 1) : Lin.ph F B ≠ 0 := fun e => by
  by_cases g0 : g = 0
  · subst g0
    rw [Lin.ph_eq_zero 0] at e
    have := h0 rfl
    simp at e
    omega
  · rw [h1 g0, Lin.ph_one] at e
    exact Lin.one_ne e
def RowOK (g : Int) (qs : List (Int × Int)) (W : Nat) : Prop := qs.length = W ∧ (∀ q ∈ qs, Sz 150 q.1) ∧ Sz 450 (prI (qs.map (·.2)))
theorem sm_map {F : Type} [Lean.Grind.Field F] (f : Nat → F) (h : Nat → Nat) : ∀ L : List Nat, Lin.sm (L.map h) f = Lin.sm L fun i => f (h i)
  | [] => rfl
  | c :: L => by simp only [List.map_cons, Lin.sm, sm_map f h L]
theorem dot_sm {F : Type} [Lean.Grind.Field F] : ∀ (ns ms : List Int), ns.length = ms.length → Lin.ph F (dotI ns ms) = Lin.sm (List.range ns.length) fun k => Lin.ph F (ns.getD k 0) * Lin.ph F (ms.getD k 0)
  | [], [], _ => Lin.ph_zero
  | n :: ns, m :: ms, h => by
    have ih := dot_sm (F := F) ns ms (by simpa using h)
    have e : dotI (n :: ns) (m :: ms) = n * m + dotI ns ms := by simp [dotI]
    rw [e, Lin.ph_add, Lin.ph_mul, ih, List.length_cons, List.range_succ_eq_map]
    simp only [Lin.sm, sm_map, List.getD_cons_zero, List.getD_cons_succ]
theorem dot_sz : ∀ (ns ms : List Int), (∀ n ∈ ns, Sz 600 n) → (∀ m ∈ ms, Sz 600 m) → (dotI ns ms).natAbs ≤ ns.length * 2 ^ 1200
  | [], _, _, _ => by simp [dotI]
  | _ :: _, [], _, _ => by simp [dotI]
  | n :: ns, m :: ms, h, k => by
    have ih := dot_sz ns ms (fun x hx => h x (by simp [hx])) (fun x hx => k x (by simp [hx]))
    have e : dotI (n :: ns) (m :: ms) = n * m + dotI ns ms := by simp [dotI]
    have h1 : (n * m).natAbs < 2 ^ (600 + 600) := sz_mul (h n (by simp)) (k m (by simp))
    rw [e, List.length_cons, Nat.add_mul]
    have := Int.natAbs_add_le (n * m) (dotI ns ms)
    omega
theorem num_bot' {g : Nat} {H : Hp} {v : V} {qs : List (Int × Int)} {b : Bool} (h : SeqP H (g : Int) b v qs) {F : Type} [Lean.Grind.Field F] [Lean.Grind.IsCharP F g] : ∀ q ∈ qs, Lin.ph F q.2 ≠ 0 := fun q hq => by
  have hb := seq_bot h q hq
  exact ph_nz (fun _ => hb.1) fun g0 => (hb.2 (by omega)).1
theorem prI_one : ∀ {l : List Int}, (∀ n ∈ l, n = 1) → prI l = 1
  | [], _ => rfl
  | n :: l, h => by
    rw [prI, h n (by simp), prI_one fun m hm => h m (by simp [hm])]; rfl
theorem wq_nz {g : Nat} {H : Hp} {v : V} {qs : List (Int × Int)} {b : Bool} {c : List Int × Int} (h : SeqP H (g : Int) b v qs) (w : WQ qs c) {F : Type} [Lean.Grind.Field F] [Lean.Grind.IsCharP F g] : Lin.ph F c.2 ≠ 0 := by
  refine ph_nz (fun _ => w.2.1) fun g0 => ?_
  have h1 := w.2.2.2
  rw [prI_one (fun n hn => by
    obtain ⟨q, hq, rfl⟩ := List.mem_map.mp hn
    exact ((seq_bot h q hq).2 (by omega)).1)] at h1
  have := w.2.1
  omega
theorem wq_sz {g : Int} {W : Nat} {H : Hp} {v : V} {qs : List (Int × Int)} {b : Bool} {c : List Int × Int} (h : SeqP H g b v qs) (w : WQ qs c) (ok : RowOK g qs W) : (∀ n ∈ c.1, Sz 600 n) ∧ Sz 450 c.2 := by
  obtain ⟨e, h1, h2, h3⟩ := w
  have sc : Sz 450 c.2 := sz_le ok.2.2 (by omega)
  refine ⟨fun n hn => ?_, sc⟩
  rw [e] at hn
  obtain ⟨q, hq, rfl⟩ := List.mem_map.mp hn
  have a0 := (seq_bot h q hq).1
  have a1 := Int.ediv_nonneg (show 0 ≤ c.2 by omega) (show 0 ≤ q.2 by omega)
  have a2 := Int.ediv_le_self q.2 (show 0 ≤ c.2 by omega)
  exact sz_mul (a := 150) (b := 450) (ok.2.1 q hq) (sz_le sc (by omega))
theorem wq_val {g : Nat} {H : Hp} {v : V} {qs : List (Int × Int)} {b : Bool} {c : List Int × Int} (h : SeqP H (g : Int) b v qs) (w : WQ qs c) {F : Type} [Lean.Grind.Field F] [Lean.Grind.IsCharP F g] (k : Nat) : Lin.ph F (c.1.getD k 0) = rowF F qs k * Lin.ph F c.2 := by
  rw [w.1]
  by_cases hk : k < qs.length
  · have e := List.getElem?_eq_getElem hk
    have hm := List.getElem_mem hk
    generalize qs[k] = q at e hm
    rw [rowF_at e, List.getD_eq_getElem?_getD, List.getElem?_map, e]
    obtain ⟨d, hd⟩ := w.2.2.1 q hm
    have nz := num_bot' (F := F) h q hm
    have q1 := (seq_bot h q hm).1
    show Lin.ph F (q.1 * (c.2 / q.2)) = _
    rw [hd, Int.mul_ediv_cancel_left _ (by omega), Lin.ph_mul, Lin.ph_mul]
    unfold Lin.val
    grind
  · rw [rowF_no (by omega), List.getD_eq_getElem?_getD, List.getElem?_eq_none (by simp; omega)]
    show Lin.ph F 0 = _
    rw [Lin.ph_zero]; grind
theorem getWP {K : PySem.W.Frag} {g : Nat} {D : Addr} {Hc : Hp} {x : V} {qs : List (Int × Int)} {Wd : Nat} {Qo : VK} {E : XK} (hD : ∃ zs, Hc D = some (.lst zs)) (hx : SeqP Hc (g : Int) false x qs) (ok : RowOK (g : Int) qs Wd) (h12 : Wd ≤ 12) (hQo : ∀ H2 y c, Same Hc H2 → WP D H2 y c → WQ qs c → Qo y H2) : sp_whole_row K [.int (g : Int), x] Hc Qo E := by
  obtain ⟨T, ys, rfl, hT, hy⟩ := hx
  refine ⟨(g : Int), T, ys, qs, false, rfl, hT, hy, by rw [ok.1]; omega, sz_up ok.2.2 (by decide), fun q hq => sz_up (ok.2.1 q hq) (by decide), fun p L B H2 hL s hp hL2 hB hd hle => ?_⟩
  obtain ⟨zs, hz⟩ := hD
  exact hQo H2 (.ref p) (qs.map (fun q => q.1 * (B / q.2)), B) s ⟨p, L, rfl, (fun e => by rw [e, hz] at hL; cases hL), hp, hL2⟩ ⟨rfl, hB, hd, hle⟩
def sp_product_rows (K : PySem.W.Frag) : Sp := fun vs H Q _ => ∃ (g : Nat) (F : Type) (_ : Lean.Grind.Field F) (_ : Lean.Grind.IsCharP F g) (v w : V) (qss rss : List (List (Int × Int))) (W : Nat), vs = [.int (g : Int), v, w] ∧ GroundV (.int (g : Int)) ∧ TabP H g true v qss ∧ TabN H g w rss ∧ 1 ≤ rss.length ∧ rss.length ≤ 12 ∧ qss.length ≤ 12 ∧ W ≤ 12 ∧
  (∀ qs ∈ qss, RowOK g qs rss.length) ∧ (∀ rs ∈ rss, rs.length = W) ∧ (∀ rs ∈ turnQ rss W, RowOK g rs rss.length) ∧
  ∀ z tss H', Same H H' → TabN H' g z tss → tss.length = qss.length → (∀ ts ∈ tss, ts.length = W) → (∀ i j, i < qss.length → j < W → atF F tss i j = Lin.sm (List.range rss.length) fun k => atF F qss i k * atF F rss k j) → Q z H'
theorem len_product_rows {K : PySem.W.Frag} {vs : List V} {H : Hp} {Q : VK} {E : XK} (h : sp_product_rows K vs H Q E) : vs.length = ["ground", "one", "other"].length := by
  obtain ⟨_, _, _, _, _, _, _, _, _, rfl, _⟩ := h
  rfl
def t_product_rows (K : PySem.W.Frag) : TS := (tSeq (tAsg (tLc (iList K (tVar 1)) (gName 4) tYes (tCall (sp_whole_row K) [] E0 (tCons (tVar 0) (tCons (tVar 4) tNil))) [4]) (gName 3))
  (tSeq (tAsg (tLc (iTup K (tCall (sp_turned K) [] E0 (tCons (tVar 2) tNil))) (gName 6) tYes (tCall (sp_whole_row K) [] E0 (tCons (tVar 0) (tCons (tVar 6) tNil))) [6]) (gName 5))
  (tRet (tCB (rTupOf K) (tCons (tLc (iList K (tVar 3)) (gTup K 2 (gCons (gName 4) (gCons (gName 8) gNil))) tYes (tCB (rTupOf K) (tCons (tLc (iList K (tVar 5)) (gTup K 2 (gCons (gName 6) (gCons (gName 7) gNil))) tYes (tCall (sp_quotient K) [] E0 (tCons (tVar 0) (tCons (tCall (sp_integer_dot K) [] E0 (tCons (tVar 4) (tCons (tVar 6) tNil))) (tCons (tOp rMulU (tVar 8) (tVar 7)) tNil)))) [6, 7]) tNil)) [4, 8]) tNil)))))
theorem turn_row {F : Type} [Lean.Grind.Field F] {qss : List (List (Int × Int))} {W j : Nat} (hW : ∀ qs ∈ qss, qs.length = W) (hj : j < W) (k : Nat) : rowF F (qss.map fun qs => qs.getD j (0, 1)) k = atF F qss k j := by
  unfold atF
  by_cases hk : k < qss.length
  · have e := List.getElem?_eq_getElem hk
    have hm := List.getElem_mem hk
    generalize qss[k] = qs at e hm
    rw [rowF_at (q := qs.getD j (0, 1)) (by rw [List.getElem?_map, e]; rfl), Lin.getD_some e, rowF_at]
    rw [List.getD_eq_getElem?_getD, List.getElem?_eq_getElem (show j < qs.length by rw [hW qs hm]; exact hj)]; rfl
  · rw [rowF_no (by simp; omega), List.getD_eq_getElem?_getD, List.getElem?_eq_none (by omega)]
    exact (rowF_no (by simp)).symm
theorem getWPb {K : PySem.W.Frag} {g : Nat} {D : Addr} {Hc : Hp} {x : V} {qs : List (Int × Int)} {Wd : Nat} {Qo : VK} {E : XK} (hD : ∃ zs, Hc D = some (.lst zs)) (hx : SeqP Hc (g : Int) true x qs) (ok : RowOK (g : Int) qs Wd) (h12 : Wd ≤ 12) (hQo : ∀ H2 y c, Same Hc H2 → WP D H2 y c → WQ qs c → Qo y H2) : sp_whole_row K [.int (g : Int), x] Hc Qo E := by
  obtain ⟨T, ys, rfl, hT, hy⟩ := hx
  refine ⟨(g : Int), T, ys, qs, true, rfl, hT, hy, by rw [ok.1]; omega, sz_up ok.2.2 (by decide), fun q hq => sz_up (ok.2.1 q hq) (by decide), fun p L B H2 hL s hp hL2 hB hd hle => ?_⟩
  obtain ⟨zs, hz⟩ := hD
  exact hQo H2 (.ref p) (qs.map (fun q => q.1 * (B / q.2)), B) s ⟨p, L, rfl, (fun e => by rw [e, hz] at hL; cases hL), hp, hL2⟩ ⟨rfl, hB, hd, hle⟩
theorem pure_product_rows (K : PySem.W.Frag) (vs : List V) (H : Hp) (Q : VK) (E : XK) (h : sp_product_rows K vs H Q E) : t_product_rows K { nx := fun _ H' => Q .non H', rt := Q } (start ["ground", "one", "other", "left", "row", "right", "column", "below", "bottom"] vs) H := by
  obtain ⟨g, F, iF, iC, v, w, qss, rss, W, rfl, hg, ⟨A, xs, rfl, hA, hR⟩, hT2, h1, h12, hq12, W12, ok1, hW, ok2, hq⟩ := h
  unfold t_product_rows
  walk_at "z"
  have xl := hR.1
  refine ⟨A, rfl, ⟨_, sqL_of hA⟩, comp_BD (b := true) (P := WP) (S := fun i c => ∃ qs, qss[i]? = some qs ∧ WQ qs c) (fun h s => h.same s) (fun h hD => h.upd hD) hA (by omega) (fun D i x H' _ hD hx s Qo hQo => ?_) (fun D1 H1 zs1 cs1 hD1 s1 hz1 hA1 hl1 hS1 => ?_)⟩
  · obtain ⟨qs, hqs, hr⟩ := hR.get hx
    walk_at "z"
    exact getWPb hD (hr.same s) (ok1 qs (List.mem_of_getElem? hqs)) h12 fun H2 y c s2 p w => hQo H2 y c s2 p ⟨qs, hqs, w⟩
  · refine ⟨(g : Int), w, rss, W, rfl, hT2.same s1, h1, by omega, by omega, hW, fun z H2 s2 hz => ?_⟩
    obtain ⟨B, ys, rfl, hB, hS⟩ := hz
    have yl := hS.1
    have tl : (turnQ rss W).length = W := by simp [turnQ]
    refine ⟨B, rfl, ⟨_, sqT_of hB⟩, comp_BD (b := false) (P := WP) (S := fun j c => ∃ rs, (turnQ rss W)[j]? = some rs ∧ WQ rs c) (fun h s => h.same s) (fun h hD => h.upd hD) hB (by omega) (fun D j x H' _ hD hx s Qo hQo => ?_) (fun D2 H3 zs2 cs2 hD2 s3 hz2 hA2 hl2 hS2 => ?_)⟩
    · obtain ⟨rs, hrs, hr⟩ := hS.get hx
      walk_at "z"
      exact getWP hD (hr.same s) (ok2 rs (List.mem_of_getElem? hrs)) h12 fun H2 y c s2 p w => hQo H2 y c s2 p ⟨rs, hrs, w⟩
    · have hz1' := s3 _ _ (s2 _ _ hz1)
      refine ⟨D1, rfl, ⟨_, sqL_of hz1'⟩, comp_LA (P := fun H v a => RowN H g v a) (S := fun i ts => ts.length = W ∧ ∀ j, j < W → rowF F ts j = Lin.sm (List.range rss.length) fun k => atF F qss i k * atF F rss k j) (stay_row g) hz1' (by rw [hA1.1, hl1]; omega) (fun i x H4 hx s4 Qo hQo => ?_) (fun D4 H4 zs as hD4 s4 hz hAA hlen hSS => ?_)⟩
      · obtain ⟨c, hc, p, L, rfl, nL, hp, hL⟩ := hA1.get hx
        obtain ⟨qs, hqs, hw⟩ := hS1 i c hc
        have hi : i < xs.length := by rw [xl]; exact (List.getElem?_eq_some_iff.mp hqs).1
        have hrow : SeqP H (g : Int) true xs[i] qs := hR.2 i _ _ (List.getElem?_eq_getElem hi) hqs
        have okq := ok1 qs (List.mem_of_getElem? hqs)
        obtain ⟨sn, sc⟩ := wq_sz hrow hw okq
        have nzc := wq_nz (F := F) hrow hw
        have cl : c.1.length = rss.length := by rw [hw.1, List.length_map]; exact okq.1
        walk_at "z"
        refine ⟨_, sqT_of (s4 _ _ (s3 _ _ (s2 _ _ hp))), rfl, ?_⟩
        walk_at "z"
        refine ⟨D2, rfl, ⟨_, sqL_of (s4 _ _ hz2)⟩, comp_LA (P := fun H v (q : Int × Int) => NumR H g v q.1 q.2) (S := fun j (q : Int × Int) => Lin.val F q.1 q.2 = Lin.sm (List.range rss.length) fun k => atF F qss i k * atF F rss k j) (stay_num g) (s4 _ _ hz2) (by rw [hA2.1, hl2]; omega) (fun j y H5 hy s5 Qo2 hQo2 => ?_) (fun D5 H5 zs as hD5 s5 hz hAA hlen hSS => ?_)⟩
        · obtain ⟨d, hd, p2, L2, rfl, nL2, hp2, hL2⟩ := hA2.get hy
          obtain ⟨rs, hrs, hw2⟩ := hS2 j d hd
          have hj : j < ys.length := by rw [yl]; exact (List.getElem?_eq_some_iff.mp hrs).1
          have hrow2 : SeqP H2 (g : Int) false ys[j] rs := hS.2 j _ _ (List.getElem?_eq_getElem hj) hrs
          have okr := ok2 rs (List.mem_of_getElem? hrs)
          obtain ⟨sm', sd⟩ := wq_sz hrow2 hw2 okr
          have nzd := wq_nz (F := F) hrow2 hw2
          have dl : d.1.length = rss.length := by rw [hw2.1, List.length_map]; exact okr.1
          walk_at "z"
          refine ⟨_, sqT_of (s5 _ _ (s4 _ _ hp2)), rfl, ?_⟩
          walk_at "z"
          refine ⟨L, L2, c.1, d.1, rfl, s5 _ _ (s4 _ _ (s3 _ _ (s2 _ _ hL))), s5 _ _ (s4 _ _ hL2), by rw [cl, dl], by rw [cl]; exact h12, fun n hn => sz_up (sn n hn) (by decide), fun n hn => sz_up (sm' n hn) (by decide), fun H6 s6 => ?_⟩
          refine ⟨mulW sc sd (by decide) (by decide) (by decide), ?_⟩
          have szd : Sz 8000 (dotI c.1 d.1) := by
            have h1 := dot_sz c.1 d.1 sn sm'
            rw [cl] at h1
            have h2 : rss.length * 2 ^ 1200 ≤ 2 ^ 4 * 2 ^ 1200 := Nat.mul_le_mul_right _ (by omega)
            rw [← Nat.pow_add] at h2
            exact Nat.lt_of_le_of_lt (Nat.le_trans h1 h2) (Nat.pow_lt_pow_right (by decide) (by decide))
          refine quo (F := F) hg szd (sz_up (sz_mul sc sd) (by decide)) (by rw [Lin.ph_mul]; grind) fun v r H7 s7 n ov => hQo2 H7 v r (s6.trans s7) n ?_
          have e1 : Lin.ph F (dotI c.1 d.1) = (Lin.ph F c.2 * Lin.ph F d.2) * Lin.sm (List.range rss.length) fun k => atF F qss i k * atF F rss k j := by
            rw [dot_sm _ _ (by rw [cl, dl]), cl, ← Lin.sm_mul]
            refine Lin.sm_congr _ fun k _ => ?_
            have hjW : j < W := by omega
            have er : rs = rss.map fun qs => qs.getD j (0, 1) := by
              unfold turnQ at hrs
              rw [List.getElem?_map, List.getElem?_range hjW] at hrs
              exact (Option.some.inj hrs).symm
            rw [wq_val (F := F) hrow hw k, wq_val (F := F) hrow2 hw2 k, atF_at hqs, ← turn_row hW hjW k, ← er]
            grind
          have e2 : Lin.val F r.1 r.2 = Lin.ph F (dotI c.1 d.1) * (Lin.ph F (c.2 * d.2))⁻¹ := ov
          rw [e2, e1, Lin.ph_mul]
          grind
        · refine ⟨D5, _, rfl, .inl ⟨sqL_of hz, fun T2 hT2 => ?_⟩⟩
          have s6 := same_upd (o := .tup zs) hT2
          have hlW : as.length = W := by rw [hlen, hA2.1, hl2, yl, tl]
          refine hQo _ _ as (s5.trans s6) ⟨T2, zs, rfl, upd_same, hAA.imp fun v q n => n.same s6⟩ ⟨hlW, fun j hj => ?_⟩
          have e := List.getElem?_eq_getElem (show j < as.length by omega)
          rw [rowF_at e]
          exact hSS j _ e
      · refine ⟨D4, _, rfl, .inl ⟨sqL_of hz, fun T2 hT2 => ?_⟩⟩
        have s6 := same_upd (o := .tup zs) hT2
        have hlq : as.length = qss.length := by rw [hlen, hA1.1, hl1, xl]
        refine hq (.ref T2) as _ ((((s1.trans s2).trans s3).trans s4).trans s6) ⟨T2, zs, rfl, upd_same, hAA.imp fun v q n => n.same s6⟩ hlq (fun ts hts => ?_) fun i j hi hj => ?_
        · obtain ⟨k, hk⟩ := List.mem_iff_getElem?.mp hts
          exact (hSS k ts hk).1
        · have e := List.getElem?_eq_getElem (show i < as.length by omega)
          rw [atF_at e]
          exact (hSS i _ e).2 j hj
theorem ok_product_rows {P : Program} {w : World} {K : PySem.W.Frag} {mg : Str → Option Value} {base : Heap} (T : Tx K mg) : Okk P w K mg base 4 "product_rows" ["ground", "one", "other"] (sp_product_rows K) := by
  obtain ⟨fd_quotient, F_quotient, b_quotient, g_quotient, k_quotient⟩ := ok_quotient (P := P) (w := w) (base := base) T
  obtain ⟨fd_whole_row, F_whole_row, b_whole_row, g_whole_row, k_whole_row⟩ := ok_whole_row (P := P) (w := w) (base := base) T
  obtain ⟨fd_integer_dot, F_integer_dot, b_integer_dot, g_integer_dot, k_integer_dot⟩ := ok_integer_dot (P := P) (w := w) (base := base) T
  obtain ⟨fd_turned, F_turned, b_turned, g_turned, k_turned⟩ := ok_turned (P := P) (w := w) (base := base) T
  have hf_tuple := T.n_tuple
  obtain ⟨fd, F⟩ := T.f_product_rows
  refine ⟨fd, F.ok sc_product_rows (fun vs H Q E h => len_product_rows h) (fun cdv A outer s H vs Q E hr h => ⟨t_product_rows K, PSs.nox ?_, pure_product_rows K vs H Q E h⟩), F.bindsN (fun _ _ _ _ _ _ us hl => match us, hl with | [_, _, _], _ => rfl), T.g_product_rows, F.kp⟩
  exact (pss_cons (ps_setLc (i := 3) (own := [("row", 4)]) (g := (gName 4)) (tt := tYes) rfl sc_product_rows.nd rfl rfl (sw_true rfl rfl rfl (by decide +kernel)) (pi_list (pv 1)) (blkOk_by (own := [("row", 4)]) (N := ["ground", "one", "other", "left", "row", "right", "column", "below", "bottom"]) (sc := defScope s_product_rows) (by decide +kernel)) (fun _ _ _ _ _ => (pg_name (i := 4) sc_product_rows.nd rfl (by first | exact Or.inl rfl | exact Or.inr rfl))) (fun _ _ _ _ _ => pts_nil) (fun _ _ _ _ _ => (pe_call F_whole_row (hr.mono (by decide)) rfl g_whole_row k_whole_row b_whole_row .nil pass0 (pa_cons (pv 0) (pa_cons (pv 4) pa_nil)))))
      (pss_cons (ps_set (i := 5) sc_product_rows.nd rfl (by first | exact Or.inl rfl | exact Or.inr rfl) (pe_lc (own := [("column", 6)]) (g := (gName 6)) (tt := tYes) rfl sc_product_rows.nd (pi_tup (pe_call F_turned (hr.mono (by decide)) rfl g_turned k_turned b_turned .nil pass0 (pa_cons (pv 2) pa_nil))) (blkOk_by (own := [("column", 6)]) (N := ["ground", "one", "other", "left", "row", "right", "column", "below", "bottom"]) (sc := defScope s_product_rows) (by decide +kernel)) (fun _ _ _ _ _ => (pg_name (i := 6) sc_product_rows.nd rfl (by first | exact Or.inl rfl | exact Or.inr rfl))) (fun _ _ _ _ _ => pts_nil) (fun _ _ _ _ _ => (pe_call F_whole_row (hr.mono (by decide)) rfl g_whole_row k_whole_row b_whole_row .nil pass0 (pa_cons (pv 0) (pa_cons (pv 6) pa_nil))))))
      (pss_one (ps_ret (pe_callTy call_tuple_of (by rfl) hf_tuple (by decide +kernel) (pa_cons (pe_lc (own := [("row", 4), ("bottom", 8)]) (g := (gTup K 2 (gCons (gName 4) (gCons (gName 8) gNil)))) (tt := tYes) rfl sc_product_rows.nd (pi_list (pv 3)) (blkOk_by (own := [("row", 4), ("bottom", 8)]) (N := ["ground", "one", "other", "left", "row", "right", "column", "below", "bottom"]) (sc := defScope s_product_rows) (by decide +kernel)) (fun _ _ _ _ _ => (pg_tup rfl (pgs_cons (pg_name (i := 4) sc_product_rows.nd rfl (by first | exact Or.inl rfl | exact Or.inr rfl)) (pgs_cons (pg_name (i := 8) sc_product_rows.nd rfl (by first | exact Or.inl rfl | exact Or.inr rfl)) pgs_nil)))) (fun _ _ _ _ _ => pts_nil) (fun _ _ _ _ _ => (pe_callTy call_tuple_of (by rfl) hf_tuple (by decide +kernel) (pa_cons (pe_lc (own := [("column", 6), ("below", 7)]) (g := (gTup K 2 (gCons (gName 6) (gCons (gName 7) gNil)))) (tt := tYes) rfl sc_product_rows.nd (pi_list (pv 5)) (blkOk_by (own := [("column", 6), ("below", 7)]) (by kernel_rfl)) (fun _ _ _ _ _ => (pg_tup rfl (pgs_cons (pg_name (i := 6) sc_product_rows.nd rfl (by first | exact Or.inl rfl | exact Or.inr rfl)) (pgs_cons (pg_name (i := 7) sc_product_rows.nd rfl (by first | exact Or.inl rfl | exact Or.inr rfl)) pgs_nil)))) (fun _ _ _ _ _ => pts_nil) (fun _ _ _ _ _ => (pe_call F_quotient (hr.mono (by decide)) rfl g_quotient k_quotient b_quotient .nil pass0 (pa_cons (pv 0) (pa_cons (pe_call F_integer_dot (hr.mono (by decide)) rfl g_integer_dot k_integer_dot b_integer_dot .nil pass0 (pa_cons (pv 4) (pa_cons (pv 6) pa_nil))) (pa_cons (pe_op op_mulU (pv 8) (pv 7)) pa_nil)))))) pa_nil)))) pa_nil))))))
/-! ### cleared -/
theorem sc_cleared : FnScope ["ground", "rows", "width", "row", "leads", "lead", "sign", "column", "top", "found", "upper", "i"] ["ground", "rows", "width"] (defScope s_cleared) := ⟨rfl, rfl, rfl, by decide +kernel, rfl, by decide +kernel, by decide +kernel⟩
theorem All2.mem {α β : Type} {R : α → β → Prop} {xs : List α} {qs : List β} (h : All2 R xs qs) {x : α} (hx : x ∈ xs) : ∃ q, R x q := by
  obtain ⟨i, hi⟩ := List.mem_iff_getElem?.mp hx
  obtain ⟨q, _, hq⟩ := h.get hi
  exact ⟨q, hq⟩
theorem All2.swap {α β : Type} {R : α → β → Prop} {xs : List α} {qs : List β} (h : All2 R xs qs) {i j : Nat} {a b : α} {c d : β} (ha : xs[i]? = some a) (hb : xs[j]? = some b) (hc : qs[i]? = some c) (hd : qs[j]? = some d) :
    All2 R (Lin.swapL xs i j a b) (Lin.swapL qs i j c d) := by
  refine ⟨by simp [Lin.swapL, h.1], fun k v q hv hq => ?_⟩
  rw [Lin.swap_at ha hb] at hv
  rw [Lin.swap_at hc hd] at hq
  by_cases e1 : k = j
  · rw [if_pos e1] at hv hq
    cases hv; cases hq
    exact h.2 i _ _ ha hc
  · rw [if_neg e1] at hv hq
    by_cases e2 : k = i
    · rw [if_pos e2] at hv hq
      cases hv; cases hq
      exact h.2 j _ _ hb hd
    · rw [if_neg e2] at hv hq
      exact h.2 k _ _ hv hq
def CIn (g : Nat) (nss : List (List Int)) (W w B : Nat) : Prop := (∀ r ∈ nss, r.length = W) ∧ w ≤ W ∧ W < 2 ^ 20 ∧ nss.length ≤ 12 ∧ GroundV (.int (g : Int)) ∧ B ≤ 600 ∧ (∀ r ∈ nss, ∀ n ∈ r, n.natAbs < 2 ^ B) ∧ (g ≠ 0 → ∀ r ∈ nss, ∀ n ∈ r, 0 ≤ n ∧ n < (g : Int))
def sp_cleared (K : PySem.W.Frag) : Sp := fun vs H Q _ => ∃ (g : Nat) (F : Type) (_ : Lean.Grind.Field F) (_ : Lean.Grind.IsCharP F g) (A : Addr) (xs : List V) (nss : List (List Int)) (W w B : Nat), vs = [.int (g : Int), .ref A, .int (w : Int)] ∧ H A = some (.lst xs) ∧ All2 (ListI H) xs nss ∧ CIn g nss W w B ∧
  ∀ P A' T xs' M C lead sign R X H', Same H H' → H' P = some (.tup [.ref A', .ref T, .int lead, .int sign]) → H' A' = some (.lst xs') → All2 (ListI H') xs' M → H' T = some (.tup (C.map fun c : Nat => V.int (c : Int))) → (sign = 1 ∨ sign = -1) → Lin.CSt F g nss W w M C lead R X → Lin.SgP F sign (nss.map Lin.fn) (R ++ X) → Q (.ref P) H'
theorem len_cleared {K : PySem.W.Frag} {vs : List V} {H : Hp} {Q : VK} {E : XK} (h : sp_cleared K vs H Q E) : vs.length = ["ground", "rows", "width"].length := by
  obtain ⟨_, _, _, _, _, _, _, _, _, _, rfl, _⟩ := h
  rfl
def t_cleared_f1_b (K : PySem.W.Frag) : TS := (tSeq (tAsg (tCB (rLenU K) (tCons (tVar 4) tNil)) (gName 8))
  (tSeq (tAsg (tCall (sp_find_lead K) [] E0 (tCons (tVar 1) (tCons (tVar 8) (tCons (tVar 7) tNil)))) (gName 9))
  (tSeq (tIfS (tB (tIsN (tVar 9))) tCont tNext)
  (tSeq (tIfS (tTest (tOp rNe (tVar 9) (tVar 8))) (tSeq (tAsg (tTup (tCons (tOp (rIxA K) (tVar 1) (tVar 9)) (tCons (tOp (rIxA K) (tVar 1) (tVar 8)) tNil))) (gTup K 2 (gCons (gSub (tVar 1) (tVar 8) rSetL) (gCons (gSub (tVar 1) (tVar 9) rSetL) gNil))))
  (tAsg (tUn rNeg (tVar 6)) (gName 6))) tNext)
  (tSeq (tAsg (tOp (rIxA K) (tVar 1) (tVar 8)) (gName 10))
  (tSeq (tAsg (tLc (iEnum K (tCons (tVar 1) tNil)) (gTup K 2 (gCons (gName 11) (gCons (gName 3) gNil))) tYes (tIf (tTest (tOp rEq (tVar 11) (tVar 8))) (tVar 3) (tCall (sp_lowered K) [] E0 (tCons (tVar 0) (tCons (tVar 3) (tCons (tVar 10) (tCons (tVar 7) (tCons (tVar 5) tNil))))))) [11, 3]) (gName 1))
  (tSeq (tAsg (tOp (rIxA K) (tVar 10) (tVar 7)) (gName 5))
  (tDrop (tBM K "list" rAppend (tVar 4) (tCons (tVar 7) tNil))))))))))
def t_cleared (K : PySem.W.Frag) : TS := (tSeq (tAsg (tLc (iList K (tVar 1)) (gName 3) tYes (tCB (rListOf K) (tCons (tVar 3) tNil)) [3]) (gName 1))
  (tSeq (tAsg (tLst tNil) (gName 4))
  (tSeq (tAsg (tTup (tCons (tC (.int 1)) (tCons (tC (.int 1)) tNil))) (gTup K 2 (gCons (gName 5) (gCons (gName 6) gNil))))
  (tSeq (tFor (iRng1 (tCons (tVar 2) tNil)) (gName 7) (t_cleared_f1_b K))
  (tRet (tTup (tCons (tVar 1) (tCons (tCB (rTupOf K) (tCons (tVar 4) tNil)) (tCons (tVar 5) (tCons (tVar 6) tNil))))))))))
def CInv (F : Type) [Lean.Grind.Field F] (H : Hp) (g : Nat) (nss : List (List Int)) (W w : Nat) (L : Addr) (i : Nat) (σ : St) (H' : Hp) : Prop :=
  ∃ (A1 : Addr) (zs : List V) (M : List (List Int)) (C : List Nat) (lead sign : Int) (R X : List Lin.Row) (o3 o7 o8 o9 o10 o11 : Option V),
    σ = [some (.int (g : Int)), some (.ref A1), some (.int (w : Int)), o3, some (.ref L), some (.int lead), some (.int sign), o7, o8, o9, o10, o11] ∧ Same H H' ∧ H A1 = none ∧ H L = none ∧ A1 ≠ L ∧
    H' A1 = some (.lst zs) ∧ All2 (ListI H') zs M ∧ (∀ v ∈ zs, v ≠ .ref A1 ∧ v ≠ .ref L) ∧ H' L = some (.lst (C.map fun c : Nat => V.int (c : Int))) ∧ (sign = 1 ∨ sign = -1) ∧ Lin.CSt F g nss W i M C lead R X ∧ Lin.SgP F sign (nss.map Lin.fn) (R ++ X)
def CTail (K : PySem.W.Frag) (g : Nat) (A1 L : Addr) (w i : Nat) (top fnd lead sign : Int) (o3 o11 : Option V) (N : St → Hp → Prop) (H' : Hp) : Prop :=
  rIxA K (V.ref A1) (.int top) H' fun x_3 H1 =>
    iEnum K (tCons (tVar 1) tNil) [some (V.int (g : Int)), some (V.ref A1), some (V.int (w : Int)), o3, some (V.ref L), some (V.int lead), some (V.int sign), some (V.int (i : Int)), some (.int top), some (.int fnd), some x_3, o11] H1 fun J H1 =>
      LcW J H1 (gTup K 2 (gCons (gName 11) (gCons (gName 3) gNil))) tYes
        (tIf (tTest (tOp rEq (tVar 11) (tVar 8))) (tVar 3) (tCall (sp_lowered K) [] E0 (tCons (tVar 0) (tCons (tVar 3) (tCons (tVar 10) (tCons (tVar 7) (tCons (tVar 5) tNil)))))))
        [11, 3] [some (V.int (g : Int)), some (V.ref A1), some (V.int (w : Int)), o3, some (V.ref L), some (V.int lead), some (V.int sign), some (V.int (i : Int)), some (.int top), some (.int fnd), some x_3, o11]
        fun x_4 H1 => rIxA K x_3 (V.int (i : Int)) H1 fun x_5 H1 => tyV K "list" (V.ref L) H1 ∧ rAppend (V.ref L) [V.int (i : Int)] H1 fun x_6 H1 =>
          N [some (V.int (g : Int)), some x_4, some (V.int (w : Int)), o3, some (V.ref L), some x_5, some (V.int sign), some (V.int (i : Int)), some (.int top), some (.int fnd), some x_3, o11] H1
def EInv (Hc : Hp) (g : Nat) (lead : Int) (us : List Int) (i tp : Nat) (M : List (List Int)) (L D : Addr) (j : Nat) (H' : Hp) : Prop :=
  Same Hc H' ∧ ∃ (ys : List V) (outs : List (List Int)), H' D = some (.lst ys) ∧ All2 (ListI H') ys outs ∧ outs.length = j ∧ (∀ v ∈ ys, v ≠ .ref D ∧ v ≠ .ref L) ∧
    ∀ t, t < j → (t = tp → outs[t]? = M[t]?) ∧ (t ≠ tp → ∃ ns out, M[t]? = some ns ∧ outs[t]? = some out ∧ Lin.Lowd g lead us ns i out)
theorem EInv.push {Hc : Hp} {g : Nat} {lead : Int} {us : List Int} {i tp : Nat} {M : List (List Int)} {L D : Addr} {j : Nat} {H' H4 : Hp} (h : EInv Hc g lead us i tp M L D j H') (hD : Hc D = none) (s : Same H' H4) {y : V} {out : List Int} (hj : j < 2 ^ 20)
    (hy : ListI H4 y out) (y1 : y ≠ .ref D) (y2 : y ≠ .ref L) (h1 : j = tp → M[j]? = some out) (h2 : j ≠ tp → ∃ ns, M[j]? = some ns ∧ Lin.Lowd g lead us ns i out) : OutOf D (EInv Hc g lead us i tp M L D (j + 1)) (some y) H4 := by
  obtain ⟨s1, ys, outs, hz, hO, hol, hn, ht⟩ := h
  refine ⟨ys, s _ _ hz, by rw [hO.1, hol]; exact Nat.lt_of_lt_of_le hj (by decide), same_mutD (s1.trans s) hD, ys ++ [y], outs ++ [out], upd_same, All2.push (rows_imp hO fun v q hv h => (h.same s).upd (hn v hv).1) (hy.upd y1), by simp [hol], fun v hv => ?_, fun t htj => ?_⟩
  · rcases List.mem_append.mp hv with hv | hv
    · exact hn v hv
    · rw [List.mem_singleton.mp hv]; exact ⟨y1, y2⟩
  · by_cases e : t = j
    · subst e
      have e2 : (outs ++ [out])[t]? = some out := by rw [List.getElem?_append_right (by omega)]; simp [hol]
      exact ⟨fun e => by rw [e2, h1 e], fun e => by obtain ⟨ns, a, b⟩ := h2 e; exact ⟨ns, out, a, e2, b⟩⟩
    · have e2 : (outs ++ [out])[t]? = outs[t]? := List.getElem?_append_left (by omega)
      rw [e2]
      exact ht t (by omega)
theorem cst_sz {F : Type} [Lean.Grind.Field F] {g : Nat} [Lean.Grind.IsCharP F g] {A : List (List Int)} {W col B : Nat} {M : List (List Int)} {C : List Nat} {lead : Int} {R X : List Lin.Row} (h : Lin.CSt F g A W col M C lead R X) (hg : GroundV (.int (g : Int))) (hB : B ≤ 600)
    (hb : ∀ r ∈ A, ∀ n ∈ r, n.natAbs < 2 ^ B) (hn : A.length ≤ 12) : (∀ r ∈ M, ∀ n ∈ r, Sz 8000 n) ∧ Sz 8000 lead := by
  have hg2 := ground_le hg
  by_cases e : g = 0
  · subst e
    obtain ⟨h1, h2⟩ := h.small hb hn
    have hp : 2 ^ (13 * (B + 4) + 1) ≤ 2 ^ 8000 := Nat.pow_le_pow_right (by decide) (by omega)
    exact ⟨fun r hr n hn => Nat.lt_of_lt_of_le (h1 r hr n hn) hp, Nat.lt_of_lt_of_le h2 hp⟩
  · obtain ⟨h1, h2⟩ := h.rng e
    have hp : 2 ^ 20 ≤ 2 ^ 8000 := Nat.pow_le_pow_right (by decide) (by decide)
    exact ⟨fun r hr n hn => Nat.lt_of_lt_of_le (by have := h1 r hr n hn; omega) hp, Nat.lt_of_lt_of_le (by omega) hp⟩
theorem cst_inv {F : Type} [Lean.Grind.Field F] {g : Nat} {A : List (List Int)} {W col : Nat} {M : List (List Int)} {C : List Nat} {lead : Int} {R X : List Lin.Row} (h : Lin.CSt F g A W col M C lead R X) (hg : GroundV (.int (g : Int))) (hne : lead ≠ 0) (e : (g : Int) ≠ 0) {u : Int}
    (hu : lead * u % (g : Int) = ((Nat.gcd (lead % (g : Int)).natAbs (g : Int).natAbs : Nat) : Int) % (g : Int)) : lead * u % (g : Int) = 1 % (g : Int) := by
  obtain ⟨_, h1, h2⟩ := h.rng (by omega)
  have n : NumR (fun _ => none) (g : Int) (.int lead) lead 1 := .inr ⟨e, rfl, rfl, h1, h2⟩
  have h3 := ground_cop hg n hne e
  rw [hu, Int.emod_eq_of_lt h1 h2, h3]
  rfl
theorem cst_len {F : Type} [Lean.Grind.Field F] {g : Nat} {A : List (List Int)} {W col : Nat} {M : List (List Int)} {C : List Nat} {lead : Int} {R X : List Lin.Row} (h : Lin.CSt F g A W col M C lead R X) : M.length = A.length := by
  have h1 := h.len
  have h2 := h.perm.length_eq
  have h3 := h.cl.good.len
  simp at h2
  omega
theorem pure_cleared (K : PySem.W.Frag) (vs : List V) (H : Hp) (Q : VK) (E : XK) (h : sp_cleared K vs H Q E) : t_cleared K { nx := fun _ H' => Q .non H', rt := Q } (start ["ground", "rows", "width", "row", "leads", "lead", "sign", "column", "top", "found", "upper", "i"] vs) H := by
  obtain ⟨g, F, iF, iC, A, xs, nss, W, w, B, rfl, hA, hR, ⟨hW, hwW, hW2, hn, hg, hB, hb, hb2⟩, hq⟩ := h
  have hxl : xs.length = nss.length := hR.1
  unfold t_cleared
  walk_at "z"
  refine ⟨A, rfl, ⟨_, sqL_of hA⟩, fun D hD => lc_list (xs := xs) (fun i H' => Same H H' ∧ ∃ zs, H' D = some (.lst zs) ∧ All2 (ListI H') zs (nss.take i) ∧ ∀ v ∈ zs, v ≠ .ref D) ⟨same_upd hD, [], upd_same, ⟨rfl, fun i v q a b => by simp at a⟩, by simp⟩ (fun i H' _ p => sqL_of (p.1 _ _ hA)) (fun i x H' hx p => ?_) (fun H1 p => ?_)⟩
  · obtain ⟨s3, zs, hz, hP, hne⟩ := p
    obtain ⟨ns, hns, a, rfl, ha⟩ := hR.get hx
    walk_at "z"
    refine ⟨a, _, rfl, .inl (sqL_of (s3 _ _ ha)), fun l hl => ?_⟩
    have hDl : D ≠ l := fun e => by rw [← e, hz] at hl; cases hl
    refine ⟨zs, by rw [upd_ne hDl]; exact hz, ?_, ?_, zs ++ [.ref l], upd_same, ?_, ?_⟩
    · have := hP.1
      rw [this, List.length_take]
      exact Nat.lt_of_le_of_lt (Nat.min_le_right _ _) (Nat.lt_of_le_of_lt hn (by decide))
    · exact same_mutD (s3.trans (same_upd hl)) hD
    · rw [List.take_succ, hns]
      refine All2.push (rows_imp hP fun v q hv h => (h.same (same_upd hl)).upd (hne v hv)) ⟨l, rfl, ?_⟩
      rw [upd_ne hDl.symm, upd_same]
    · intro v hv
      rcases List.mem_append.mp hv with hv | hv
      · exact hne v hv
      · rw [List.mem_singleton.mp hv]
        exact fun e => hDl (by cases e; rfl)
  · obtain ⟨s1, zs, hz, hP, hne⟩ := p
    rw [hxl, List.take_length] at hP
    walk_at "z"
    refine ⟨by decide, fun L hL => ⟨by decide, fun P hP0 => ⟨_, sqT_of upd_same, rfl, ?_⟩⟩⟩
    walk_at "z"
    have sL : Same H1 (upd (upd H1 L (.lst [])) P (.tup [.int 1, .int 1])) := (same_upd hL).trans (same_upd hP0)
    have hLP : L ≠ P := fun e => by rw [← e, upd_same] at hP0; cases hP0
    have hDL : D ≠ L := fun e => by rw [← e, hz] at hL; cases hL
    have hL0 : upd (upd H1 L (.lst [])) P (.tup [.int 1, .int 1]) L = some (.lst []) := by rw [upd_ne hLP, upd_same]
    generalize upd (upd H1 L (.lst [])) P (.tup [.int 1, .int 1]) = H2 at *
    have hzL : ∀ v ∈ zs, v ≠ .ref L := fun v hv e => by
      obtain ⟨ns, a, e2, ha⟩ := hP.mem hv
      rw [e] at e2; cases e2
      rw [hL] at ha; cases ha
    refine ⟨(w : Int), rfl, by omega, by omega, for_R (fun i σ H' => CInv F H g nss W w L i σ H') ⟨D, zs, nss, [], 1, 1, [], nss.map Lin.fn, none, none, none, none, none, none, rfl, s1.trans sL, hD, none_back s1 hL, hDL, sL _ _ hz, rows_imp hP fun v q _ h => h.same sL, fun v hv => ⟨hne v hv, hzL v hv⟩, hL0, .inl rfl, Lin.CSt.init hW (fun h0 => ⟨hb2 h0, ?_⟩), Lin.SgP.refl _⟩ (fun i σ H' hi h N hN => ?_) (fun σ H' h => ?_)⟩
    · obtain ⟨n, e, _, _, h | h⟩ := hg
      · cases e; omega
      · cases e; have := h.1; omega
    · obtain ⟨A1, zs, M, C, lead, sign, R, X, o3, o7, o8, o9, o10, o11, rfl, s2, hA1, hL1, hAL, hz, hP, hne, hC, hsg, hS, hSg⟩ := h
      clear hzL
      have hMl := cst_len hS
      have hSl := hS.len
      have iw : i < w := by omega
      have tail : ∀ (zs : List V) (M : List (List Int)) (sign : Int) (X : List Lin.Row) (k : Nat) (Hc : Hp), Same H Hc → Hc A1 = some (.lst zs) → All2 (ListI Hc) zs M → (∀ v ∈ zs, v ≠ .ref A1 ∧ v ≠ .ref L) →
          Hc L = some (.lst (C.map fun c : Nat => V.int (c : Int))) → (sign = 1 ∨ sign = -1) → Lin.CSt F g nss W i M C lead R X → Lin.SgP F sign (nss.map Lin.fn) (R ++ X) → C.length < M.length → gI M C.length i ≠ 0 → CTail K g A1 L w i (C.length : Int) (k : Int) lead sign o3 o11 N Hc := by
        intro zs M sign X k Hc s2 hz hP hne hC hsg hS hSg hlt hne0
        unfold CTail
        obtain ⟨us, hus, a, ea, ha⟩ := hP.get (List.getElem?_eq_getElem (show C.length < zs.length by rw [hP.1]; exact hlt))
        refine ixL (sqL_of hz) (v := .ref a) (atN (by rw [List.getElem?_eq_getElem (show C.length < zs.length by rw [hP.1]; exact hlt), ea])) ?_
        have hus2 : M[C.length]? = some us := hus
        have luW : us.length = W := hS.wid us (List.mem_of_getElem? hus)
        have hML := cst_len hS
        have ldne : lead ≠ 0 := fun e => hS.ldne (by rw [e]; exact Lin.ph_zero)
        refine ⟨V.ref A1, rfl, A1, zs, rfl, sqL_of hz, comp_EL (fun D j H' => EInv Hc g lead us i C.length M L D j H')
          (fun D hD => ⟨same_upd hD, [], [], upd_same, ⟨rfl, fun i v q a b => by simp at a⟩, rfl, by simp, fun t ht => by omega⟩) (fun D j H' p => sqL_of (p.1 _ _ hz)) (fun D j x T H' hDn hx p hT => ?_) (fun D H' hDn p => ?_)⟩
        · obtain ⟨ns, hns, b, rfl, hb'⟩ := hP.get hx
          have sT : Same H' (upd H' T (.tup [.int (j : Int), .ref b])) := same_upd hT
          have s3 := p.1
          have bL : (V.ref b) ≠ .ref L := (hne _ (List.mem_of_getElem? hx)).2
          have bD : (V.ref b) ≠ .ref D := fun e => by cases e; rw [hDn] at hb'; cases hb'
          have jlt : j < 2 ^ 20 := by have := (List.getElem?_eq_some_iff.mp hx).1; rw [hP.1] at this; omega
          have push := fun {H4 : Hp} {y : V} {out : List Int} => EInv.push (H4 := H4) (y := y) (out := out) p hDn
          walk_at "z"
          refine ⟨_, sqT_of upd_same, rfl, ?_⟩
          walk_at "z"
          generalize upd H' T (.tup [.int (j : Int), .ref b]) = H3 at *
          obtain ⟨szM, szl⟩ := cst_sz hS hg hB hb hn
          by_cases ej : (j : Int) = (C.length : Int)
          · rw [if_pos ej]
            exact push sT jlt (⟨b, rfl, sT _ _ (s3 _ _ hb')⟩) bD bL (fun _ => hns) fun e => absurd (by omega) e
          · rw [if_neg ej]
            have g9 := ground_le hg
            refine ⟨(g : Int), b, a, ns, us, i, lead, rfl, sT _ _ (s3 _ _ hb'), sT _ _ (s3 _ _ ha), by rw [luW]; exact hS.wid ns (List.mem_of_getElem? hns), by omega, by omega, by omega, by omega, szM ns (List.mem_of_getElem? hns), szM us (List.mem_of_getElem? hus2), szl, ldne,
              fun g0 D2 H4 hDn2 s4 hD2 => ?_, fun g0 u D2 H4 hu0 hu1 hu hDn2 s4 hD2 => ?_⟩
            · have n2 : Hc D2 = none := none_back (s3.trans sT) hDn2
              refine push (sT.trans s4) jlt ⟨D2, rfl, hD2⟩ (fun e => ?_) (fun e => ?_) (fun e => absurd (by omega) ej) fun _ => ⟨ns, hns, ⟨fun _ => rfl, fun e => absurd (by omega) e⟩⟩
              · cases e
                obtain ⟨_, ys, _, hy, _⟩ := p
                rw [sT _ _ hy] at hDn2; cases hDn2
              · cases e; rw [hC] at n2; cases n2
            · have n2 : Hc D2 = none := none_back (s3.trans sT) hDn2
              refine push (sT.trans s4) jlt ⟨D2, rfl, hD2⟩ (fun e => ?_) (fun e => ?_) (fun e => absurd (by omega) ej) fun _ => ⟨ns, hns, ⟨fun e => absurd (by omega) g0, fun _ => ⟨u, cst_inv hS hg ldne g0 hu, rfl⟩⟩⟩
              · cases e
                obtain ⟨_, ys, _, hy, _⟩ := p
                rw [sT _ _ hy] at hDn2; cases hDn2
              · cases e; rw [hC] at n2; cases n2
        · obtain ⟨s3, ys, outs, hy, hO, hol, hyn, ht⟩ := p
          have hDL : D ≠ L := fun e => by rw [← e, hDn] at hC; cases hC
          have ngi := hne0
          rw [show gI M C.length i = us.getD i 0 from Lin.gI_some hus2 i] at ngi
          have oM : outs.length = M.length := by rw [hol, hP.1]
          obtain ⟨R', X2, hS2, hRX⟩ := hS.take (M2 := outs) (by omega) hus2 ngi oM (by rw [(ht C.length (by rw [hP.1]; exact hlt)).1 rfl, hus2]) (fun t ns hte hns => by
            obtain ⟨ns', out, a1, a2, a3⟩ := (ht t (by have := (List.getElem?_eq_some_iff.mp hns).1; rw [hP.1]; exact this)).2 hte
            rw [hns] at a1; cases a1
            exact ⟨out, a2, a3⟩)
          have clen : C.length < 2 ^ 20 := by omega
          refine ixLI (s3 _ _ ha) (by omega) ?_
          refine ⟨tyL (s3 _ _ hC), L, _, _, rfl, rfl, s3 _ _ hC, by rw [List.length_map]; exact Nat.lt_of_lt_of_le clen (by decide), ?_⟩
          refine hN _ _ ⟨D, ys, outs, C ++ [i], us.getD i 0, sign, R', X2, _, _, _, _, _, _, rfl, same_mutD (s2.trans s3) hL1, none_back s2 hDn, hL1, hDL, by rw [upd_ne hDL]; exact hy, rows_imp hO fun v q hv h => h.upd (hyn v hv).2, hyn, by rw [upd_same]; simp, hsg, hS2, hRX ▸ hSg⟩
      unfold t_cleared_f1_b
      walk_at "z"
      refine lenL (sqL_of hC) ?_
      rw [List.length_map, Int.zero_add]
      refine ⟨A1, zs, M, C.length, i, rfl, hz, hP, fun ns hns => by rw [hS.wid ns hns]; omega, by omega, by omega, fun k hk1 hk2 hk3 hk4 => ?_, fun hz0 => ?_⟩
      · dsimp only
        rw [if_neg (fun e => by cases e)]
        walk_at "z"
        by_cases ek : (k : Int) = (C.length : Int)
        · rw [if_neg (fun h => h ek)]
          have ek2 : k = C.length := by omega
          exact tail zs M sign X k H' s2 hz hP hne hC hsg hS hSg (by omega) (by rw [← ek2]; exact hk3)
        · rw [if_pos ek]
          have hk9 : k ≠ C.length := fun e => ek (by rw [e])
          have hlk : k < zs.length := by rw [hP.1]; exact hk2
          have hlt : C.length < zs.length := by omega
          have zk := List.getElem?_eq_getElem hlk
          have zt := List.getElem?_eq_getElem hlt
          generalize zs[k] = vk at zk
          generalize zs[C.length] = vt at zt
          obtain ⟨mk, emk, _⟩ := hP.get zk
          obtain ⟨mt, emt, _⟩ := hP.get zt
          obtain ⟨X', hS', hSw⟩ := hS.swap hk1 emt emk
          refine ixL (sqL_of hz) (v := vk) (atN zk) ?_
          refine ixL (sqL_of hz) (v := vt) (atN zt) ?_
          refine ⟨by decide, fun P hP0 => ⟨_, sqT_of upd_same, rfl, ?_⟩⟩
          have hPA : P ≠ A1 := fun e => by rw [e, hz] at hP0; cases hP0
          have hPL : P ≠ L := fun e => by rw [e, hC] at hP0; cases hP0
          walk_at "z"
          have ixn : ∀ {n m : Nat}, m < n → ixN n (m : Int) = some m := fun h => by unfold ixN; rw [if_pos (by omega), if_pos (by omega)]; rfl
          have sP : Same H' (upd H' P (.tup [vk, vt])) := same_upd hP0
          generalize upd H' P (.tup [vk, vt]) = H3 at *
          refine setL (sP _ _ hz) (ixn hlt) ?_
          refine setL (H := upd H3 A1 _) upd_same (ixn (by rw [List.length_set]; exact hlk)) ?_
          have hswp : (zs.set C.length vk).set k vt = Lin.swapL zs C.length k vt vk := rfl
          rw [hswp]
          have s5 : Same H (upd (upd H3 A1 (.lst (zs.set C.length vk))) A1 (.lst (Lin.swapL zs C.length k vt vk))) := same_mutD (same_mutD (s2.trans sP) hA1) hA1
          have pm := Lin.swap_perm zt zk
          have h6 : CTail K g A1 L w i (C.length : Int) (k : Int) lead (-sign) o3 o11 N (upd (upd H3 A1 (.lst (zs.set C.length vk))) A1 (.lst (Lin.swapL zs C.length k vt vk))) :=
            tail (Lin.swapL zs C.length k vt vk) (Lin.swapL M C.length k mt mk) (-sign) X' k _ s5 upd_same
              (rows_imp (hP.swap zt zk emt emk) fun v q hv h => ((h.same sP).upd (hne v (pm.mem_iff.mp hv)).1).upd (hne v (pm.mem_iff.mp hv)).1) (fun v hv => hne v (pm.mem_iff.mp hv))
              (by rw [upd_ne hAL.symm, upd_ne hAL.symm]; exact sP _ _ hC) (by omega) hS' (hSw (fun e => hk9 e) _ _ hSg) (by rw [cst_len hS', ← hMl]; omega) (by
                rw [show gI (Lin.swapL M C.length k mt mk) C.length i = mk.getD i 0 from Lin.gI_some (by rw [Lin.swap_at emt emk, if_neg (fun e => hk9 e.symm), if_pos rfl]) i, ← show gI M k i = mk.getD i 0 from Lin.gI_some emk i]
                exact hk3)
          exact h6
      · dsimp only
        rw [if_pos rfl]
        exact hN _ _ ⟨A1, zs, M, C, lead, sign, R, X, _, _, _, _, _, _, rfl, s2, hA1, hL1, hAL, hz, hP, hne, hC, hsg, hS.skip (by omega) (fun k a b => hz0 k a b), hSg⟩
    · obtain ⟨A1, zs, M, C, lead, sign, R, X, o3, o7, o8, o9, o10, o11, rfl, s2, hA1, hL1, hAL, hz, hP, hne, hC, hsg, hS, hSg⟩ := h
      walk_at "z"
      refine ⟨L, _, rfl, .inl ⟨sqL_of hC, fun T hT => ⟨by decide, fun P2 hP2 => ?_⟩⟩⟩
      have s3 := (same_upd (o := .tup (C.map fun c : Nat => V.int (c : Int))) hT).trans (same_upd (o := .tup [.ref A1, .ref T, .int lead, .int sign]) hP2)
      exact hq P2 A1 T zs M C lead sign R X _ (s2.trans s3) upd_same (s3 _ _ hz) (rows_imp hP fun v q _ h => h.same s3) (same_upd hP2 _ _ upd_same) hsg hS hSg
theorem ok_cleared {P : Program} {w : World} {K : PySem.W.Frag} {mg : Str → Option Value} {base : Heap} (T : Tx K mg) : Okk P w K mg base 4 "cleared" ["ground", "rows", "width"] (sp_cleared K) := by
  obtain ⟨fd_lowered, F_lowered, b_lowered, g_lowered, k_lowered⟩ := ok_lowered (P := P) (w := w) (base := base) T
  obtain ⟨fd_find_lead, F_find_lead, b_find_lead, g_find_lead, k_find_lead⟩ := ok_find_lead (P := P) (w := w) (base := base) T
  have hf_enumerate := T.n_enumerate
  have hf_len := T.n_len
  have hf_list := T.n_list
  have hf_range := T.n_range
  have hf_tuple := T.n_tuple
  obtain ⟨fd, F⟩ := T.f_cleared
  refine ⟨fd, F.ok sc_cleared (fun vs H Q E h => len_cleared h) (fun cdv A outer s H vs Q E hr h => ⟨t_cleared K, PSs.nox ?_, pure_cleared K vs H Q E h⟩), F.bindsN (fun _ _ _ _ _ _ us hl => match us, hl with | [_, _, _], _ => rfl), T.g_cleared, F.kp⟩
  exact (pss_cons (ps_setLc (i := 1) (own := [("row", 3)]) (g := (gName 3)) (tt := tYes) rfl sc_cleared.nd rfl rfl (sw_true rfl rfl rfl (by decide +kernel)) (pi_list (pv 1)) (blkOk_by (own := [("row", 3)]) (N := ["ground", "rows", "width", "row", "leads", "lead", "sign", "column", "top", "found", "upper", "i"]) (sc := defScope s_cleared) (by decide +kernel)) (fun _ _ _ _ _ => (pg_name (i := 3) sc_cleared.nd rfl (by first | exact Or.inl rfl | exact Or.inr rfl))) (fun _ _ _ _ _ => pts_nil) (fun _ _ _ _ _ => (pe_callTy call_list_of (by rfl) hf_list (by decide +kernel) (pa_cons (pv 3) pa_nil))))
      (pss_cons (ps_set (i := 4) sc_cleared.nd rfl (by first | exact Or.inl rfl | exact Or.inr rfl) (pe_lst pa_nil))
      (pss_cons (ps_asg (pe_tup (pa_cons pe_int (pa_cons pe_int pa_nil))) (pg_tup rfl (pgs_cons (pg_name (i := 5) sc_cleared.nd rfl (by first | exact Or.inl rfl | exact Or.inr rfl)) (pgs_cons (pg_name (i := 6) sc_cleared.nd rfl (by first | exact Or.inl rfl | exact Or.inr rfl)) pgs_nil))))
      (pss_cons (ps_for PassesOwn.never rfl (pi_range1 rfl hf_range (pa_cons (pv 2) pa_nil)) (pg_name (i := 7) sc_cleared.nd rfl (by first | exact Or.inl rfl | exact Or.inr rfl)) (pss_cons (ps_set (i := 8) sc_cleared.nd rfl (by first | exact Or.inl rfl | exact Or.inr rfl) (pe_callB call_len_seq (by rfl) hf_len (by decide +kernel) (pa_cons (pv 4) pa_nil)))
      (pss_cons (ps_set (i := 9) sc_cleared.nd rfl (by first | exact Or.inl rfl | exact Or.inr rfl) (pe_call F_find_lead (hr.mono (by decide)) rfl g_find_lead k_find_lead b_find_lead .nil pass0 (pa_cons (pv 1) (pa_cons (pv 8) (pa_cons (pv 7) pa_nil)))))
      (pss_cons (ps_if (pt_cmp (pc_isN (pv 9))) (pss_one ps_continue) pss_nil)
      (pss_cons (ps_if (pt_cmpR op_ne (pv 9) (pv 8) (nomark _)) (pss_cons (ps_asg (pe_tup (pa_cons (pe_ix ix_lt (pv 1) (pv 9) (fun _ _ => rfl)) (pa_cons (pe_ix ix_lt (pv 1) (pv 8) (fun _ _ => rfl)) pa_nil))) (pg_tup rfl (pgs_cons (pg_sub (pv 1) (pv 8) set_list) (pgs_cons (pg_sub (pv 1) (pv 9) set_list) pgs_nil))))
      (pss_one (ps_set (i := 6) sc_cleared.nd rfl (by first | exact Or.inl rfl | exact Or.inr rfl) (pe_un un_neg (pv 6))))) pss_nil)
      (pss_cons (ps_set (i := 10) sc_cleared.nd rfl (by first | exact Or.inl rfl | exact Or.inr rfl) (pe_ix ix_lt (pv 1) (pv 8) (fun _ _ => rfl)))
      (pss_cons (ps_setLc (i := 1) (own := [("i", 11), ("row", 3)]) (g := (gTup K 2 (gCons (gName 11) (gCons (gName 3) gNil)))) (tt := tYes) rfl sc_cleared.nd rfl rfl (sw_true rfl rfl rfl (by decide +kernel)) (pi_enum (by rfl) hf_enumerate (pa_cons (pv 1) pa_nil)) (blkOk_by (own := [("i", 11), ("row", 3)]) (N := ["ground", "rows", "width", "row", "leads", "lead", "sign", "column", "top", "found", "upper", "i"]) (sc := defScope s_cleared) (by decide +kernel)) (fun _ _ _ _ _ => (pg_tup rfl (pgs_cons (pg_name (i := 11) sc_cleared.nd rfl (by first | exact Or.inl rfl | exact Or.inr rfl)) (pgs_cons (pg_name (i := 3) sc_cleared.nd rfl (by first | exact Or.inl rfl | exact Or.inr rfl)) pgs_nil)))) (fun _ _ _ _ _ => pts_nil) (fun _ _ _ _ _ => (pe_ifExp (pt_cmpR op_eq (pv 11) (pv 8) (nomark _)) (pv 3) (pe_call F_lowered (hr.mono (by decide)) rfl g_lowered k_lowered b_lowered .nil pass0 (pa_cons (pv 0) (pa_cons (pv 3) (pa_cons (pv 10) (pa_cons (pv 7) (pa_cons (pv 5) pa_nil)))))))))
      (pss_cons (ps_set (i := 5) sc_cleared.nd rfl (by first | exact Or.inl rfl | exact Or.inr rfl) (pe_ix ix_lt (pv 10) (pv 7) (fun _ _ => rfl)))
      (pss_one (ps_expr (pe_bm PySem.F.plainAttrs_list PySem.F.slot_list_append PySem.F.type_list_append mt_append (pv 4) (pa_cons (pv 7) pa_nil))))))))))))
      (pss_one (ps_ret (pe_tup (pa_cons (pv 1) (pa_cons (pe_callTy call_tuple_of (by rfl) hf_tuple (by decide +kernel) (pa_cons (pv 4) pa_nil)) (pa_cons (pv 5) (pa_cons (pv 6) pa_nil)))))))))))
/-! ### numbers_over -/
theorem sc_numbers_over : FnScope ["ground", "row", "bottom", "number"] ["ground", "row", "bottom"] (defScope s_numbers_over) := ⟨rfl, rfl, rfl, by decide +kernel, rfl, by decide +kernel, by decide +kernel⟩
def sp_numbers_over (K : PySem.W.Frag) : Sp := fun vs H Q _ => ∃ (g : Nat) (F : Type) (_ : Lean.Grind.Field F) (_ : Lean.Grind.IsCharP F g) (A : Addr) (ns : List Int) (d : Int) (_ : GroundV (.int (g : Int))), vs = [.int (g : Int), .ref A, .int d] ∧ H A = some (.lst (ns.map V.int)) ∧ ns.length < 2 ^ 20 ∧ Sz 8000 d ∧ (∀ n ∈ ns, Sz 8000 n) ∧ Lin.ph F d ≠ 0 ∧
  ∀ v qs H', Same H H' → RowN H' g v qs → All2 (OverR F d) ns qs → Q v H'
theorem len_numbers_over {K : PySem.W.Frag} {vs : List V} {H : Hp} {Q : VK} {E : XK} (h : sp_numbers_over K vs H Q E) : vs.length = ["ground", "row", "bottom"].length := by
  obtain ⟨_, _, _, _, _, _, _, _, rfl, _⟩ := h
  rfl
def t_numbers_over (K : PySem.W.Frag) : TS := (tRet (tCB (rTupOf K) (tCons (tLc (iList K (tVar 1)) (gName 3) tYes (tCall (sp_quotient K) [] E0 (tCons (tVar 0) (tCons (tVar 3) (tCons (tVar 2) tNil)))) [3]) tNil)))
theorem pure_numbers_over (K : PySem.W.Frag) (vs : List V) (H : Hp) (Q : VK) (E : XK) (h : sp_numbers_over K vs H Q E) : t_numbers_over K { nx := fun _ H' => Q .non H', rt := Q } (start ["ground", "row", "bottom", "number"] vs) H := by
  obtain ⟨g, F, iF, iC, A, ns, d, hg, rfl, hA, hl, sd, sn, hd, hq⟩ := h
  have g9 := ground_le hg
  unfold t_numbers_over
  walk_at "z"
  refine ⟨A, rfl, ⟨_, sqL_of hA⟩, fun D hD => lc_list (xs := ns.map V.int) (fun i H' => Same H H' ∧ ∃ (zs : List V) (qs : List (Int × Int)), H' D = some (.lst zs) ∧ All2 (fun v q => NumR H' g v q.1 q.2) zs qs ∧ All2 (OverR F d) (ns.take i) qs) ⟨same_upd hD, [], [], upd_same, ⟨rfl, fun i v q a b => by simp at a⟩, ⟨rfl, fun i v q a b => by simp at a⟩⟩ (fun i H' _ p => sqL_of (p.1 _ _ hA)) (fun i x H' hx p => ?_) (fun H1 p => ?_)⟩
  · obtain ⟨s3, zs, qs, hz, hN, hO⟩ := p
    rw [List.getElem?_map] at hx
    obtain ⟨n, hn, rfl⟩ := Option.map_eq_some_iff.mp hx
    have hi := (List.getElem?_eq_some_iff.mp hn).1
    have zl : zs.length < sizeLine := by
      have h1 := hN.1
      have h2 := hO.1
      rw [List.length_take] at h2
      exact Nat.lt_of_lt_of_le (show zs.length < 2 ^ 20 by omega) (by decide)
    have done : ∀ (H4 : Hp) (v : V) (q : Int × Int), Same H' H4 → NumR H4 g v q.1 q.2 → OverR F d n q → ∃ acc, H4 D = some (.lst acc) ∧ acc.length < sizeLine ∧ Same H (upd H4 D (.lst (acc ++ [v]))) ∧ ∃ (zs : List V) (qs : List (Int × Int)), upd H4 D (.lst (acc ++ [v])) D = some (.lst zs) ∧ All2 (fun z q => NumR (upd H4 D (.lst (acc ++ [v]))) g z q.1 q.2) zs qs ∧ All2 (OverR F d) (ns.take (i + 1)) qs := fun H4 v q s nq ov => by
      refine ⟨zs, s _ _ hz, zl, same_mutD (s3.trans s) hD, zs ++ [v], qs ++ [q], upd_same, (hN.imp fun v q n => (n.same s).updL (s _ _ hz)).push (nq.updL (s _ _ hz)), ?_⟩
      rw [List.take_succ, hn]
      exact hO.push ov
    walk_at "z"
    refine ⟨(g : Int), n, d, rfl, by omega, fun g0 => ⟨fun e => hd (by rw [e]; exact Lin.ph_zero), sd, fun p x y H4 s fr _ _ hp => ?_⟩, fun g0 => ⟨ground_sz hg, sn n (List.mem_of_getElem? hn), fun w u H4 s hw hu => ?_⟩⟩
    · have g00 : g = 0 := by omega
      subst g00
      exact done H4 (.ref p) (x, y) s (.inl ⟨rfl, ⟨p, rfl, hp⟩, fr.1, fr.2.1⟩) (over_zero hd fr)
    · subst hw
      exact done H4 (.int (n * u % (g : Int))) (n * u % (g : Int), 1) s (.inr ⟨g0, rfl, rfl, Int.emod_nonneg _ g0, Int.emod_lt_of_pos _ (by omega)⟩) (over_prime hg g0 hd hu)
  · obtain ⟨s3, zs, qs, hz, hN, hO⟩ := p
    rw [List.length_map, List.take_length] at hO
    walk_at "z"
    refine ⟨D, _, rfl, .inl ⟨sqL_of hz, fun T hT => ?_⟩⟩
    have s4 := same_upd (o := .tup zs) hT
    exact hq (.ref T) qs _ (s3.trans s4) ⟨T, zs, rfl, upd_same, hN.imp fun v q n => n.same s4⟩ hO
theorem ok_numbers_over {P : Program} {w : World} {K : PySem.W.Frag} {mg : Str → Option Value} {base : Heap} (T : Tx K mg) : Okk P w K mg base 4 "numbers_over" ["ground", "row", "bottom"] (sp_numbers_over K) := by
  obtain ⟨fd_quotient, F_quotient, b_quotient, g_quotient, k_quotient⟩ := ok_quotient (P := P) (w := w) (base := base) T
  have hf_tuple := T.n_tuple
  obtain ⟨fd, F⟩ := T.f_numbers_over
  refine ⟨fd, F.ok sc_numbers_over (fun vs H Q E h => len_numbers_over h) (fun cdv A outer s H vs Q E hr h => ⟨t_numbers_over K, PSs.nox ?_, pure_numbers_over K vs H Q E h⟩), F.bindsN (fun _ _ _ _ _ _ us hl => match us, hl with | [_, _, _], _ => rfl), T.g_numbers_over, F.kp⟩
  exact (pss_one (ps_ret (pe_callTy call_tuple_of (by rfl) hf_tuple (by decide +kernel) (pa_cons (pe_lc (own := [("number", 3)]) (g := (gName 3)) (tt := tYes) rfl sc_numbers_over.nd (pi_list (pv 1)) (blkOk_by (own := [("number", 3)]) (N := ["ground", "row", "bottom", "number"]) (sc := defScope s_numbers_over) (by decide +kernel)) (fun _ _ _ _ _ => (pg_name (i := 3) sc_numbers_over.nd rfl (by first | exact Or.inl rfl | exact Or.inr rfl))) (fun _ _ _ _ _ => pts_nil) (fun _ _ _ _ _ => (pe_call F_quotient (hr.mono (by decide)) rfl g_quotient k_quotient b_quotient .nil pass0 (pa_cons (pv 0) (pa_cons (pv 3) (pa_cons (pv 2) pa_nil)))))) pa_nil))))
/-! ### solution -/
theorem sc_solution : FnScope ["ground", "width", "found", "rows", "lead", "vector", "row", "column"] ["ground", "width", "found", "rows", "lead"] (defScope s_solution) := ⟨rfl, rfl, rfl, by decide +kernel, rfl, by decide +kernel, by decide +kernel⟩
def sp_solution (K : PySem.W.Frag) : Sp := fun vs H Q _ => ∃ (g : Nat) (F : Type) (_ : Lean.Grind.Field F) (_ : Lean.Grind.IsCharP F g) (A T : Addr) (xs : List V) (M : List (List Int)) (C : List Nat) (W : Nat) (lead : Int), vs = [.int (g : Int), .int (W : Int), .ref T, .ref A, .int lead] ∧ GroundV (.int (g : Int)) ∧ H A = some (.lst xs) ∧ All2 (ListI H) xs M ∧ H T = some (.tup (C.map fun c : Nat => V.int (c : Int))) ∧ C.length ≤ M.length ∧ (∀ c ∈ C, c < W) ∧ W ≤ 12 ∧ (∀ r ∈ M, W < r.length ∧ ∀ n ∈ r, Sz 8000 n) ∧ Sz 8000 lead ∧ Lin.ph F lead ≠ 0 ∧ ∀ z H', Same H H' → Q z H'
theorem len_solution {K : PySem.W.Frag} {vs : List V} {H : Hp} {Q : VK} {E : XK} (h : sp_solution K vs H Q E) : vs.length = ["ground", "width", "found", "rows", "lead"].length := by
  obtain ⟨_, _, _, _, _, _, _, _, _, _, _, rfl, _⟩ := h
  rfl
def t_solution_f1_b (K : PySem.W.Frag) : TS := (tAsg (tCall (sp_quotient K) [] E0 (tCons (tVar 0) (tCons (tOp (rIxA K) (tVar 6) (tVar 1)) (tCons (tVar 4) tNil)))) (gSub (tVar 5) (tVar 7) rSetL))
def t_solution (K : PySem.W.Frag) : TS := (tSeq (tAsg (tOp rRep (tLst (tCons (tCall (sp_number_of K) [] E0 (tCons (tVar 0) (tCons (tC (.int 0)) tNil))) tNil)) (tVar 1)) (gName 5))
  (tSeq (tFor (iZipX K (tCons (tVar 3) (tCons (tVar 2) tNil))) (gTup K 2 (gCons (gName 6) (gCons (gName 7) gNil))) (t_solution_f1_b K))
  (tRet (tCB (rTupOf K) (tCons (tVar 5) tNil)))))
theorem pure_solution (K : PySem.W.Frag) (vs : List V) (H : Hp) (Q : VK) (E : XK) (h : sp_solution K vs H Q E) : t_solution K { nx := fun _ H' => Q .non H', rt := Q } (start ["ground", "width", "found", "rows", "lead", "vector", "row", "column"] vs) H := by
  obtain ⟨g, F, iF, iC, A, T, xs, M, C, W, lead, rfl, hg, hA, hM, hT, hCM, hC, hW, hr, sl, l0, hq⟩ := h
  unfold t_solution
  walk_at "z"
  refine numOf hg (.inl rfl) fun v0 H1 s1 n0 => ?_
  walk_at "z"
  refine ⟨by decide, fun L0 hL0 => ⟨L0, (W : Int), [v0], rfl, rfl, upd_same, by omega, by omega, by simp; exact Nat.le_trans hW (by decide), fun V1 hV1 => ?_⟩⟩
  have f1 := same_upd (o := .lst [v0]) hL0
  obtain ⟨zs0, hz0⟩ : ∃ zs0, (List.replicate (W : Int).toNat [v0]).flatten = zs0 := ⟨_, rfl⟩
  have lz0 : zs0.length = W := by rw [← hz0]; simp
  rw [hz0]
  clear hz0
  have f2 := same_upd (o := .lst zs0) hV1
  have e2 : upd (upd H1 L0 (.lst [v0])) V1 (.lst zs0) V1 = some (.lst zs0) := upd_same
  have nV : H V1 = none := none_back (s1.trans f1) hV1
  generalize upd (upd H1 L0 (.lst [v0])) V1 (.lst zs0) = H2 at *
  have s2 : Same H H2 := (s1.trans f1).trans f2
  refine ⟨true, false, A, T, xs, C.map fun c : Nat => V.int (c : Int), rfl, sqL_of (s2 _ _ hA), sqT_of (s2 _ _ hT), for_zB (xs := xs) (ys := C.map fun c : Nat => V.int (c : Int)) (n := C.length) (by rw [List.length_map, hM.1]; exact (Nat.min_eq_right hCM).symm)
    (fun k σ H' => ∃ o6 o7 zs, σ = [some (V.int ↑g), some (V.int ↑W), some (V.ref T), some (V.ref A), some (V.int lead), some (V.ref V1), o6, o7] ∧ Same H H' ∧ H' V1 = some (.lst zs) ∧ zs.length = W) ⟨none, none, zs0, rfl, s2, e2, lz0⟩ (fun k σ H' h => ?_) (fun k x y T4 σ H' h1 h2 h hT4 N hN => ?_) (fun σ H' h => ?_)⟩
  · obtain ⟨_, _, _, _, s, _, _⟩ := h
    exact ⟨sqL_of (s _ _ hA), sqT_of (s _ _ hT)⟩
  · obtain ⟨o6, o7, zs, rfl, s, hz, lz⟩ := h
    obtain ⟨r, hrm, hrow⟩ := hM.get h1
    rw [List.getElem?_map] at h2
    obtain ⟨c, hc, rfl⟩ := Option.map_eq_some_iff.mp h2
    have cW := hC c (List.mem_of_getElem? hc)
    obtain ⟨rl, rs⟩ := hr r (List.mem_of_getElem? hrm)
    have sT := same_upd (o := .tup [x, V.int (c : Int)]) hT4
    walk_at "z"
    refine ⟨_, sqT_of upd_same, rfl, ?_⟩
    unfold t_solution_f1_b
    walk_at "z"
    generalize upd H' T4 (.tup [x, V.int (c : Int)]) = H3 at *
    obtain ⟨a, rfl, ha⟩ := hrow
    have e := List.getElem?_eq_getElem rl
    have hm := List.getElem_mem rl
    generalize r[W] = m at e hm
    refine ixL (sqL_of (sT _ _ (s _ _ ha))) (v := .int m) (atN (by rw [List.getElem?_map, e]; rfl)) ?_
    refine quo (F := F) hg (rs m hm) sl l0 fun v q H7 s7 n ov => ?_
    have hz7 := s7 _ _ (sT _ _ hz)
    refine setL hz7 (by rw [lz]; unfold ixN; rw [if_pos (by omega), if_pos (by omega)]; rfl : ixN zs.length (c : Int) = some c) ?_
    exact hN _ _ ⟨_, _, _, rfl, same_mutD ((s.trans sT).trans s7) nV, upd_same, by rw [List.length_set]; exact lz⟩
  · obtain ⟨o6, o7, zs, rfl, s, hz, lz⟩ := h
    walk_at "z"
    exact ⟨V1, zs, rfl, .inl ⟨sqL_of hz, fun T5 hT5 => hq _ _ (s.trans (same_upd hT5))⟩⟩
theorem ok_solution {P : Program} {w : World} {K : PySem.W.Frag} {mg : Str → Option Value} {base : Heap} (T : Tx K mg) : Okk P w K mg base 4 "solution" ["ground", "width", "found", "rows", "lead"] (sp_solution K) := by
  obtain ⟨fd_quotient, F_quotient, b_quotient, g_quotient, k_quotient⟩ := ok_quotient (P := P) (w := w) (base := base) T
  obtain ⟨fd_number_of, F_number_of, b_number_of, g_number_of, k_number_of⟩ := ok_number_of (P := P) (w := w) (base := base) T
  have hf_tuple := T.n_tuple
  have hf_zip := T.n_zip
  obtain ⟨fd, F⟩ := T.f_solution
  refine ⟨fd, F.ok sc_solution (fun vs H Q E h => len_solution h) (fun cdv A outer s H vs Q E hr h => ⟨t_solution K, PSs.nox ?_, pure_solution K vs H Q E h⟩), F.bindsN (fun _ _ _ _ _ _ us hl => match us, hl with | [_, _, _, _, _], _ => rfl), T.g_solution, F.kp⟩
  exact (pss_cons (ps_set (i := 5) sc_solution.nd rfl (by first | exact Or.inl rfl | exact Or.inr rfl) (pe_op op_rep (pe_lst (pa_cons (pe_call F_number_of (hr.mono (by decide)) rfl g_number_of k_number_of b_number_of .nil pass0 (pa_cons (pv 0) (pa_cons pe_int pa_nil))) pa_nil)) (pv 1)))
      (pss_cons (ps_for PassesOwn.never rfl (pi_zipX (by rfl) hf_zip (pa_cons (pv 3) (pa_cons (pv 2) pa_nil))) (pg_tup rfl (pgs_cons (pg_name (i := 6) sc_solution.nd rfl (by first | exact Or.inl rfl | exact Or.inr rfl)) (pgs_cons (pg_name (i := 7) sc_solution.nd rfl (by first | exact Or.inl rfl | exact Or.inr rfl)) pgs_nil))) (pss_one (ps_asg (pe_call F_quotient (hr.mono (by decide)) rfl g_quotient k_quotient b_quotient .nil pass0 (pa_cons (pv 0) (pa_cons (pe_ix ix_lt (pv 6) (pv 1) (fun _ _ => rfl)) (pa_cons (pv 4) pa_nil)))) (pg_sub (pv 5) (pv 7) set_list))))
      (pss_one (ps_ret (pe_callTy call_tuple_of (by rfl) hf_tuple (by decide +kernel) (pa_cons (pv 5) pa_nil))))))
/-! ### check_ground -/
theorem sc_check_ground : FnScope ["ground"] ["ground"] (defScope s_check_ground) := ⟨rfl, rfl, rfl, by decide +kernel, rfl, by decide +kernel, by decide +kernel⟩
def sp_check_ground (K : PySem.W.Frag) : Sp := fun vs H Q E => ∃ (v : V) (d : PyData) (no : List Addr), vs = [v] ∧ Pl H no d v ∧ (GroundV v → Q .non H) ∧ (¬ GroundV v → RaiseF K E H "InvalidGround" "value" v)
theorem len_check_ground {K : PySem.W.Frag} {vs : List V} {H : Hp} {Q : VK} {E : XK} (h : sp_check_ground K vs H Q E) : vs.length = ["ground"].length := by
  obtain ⟨_, _, _, rfl, _⟩ := h
  rfl
def t_check_ground (K : PySem.W.Frag) (E : XK) : TS := (tIfS (tNot (tB (tCall (sp_ground_fits K) [] E0 (tCons (tVar 0) tNil)))) (tRaise1 "value" (He.ga K "InvalidGround") (fun cls d _ H => E cls d H) (tCons (tVar 0) tNil)) tNext)
theorem pure_check_ground (K : PySem.W.Frag) (vs : List V) (H : Hp) (Q : VK) (E : XK) (h : sp_check_ground K vs H Q E) : t_check_ground K E { nx := fun _ H' => Q .non H', rt := Q } (start ["ground"] vs) H := by
  obtain ⟨v, d, no, rfl, p, h1, h2⟩ := h
  unfold t_check_ground
  walk_at "z"
  refine ⟨v, rfl, p.kn, fun b hb => ?_⟩
  walk_at "z"
  by_cases hg : GroundV v
  · rw [hb.mpr hg]
    walk_at "z"
    exact h1 hg
  · have : b = false := by
      cases b with
      | false => rfl
      | true => exact absurd (hb.mp rfl) hg
    subst this
    walk_at "z"
    exact ⟨v, rfl, fun dd hd => h2 hg H dd (Same.refl _) hd⟩
theorem ok_check_ground {P : Program} {w : World} {K : PySem.W.Frag} {mg : Str → Option Value} {base : Heap} (T : Tx K mg) : OkkX P w K mg base 5 "check_ground" ["ground"] (sp_check_ground K) := by
  obtain ⟨fd_ground_fits, F_ground_fits, b_ground_fits, g_ground_fits, k_ground_fits⟩ := ok_ground_fits (P := P) (w := w) (base := base) T
  obtain ⟨fd, F⟩ := T.f_check_ground
  refine ⟨fd, F.ok sc_check_ground (fun vs H Q E h => len_check_ground h) (fun cdv A outer s H vs Q E hr h => ⟨t_check_ground K E, ?_, pure_check_ground K vs H Q E h⟩), F.bindsN (fun _ _ _ _ _ _ us hl => match us, hl with | [_], _ => rfl), T.g_check_ground, F.kp⟩
  exact (pss_one (ps_if (pt_not (pt_val (pe_call F_ground_fits (hr.mono (by decide)) rfl g_ground_fits k_ground_fits b_ground_fits .nil pass0 (pa_cons (pv 0) pa_nil)))) (pss_one (ps_raise1 PySem.F.excBase_ValueError PySem.F.store_ValueError PySem.ZExc.fnOk_value rfl T.x_InvalidGround hr (takes_of rfl rfl rfl rfl) (pa_cons (pv 0) pa_nil) rfl (by decide))) pss_nil))
/-! ### table_fits -/
theorem sc_table_fits : FnScope ["ground", "value", "most_rows", "most_columns", "limit", "row"] ["ground", "value", "most_rows", "most_columns", "limit"] (defScope s_table_fits) := ⟨rfl, rfl, rfl, by decide +kernel, rfl, by decide +kernel, by decide +kernel⟩
def sp_table_fits (K : PySem.W.Frag) : Sp := fun vs H Q _ => ∃ (g : Int) (v : V) (d : PyData) (mr mc l : Int) (no : List Addr), vs = [.int g, v, .int mr, .int mc, .int l] ∧ Pl H no d v ∧ mr ≤ 12 ∧ mc ≤ 12 ∧ ∀ H', Same H H' → Q (.bl (tabB g mr mc l d)) H'
theorem len_table_fits {K : PySem.W.Frag} {vs : List V} {H : Hp} {Q : VK} {E : XK} (h : sp_table_fits K vs H Q E) : vs.length = ["ground", "value", "most_rows", "most_columns", "limit"].length := by
  obtain ⟨_, _, _, _, _, _, _, rfl, _⟩ := h
  rfl
def t_table_fits (K : PySem.W.Frag) : TS := (tSeq (tIfS (tNot (tB (tCall (sp_rows_fit K) [] E0 (tCons (tVar 1) (tCons (tVar 2) (tCons (tVar 3) tNil)))))) (tRet (tC (.bl false))) tNext)
  (tRet (tCB (rAll K) (tCons (tLc (iTup K (tVar 1)) (gName 5) tYes (tCall (sp_vector_fits K) [] E0 (tCons (tVar 0) (tCons (tVar 5) (tCons (tCB (rLenU K) (tCons (tVar 5) tNil)) (tCons (tVar 4) tNil))))) [5]) tNil))))
theorem rowsB_tup {mr mc : Int} {d : PyData} (h : rowsB mr mc d = true) : ∃ ds, d = .tuple ds ∧ 1 ≤ ds.length ∧ (ds.length : Int) ≤ mr ∧ ∀ e ∈ ds, ∃ es, e = .tuple es ∧ 1 ≤ es.length ∧ (es.length : Int) ≤ mc := by
  cases d with
  | tuple ds =>
    rw [rowsB_t] at h
    rw [Bool.and_eq_true, Bool.and_eq_true, List.all_eq_true] at h
    obtain ⟨ds', e, h1, h2⟩ := lenB_tup h.1.1
    cases e
    exact ⟨ds, rfl, h1, h2, fun e he => lenB_tup (h.1.2 e he)⟩
  | _ => simp [rowsB] at h
theorem pure_table_fits (K : PySem.W.Frag) (vs : List V) (H : Hp) (Q : VK) (E : XK) (h : sp_table_fits K vs H Q E) : t_table_fits K { nx := fun _ H' => Q .non H', rt := Q } (start ["ground", "value", "most_rows", "most_columns", "limit", "row"] vs) H := by
  obtain ⟨g, v, d, mr, mc, l, no, rfl, p, hm, hm2, hq⟩ := h
  unfold t_table_fits
  walk_at "z"
  refine ⟨v, d, mr, mc, no, rfl, p, hm, fun H1 s1 => ?_⟩
  dsimp only
  refine ⟨_, rfl, ?_⟩
  cases hr : rowsB mr mc d with
  | false =>
    have e : tabB g mr mc l d = false := by
      cases d with
      | tuple ds => rw [tabB_t]; rw [hr]; rfl
      | _ => rfl
    have := hq H1 s1
    rw [e] at this
    simpa using this
  | true =>
    rw [if_neg (by decide)]
    obtain ⟨ds, rfl, l1, l2, hes⟩ := rowsB_tup hr
    obtain ⟨a, xs, rfl, hT, hA⟩ := pl_tup (p.same s1)
    refine ⟨a, rfl, ⟨_, sqT_of hT⟩, comp_T (sqT_of hT) (fun i => (ds[i]?).map fun d => .bl (vecB g (dlen d) l d)) (by rw [hA.1]; omega) (fun i x H' hx s Qo hQo => ?_) (fun D H' s hD => ?_)⟩
    · obtain ⟨e, he, pe⟩ := hA.get hx
      obtain ⟨es, rfl, e1, e2⟩ := hes e (List.mem_of_getElem? he)
      obtain ⟨b, ys, rfl, hb, hB⟩ := pl_tup pe
      walk_at "z"
      refine lenT (sqT_of (s _ _ hb)) ?_
      rw [hB.1]
      refine ⟨g, .ref b, .tuple es, es.length, l, no, rfl, pe.same s, by omega, fun H3 s3 => ?_⟩
      have := hQo H3 s3
      rw [he] at this
      exact this
    · rw [hA.1, all_bl (fun d => vecB g (dlen d) l d)] at hD
      refine ⟨D, _, rfl, sqL_of hD, ?_⟩
      have := hq H' (s1.trans s)
      rw [tabB_t] at this
      rw [hr, Bool.true_and] at this
      rw [List.all_map]
      exact this
theorem ok_table_fits {P : Program} {w : World} {K : PySem.W.Frag} {mg : Str → Option Value} {base : Heap} (T : Tx K mg) : Okk P w K mg base 5 "table_fits" ["ground", "value", "most_rows", "most_columns", "limit"] (sp_table_fits K) := by
  obtain ⟨fd_vector_fits, F_vector_fits, b_vector_fits, g_vector_fits, k_vector_fits⟩ := ok_vector_fits (P := P) (w := w) (base := base) T
  obtain ⟨fd_rows_fit, F_rows_fit, b_rows_fit, g_rows_fit, k_rows_fit⟩ := ok_rows_fit (P := P) (w := w) (base := base) T
  have hf_all := T.n_all
  have hf_len := T.n_len
  obtain ⟨fd, F⟩ := T.f_table_fits
  refine ⟨fd, F.ok sc_table_fits (fun vs H Q E h => len_table_fits h) (fun cdv A outer s H vs Q E hr h => ⟨t_table_fits K, PSs.nox ?_, pure_table_fits K vs H Q E h⟩), F.bindsN (fun _ _ _ _ _ _ us hl => match us, hl with | [_, _, _, _, _], _ => rfl), T.g_table_fits, F.kp⟩
  exact (pss_cons (ps_if (pt_not (pt_val (pe_call F_rows_fit (hr.mono (by decide)) rfl g_rows_fit k_rows_fit b_rows_fit .nil pass0 (pa_cons (pv 1) (pa_cons (pv 2) (pa_cons (pv 3) pa_nil)))))) (pss_one (ps_ret pe_bl)) pss_nil)
      (pss_one (ps_ret (pe_callB (cr_all rfl) (by rfl) hf_all (by decide +kernel) (pa_cons (pe_lc (own := [("row", 5)]) (g := (gName 5)) (tt := tYes) rfl sc_table_fits.nd (pi_tup (pv 1)) (blkOk_by (own := [("row", 5)]) (N := ["ground", "value", "most_rows", "most_columns", "limit", "row"]) (sc := defScope s_table_fits) (by decide +kernel)) (fun _ _ _ _ _ => (pg_name (i := 5) sc_table_fits.nd rfl (by first | exact Or.inl rfl | exact Or.inr rfl))) (fun _ _ _ _ _ => pts_nil) (fun _ _ _ _ _ => (pe_call F_vector_fits (hr.mono (by decide)) rfl g_vector_fits k_vector_fits b_vector_fits .nil pass0 (pa_cons (pv 0) (pa_cons (pv 5) (pa_cons (pe_callB call_len_seq (by rfl) hf_len (by decide +kernel) (pa_cons (pv 5) pa_nil)) (pa_cons (pv 4) pa_nil))))))) pa_nil)))))
/-! ### cleared_table -/
theorem sc_cleared_table : FnScope ["ground", "table", "width", "row"] ["ground", "table", "width"] (defScope s_cleared_table) := ⟨rfl, rfl, rfl, by decide +kernel, rfl, by decide +kernel, by decide +kernel⟩
def sp_cleared_table (K : PySem.W.Frag) : Sp := fun vs H Q _ => ∃ (g : Nat) (F : Type) (_ : Lean.Grind.Field F) (_ : Lean.Grind.IsCharP F g) (v : V) (b : Bool) (qss : List (List (Int × Int))) (W w : Nat), vs = [.int (g : Int), v, .int (w : Int)] ∧ GroundV (.int (g : Int)) ∧ TabP H g b v qss ∧ TabOk qss W ∧ w ≤ W ∧
  ∀ P A' T xs' nss M C lead sign R X H', Same H H' → H' P = some (.tup [.ref A', .ref T, .int lead, .int sign]) → H' A' = some (.lst xs') → All2 (ListI H') xs' M → H' T = some (.tup (C.map fun c : Nat => V.int (c : Int))) → (sign = 1 ∨ sign = -1) →
    All2 WholeR qss nss → (∀ r ∈ nss, ∀ n ∈ r, n.natAbs < 2 ^ 600) → Lin.CSt F g nss W w M C lead R X → Q (.ref P) H'
theorem len_cleared_table {K : PySem.W.Frag} {vs : List V} {H : Hp} {Q : VK} {E : XK} (h : sp_cleared_table K vs H Q E) : vs.length = ["ground", "table", "width"].length := by
  obtain ⟨_, _, _, _, _, _, _, _, _, rfl, _⟩ := h
  rfl
def t_cleared_table (K : PySem.W.Frag) : TS := (tRet (tCall (sp_cleared K) [] E0 (tCons (tVar 0) (tCons (tLc (iSeqB K (tVar 1)) (gName 3) tYes (tOp (rIxA K) (tCall (sp_whole_row K) [] E0 (tCons (tVar 0) (tCons (tVar 3) tNil))) (tC (.int 0))) [3]) (tCons (tVar 2) tNil)))))
theorem whole_sz {qs : List (Int × Int)} {ns : List Int} (h : WholeR qs ns) (h1 : ∀ q ∈ qs, 1 ≤ q.2) (h2 : ∀ q ∈ qs, Sz 150 q.1) (h3 : Sz 450 (prI (qs.map (·.2)))) : ∀ n ∈ ns, n.natAbs < 2 ^ 600 := by
  obtain ⟨B, hB, hd, hle, rfl⟩ := h
  intro n hn
  obtain ⟨q, hq, rfl⟩ := List.mem_map.mp hn
  have a1 := Int.ediv_nonneg (show 0 ≤ B by omega) (show 0 ≤ q.2 by have := h1 q hq; omega)
  have a2 := Int.ediv_le_self q.2 (show 0 ≤ B by omega)
  exact sz_mul (a := 150) (b := 450) (h2 q hq) (sz_le h3 (by omega))
theorem whole_rng {g : Int} {qs : List (Int × Int)} {ns : List Int} (h : WholeR qs ns) (h1 : ∀ q ∈ qs, q.2 = 1 ∧ 0 ≤ q.1 ∧ q.1 < g) : ∀ n ∈ ns, 0 ≤ n ∧ n < g := by
  obtain ⟨B, hB, hd, hle, rfl⟩ := h
  have hp : ∀ l : List (Int × Int), (∀ q ∈ l, q.2 = 1 ∧ 0 ≤ q.1 ∧ q.1 < g) → prI (l.map (·.2)) = 1 := by
    intro l
    induction l with
    | nil => intro _; rfl
    | cons q l ih => intro h; simp only [List.map_cons, prI, (h q (by simp)).1, ih fun r hr => h r (by simp [hr])]; rfl
  rw [hp qs h1] at hle
  have e : B = 1 := by omega
  subst e
  intro n hn
  obtain ⟨q, hq, rfl⟩ := List.mem_map.mp hn
  rw [(h1 q hq).1]
  simpa using (h1 q hq).2
theorem pure_cleared_table (K : PySem.W.Frag) (vs : List V) (H : Hp) (Q : VK) (E : XK) (h : sp_cleared_table K vs H Q E) : t_cleared_table K { nx := fun _ H' => Q .non H', rt := Q } (start ["ground", "table", "width", "row"] vs) H := by
  obtain ⟨g, F, iF, iC, v, b, qss, W, w, rfl, hg, ⟨A, xs, rfl, hA, hR⟩, ⟨ok1, ok2, ok3⟩, hw, hq⟩ := h
  have hxl : xs.length = qss.length := hR.1
  unfold t_cleared_table
  walk_at "z"
  refine ⟨A, b, rfl, ⟨_, sqB_same hA⟩, lc_B (xs := xs) (fun D i H' => Same H H' ∧ ∃ zs nss, H' D = some (.lst zs) ∧ All2 (ListI H') zs nss ∧ All2 WholeR (qss.take i) nss ∧ ∀ v ∈ zs, v ≠ .ref D) (fun D hD => ⟨same_upd hD, [], [], upd_same, ⟨rfl, fun i v q a b => by simp at a⟩, ⟨rfl, fun i v q a b => by simp at a⟩, by simp⟩) (fun D i H' p => p.1 _ _ hA) (fun D i x H' hD hx p => ?_) (fun D H1 hD p => ?_)⟩
  · obtain ⟨s3, zs, nss, hz, hN, hO, hne⟩ := p
    obtain ⟨qs, hqs, hr⟩ := hR.get hx
    have hb := seq_bot hr
    have hok := ok2 qs (List.mem_of_getElem? hqs)
    obtain ⟨T, ys, rfl, hT, hys⟩ := hr
    walk_at "z"
    refine ⟨(g : Int), T, ys, qs, b, rfl, s3 _ _ hT, hys.imp fun v q n => n.same s3, by omega, sz_up hok.2.2 (by decide), fun q hq => sz_up (hok.2.1 q hq) (by decide), fun p L B H4 hL s hp hL2 hB hd hle => ?_⟩
    refine ixT (sqT_of hp) (v := .ref L) rfl ?_
    have hDL : D ≠ L := fun e => by rw [← e, hz] at hL; cases hL
    refine ⟨zs, s _ _ hz, ?_, same_mutD (s3.trans s) hD, zs ++ [.ref L], nss ++ [qs.map fun q => q.1 * (B / q.2)], upd_same, (rows_imp hN fun v q hv h => (h.same s).upd (hne v hv)).push ⟨L, rfl, by rw [upd_ne hDL.symm]; exact hL2⟩, ?_, fun v hv => ?_⟩
    · have h1 := hN.1
      have h2 := hO.1
      rw [List.length_take] at h2
      exact Nat.lt_of_lt_of_le (show zs.length < 2 ^ 20 by omega) (by decide)
    · rw [List.take_succ, hqs]
      exact hO.push ⟨B, hB, hd, hle, rfl⟩
    · rcases List.mem_append.mp hv with hv | hv
      · exact hne v hv
      · rw [List.mem_singleton.mp hv]
        exact fun e => hDL (by cases e; rfl)
  · obtain ⟨s3, zs, nss, hz, hN, hO, hne⟩ := p
    rw [hxl, List.take_length] at hO
    walk_at "z"
    have back : ∀ ns ∈ nss, ∃ qs ∈ qss, (∀ q ∈ qs, 1 ≤ q.2 ∧ ((g : Int) ≠ 0 → q.2 = 1 ∧ 0 ≤ q.1 ∧ q.1 < (g : Int))) ∧ WholeR qs ns := fun ns hns => by
      obtain ⟨i, hi⟩ := List.mem_iff_getElem?.mp hns
      have hlt := (List.getElem?_eq_some_iff.mp hi).1
      have hlt2 : i < qss.length := by rw [hO.1]; exact hlt
      have e1 := List.getElem?_eq_getElem hlt2
      exact ⟨_, List.getElem_mem hlt2, seq_bot (hR.2 i _ _ (List.getElem?_eq_getElem (by omega)) e1), hO.2 i _ _ e1 hi⟩
    have small : ∀ r ∈ nss, ∀ n ∈ r, n.natAbs < 2 ^ 600 := fun r hr => by
      obtain ⟨qs, h1, h2, h3⟩ := back r hr
      exact whole_sz h3 (fun q hq => (h2 q hq).1) (ok2 qs h1).2.1 (ok2 qs h1).2.2
    refine ⟨g, F, iF, iC, D, zs, nss, W, w, 600, rfl, hz, hN, ⟨fun r hr => ?_, hw, ok3, by rw [← hO.1]; exact ok1, hg, by decide, small, fun g0 r hr => ?_⟩, fun P A' T xs' M C lead sign R X H' s hP hA' hM hT hsg hS _ => hq P A' T xs' nss M C lead sign R X H' (s3.trans s) hP hA' hM hT hsg hO small hS⟩
    · obtain ⟨qs, h1, h2, B, _, _, _, rfl⟩ := back r hr
      rw [List.length_map]; exact (ok2 qs h1).1
    · obtain ⟨qs, h1, h2, h3⟩ := back r hr
      exact whole_rng h3 fun q hq => (h2 q hq).2 (by omega)
theorem ok_cleared_table {P : Program} {w : World} {K : PySem.W.Frag} {mg : Str → Option Value} {base : Heap} (T : Tx K mg) : Okk P w K mg base 5 "cleared_table" ["ground", "table", "width"] (sp_cleared_table K) := by
  obtain ⟨fd_whole_row, F_whole_row, b_whole_row, g_whole_row, k_whole_row⟩ := ok_whole_row (P := P) (w := w) (base := base) T
  obtain ⟨fd_cleared, F_cleared, b_cleared, g_cleared, k_cleared⟩ := ok_cleared (P := P) (w := w) (base := base) T
  obtain ⟨fd, F⟩ := T.f_cleared_table
  refine ⟨fd, F.ok sc_cleared_table (fun vs H Q E h => len_cleared_table h) (fun cdv A outer s H vs Q E hr h => ⟨t_cleared_table K, PSs.nox ?_, pure_cleared_table K vs H Q E h⟩), F.bindsN (fun _ _ _ _ _ _ us hl => match us, hl with | [_, _, _], _ => rfl), T.g_cleared_table, F.kp⟩
  exact (pss_one (ps_ret (pe_call F_cleared (hr.mono (by decide)) rfl g_cleared k_cleared b_cleared .nil pass0 (pa_cons (pv 0) (pa_cons (pe_lc (own := [("row", 3)]) (g := (gName 3)) (tt := tYes) rfl sc_cleared_table.nd (pi_seqB (pv 1)) (blkOk_by (own := [("row", 3)]) (N := ["ground", "table", "width", "row"]) (sc := defScope s_cleared_table) (by decide +kernel)) (fun _ _ _ _ _ => (pg_name (i := 3) sc_cleared_table.nd rfl (by first | exact Or.inl rfl | exact Or.inr rfl))) (fun _ _ _ _ _ => pts_nil) (fun _ _ _ _ _ => (pe_ix ix_lt (pe_call F_whole_row (hr.mono (by decide)) rfl g_whole_row k_whole_row b_whole_row .nil pass0 (pa_cons (pv 0) (pa_cons (pv 3) pa_nil))) pe_int (fun _ _ => rfl)))) (pa_cons (pv 2) pa_nil))))))
/-! ### undone_rows -/
theorem sc_undone_rows : FnScope ["ground", "table", "size", "rows", "leads", "lead", "_", "row"] ["ground", "table"] (defScope s_undone_rows) := ⟨rfl, rfl, rfl, by decide +kernel, rfl, by decide +kernel, by decide +kernel⟩
theorem cut_from {xs : List V} {n : Nat} (h : n ≤ xs.length) : cutV xs (some (n : Int)) none = xs.drop n := by
  unfold cutV
  have e0 : HT.sIx xs.length 0 (some (n : Int)) = n := by
    rw [HT.sIx_nat, Nat.min_eq_left h]
  have e1 : HT.sIx xs.length xs.length none = xs.length := rfl
  rw [e0, e1]
  exact List.take_of_length_le (by simp)
theorem prI_app : ∀ (a b : List Int), prI (a ++ b) = prI a * prI b
  | [], b => by simp [prI]
  | n :: a, b => by rw [List.cons_append, prI, prI, prI_app a b, Int.mul_assoc]
def sp_undone_rows (K : PySem.W.Frag) : Sp := fun vs H Q _ => ∃ (g : Nat) (F : Type) (_ : Lean.Grind.Field F) (_ : Lean.Grind.IsCharP F g) (v : V) (qss : List (List (Int × Int))) (n : Nat) (_ : GroundV (.int (g : Int))) (_ : TabN H g v qss), vs = [.int (g : Int), v] ∧ qss.length = n ∧ 1 ≤ n ∧ n ≤ 4 ∧ (∀ qs ∈ qss, RowOK g qs n) ∧
  ∀ nss M C lead R X, All2 WholeR (List.zipWith (fun a b => a ++ b) qss (unitQ n)) nss → Lin.CSt F g nss (n + n) n M C lead R X → (C.length < n → ∀ H', Same H H' → Q .non H') ∧ (¬ C.length < n → ∀ z rss H', Same H H' → TabN H' g z rss → All2 (fun ns rs => All2 (OverR F lead) (ns.drop n) rs) M rss → Q z H')
theorem len_undone_rows {K : PySem.W.Frag} {vs : List V} {H : Hp} {Q : VK} {E : XK} (h : sp_undone_rows K vs H Q E) : vs.length = ["ground", "table"].length := by
  obtain ⟨_, _, _, _, _, _, _, _, _, rfl, _⟩ := h
  rfl
def t_undone_rows (K : PySem.W.Frag) : TS := (tSeq (tAsg (tCB (rLenU K) (tCons (tVar 1) tNil)) (gName 2))
  (tSeq (tAsg (tCall (sp_cleared_table K) [] E0 (tCons (tVar 0) (tCons (tCall (sp_beside K) [] E0 (tCons (tVar 1) (tCons (tCall (sp_unit_rows K) [] E0 (tCons (tVar 0) (tCons (tVar 2) tNil))) tNil))) (tCons (tVar 2) tNil)))) (gTup K 4 (gCons (gName 3) (gCons (gName 4) (gCons (gName 5) (gCons (gName 6) gNil))))))
  (tSeq (tIfS (tTest (tOp rLtI (tCB (rLenU K) (tCons (tVar 4) tNil)) (tVar 2))) (tRet (tC .non)) tNext)
  (tRet (tCB (rTupOf K) (tCons (tLc (iList K (tVar 3)) (gName 7) tYes (tCall (sp_numbers_over K) [] E0 (tCons (tVar 0) (tCons (tSl (rSlL K) (tVar 7) (tPart (tVar 2)) tNoPart) (tCons (tVar 5) tNil)))) [7]) tNil))))))
theorem pure_undone_rows (K : PySem.W.Frag) (vs : List V) (H : Hp) (Q : VK) (E : XK) (h : sp_undone_rows K vs H Q E) : t_undone_rows K { nx := fun _ H' => Q .non H', rt := Q } (start ["ground", "table", "size", "rows", "leads", "lead", "_", "row"] vs) H := by
  obtain ⟨g, F, iF, iC, v, qss, n, hg, hT, rfl, hl, h1, h4, hok, hq⟩ := h
  unfold t_undone_rows
  walk_at "z"
  have hT0 := hT
  obtain ⟨A, xs, rfl, hA, hR⟩ := hT0
  refine lenT (sqT_of hA) ?_
  rw [hR.1, hl]
  refine ⟨g, n, hg, rfl, by omega, fun u H1 s1 hu => ?_⟩
  have ul : (unitQ n).length = n := by simp [unitQ]
  have ur : ∀ rs ∈ unitQ n, rs.length = n ∧ ∀ q ∈ rs, q = (1, 1) ∨ q = (0, 1) := fun rs hrs => by
    obtain ⟨i, _, rfl⟩ := List.mem_map.mp hrs
    refine ⟨by simp, fun q hq => ?_⟩
    obtain ⟨j, _, rfl⟩ := List.mem_map.mp hq
    split
    · exact .inl rfl
    · exact .inr rfl
  refine ⟨(g : Int), false, .ref A, u, qss, unitQ n, rfl, hT.same s1, hu, by rw [hl, ul], by omega, fun qs hqs => by rw [(hok qs hqs).1]; omega, fun rs hrs => by rw [(ur rs hrs).1]; omega, fun b H2 s2 hb => ?_⟩
  have zl : (List.zipWith (fun a b => a ++ b) qss (unitQ n)).length = n := by simp [hl, ul]
  have tok : TabOk (List.zipWith (fun a b => a ++ b) qss (unitQ n)) (n + n) := by
    refine ⟨by omega, fun qs hqs => ?_, Nat.lt_of_le_of_lt (show n + n ≤ 8 by omega) (by decide)⟩
    obtain ⟨i, hi⟩ := List.mem_iff_getElem?.mp hqs
    rw [List.getElem?_zipWith] at hi
    cases e1 : qss[i]? with
    | none => rw [e1] at hi; cases hi
    | some as =>
      cases e2 : (unitQ n)[i]? with
      | none => rw [e1, e2] at hi; cases hi
      | some bs =>
        rw [e1, e2] at hi
        cases hi
        have ha := hok as (List.mem_of_getElem? e1)
        have hb := ur bs (List.mem_of_getElem? e2)
        have p1 : prI (bs.map (·.2)) = 1 := prI_one fun m hm => by
          obtain ⟨q, hq, rfl⟩ := List.mem_map.mp hm
          rcases hb.2 q hq with rfl | rfl <;> rfl
        refine ⟨by rw [List.length_append, ha.1, hb.1], fun q hq => ?_, ?_⟩
        · rcases List.mem_append.mp hq with hq | hq
          · exact ha.2.1 q hq
          · have h1 : q.1.natAbs < 2 ^ 1 := by rcases hb.2 q hq with rfl | rfl <;> decide
            exact Nat.lt_of_lt_of_le h1 (Nat.pow_le_pow_right (by decide) (by decide))
        · rw [List.map_append, prI_app, p1, Int.mul_one]
          exact ha.2.2
  refine ⟨g, F, iF, iC, b, true, _, n + n, n, rfl, hg, hb, tok, by omega, fun P A' T xs' nss M C lead sign R X H3 s3 hP hA' hM hC hsg hW hsm hS => ?_⟩
  refine ⟨_, _, rfl, sqT_of hP, rfl, ?_⟩
  walk_at "z"
  obtain ⟨q1, q2⟩ := hq nss M C lead R X hW hS
  refine lenT (sqT_of hC) ?_
  rw [List.length_map]
  walk_at "z"
  have sA := (s1.trans s2).trans s3
  by_cases hlt : C.length < n
  · rw [if_pos (by omega)]
    exact q1 hlt H3 sA
  · rw [if_neg (by omega)]
    have hMl := cst_len hS
    have nl : nss.length = n := by rw [← hW.1, zl]
    obtain ⟨szM, szl⟩ := cst_sz (B := 600) hS hg (by decide) hsm (by omega)
    refine ⟨A', rfl, ⟨_, sqL_of hA'⟩, comp_LA (P := fun H v a => RowN H g v a) (S := fun i rs => ∃ ns, M[i]? = some ns ∧ All2 (OverR F lead) (ns.drop n) rs) (stay_row g) hA' (by rw [hM.1, hMl, nl]; exact Nat.lt_of_le_of_lt h4 (by decide)) (fun i x H4 hx s4 Qo hQo => ?_) (fun D4 H4 zs as hD4 s4 hz hAA hlen hSS => ?_)⟩
    · obtain ⟨ns, hns, a, rfl, ha⟩ := hM.get hx
      have hm := List.mem_of_getElem? hns
      have wid := hS.wid ns hm
      walk_at "z"
      refine ⟨a, _, rfl, sqL_of (s4 _ _ ha), fun p hp => ?_⟩
      rw [cut_from (by rw [List.length_map]; omega), ← List.map_drop]
      refine ⟨g, F, iF, iC, p, ns.drop n, lead, hg, rfl, upd_same, by rw [List.length_drop, wid]; exact Nat.lt_of_le_of_lt (show n + n - n ≤ 4 by omega) (by decide), szl, fun m hm2 => szM ns hm m (List.mem_of_mem_drop hm2), hS.ldne, fun v2 qs H5 s5 hrow hov => ?_⟩
      exact hQo H5 v2 qs ((same_upd hp).trans s5) hrow ⟨ns, hns, hov⟩
    · refine ⟨D4, _, rfl, .inl ⟨sqL_of hz, fun T2 hT2 => ?_⟩⟩
      have s6 := same_upd (o := .tup zs) hT2
      refine q2 hlt (.ref T2) as _ ((sA.trans s4).trans s6) ⟨T2, zs, rfl, upd_same, hAA.imp fun v q n => n.same s6⟩ ⟨by rw [hlen, hM.1], fun i ns rs h1 h2 => ?_⟩
      obtain ⟨ns2, e, h⟩ := hSS i rs h2
      rw [h1] at e; cases e
      exact h
theorem ok_undone_rows {P : Program} {w : World} {K : PySem.W.Frag} {mg : Str → Option Value} {base : Heap} (T : Tx K mg) : Okk P w K mg base 6 "undone_rows" ["ground", "table"] (sp_undone_rows K) := by
  obtain ⟨fd_unit_rows, F_unit_rows, b_unit_rows, g_unit_rows, k_unit_rows⟩ := ok_unit_rows (P := P) (w := w) (base := base) T
  obtain ⟨fd_beside, F_beside, b_beside, g_beside, k_beside⟩ := ok_beside (P := P) (w := w) (base := base) T
  obtain ⟨fd_cleared_table, F_cleared_table, b_cleared_table, g_cleared_table, k_cleared_table⟩ := ok_cleared_table (P := P) (w := w) (base := base) T
  obtain ⟨fd_numbers_over, F_numbers_over, b_numbers_over, g_numbers_over, k_numbers_over⟩ := ok_numbers_over (P := P) (w := w) (base := base) T
  have hf_len := T.n_len
  have hf_tuple := T.n_tuple
  obtain ⟨fd, F⟩ := T.f_undone_rows
  refine ⟨fd, F.ok sc_undone_rows (fun vs H Q E h => len_undone_rows h) (fun cdv A outer s H vs Q E hr h => ⟨t_undone_rows K, PSs.nox ?_, pure_undone_rows K vs H Q E h⟩), F.bindsN (fun _ _ _ _ _ _ us hl => match us, hl with | [_, _], _ => rfl), T.g_undone_rows, F.kp⟩
  exact (pss_cons (ps_set (i := 2) sc_undone_rows.nd rfl (by first | exact Or.inl rfl | exact Or.inr rfl) (pe_callB call_len_seq (by rfl) hf_len (by decide +kernel) (pa_cons (pv 1) pa_nil)))
      (pss_cons (ps_asg (pe_call F_cleared_table (hr.mono (by decide)) rfl g_cleared_table k_cleared_table b_cleared_table .nil pass0 (pa_cons (pv 0) (pa_cons (pe_call F_beside (hr.mono (by decide)) rfl g_beside k_beside b_beside .nil pass0 (pa_cons (pv 1) (pa_cons (pe_call F_unit_rows (hr.mono (by decide)) rfl g_unit_rows k_unit_rows b_unit_rows .nil pass0 (pa_cons (pv 0) (pa_cons (pv 2) pa_nil))) pa_nil))) (pa_cons (pv 2) pa_nil)))) (pg_tup rfl (pgs_cons (pg_name (i := 3) sc_undone_rows.nd rfl (by first | exact Or.inl rfl | exact Or.inr rfl)) (pgs_cons (pg_name (i := 4) sc_undone_rows.nd rfl (by first | exact Or.inl rfl | exact Or.inr rfl)) (pgs_cons (pg_name (i := 5) sc_undone_rows.nd rfl (by first | exact Or.inl rfl | exact Or.inr rfl)) (pgs_cons (pg_name (i := 6) sc_undone_rows.nd rfl (by first | exact Or.inl rfl | exact Or.inr rfl)) pgs_nil))))))
      (pss_cons (ps_if (pt_cmpR op_lt (pe_callB call_len_seq (by rfl) hf_len (by decide +kernel) (pa_cons (pv 4) pa_nil)) (pv 2) (nomark _)) (pss_one (ps_ret pe_non)) pss_nil)
      (pss_one (ps_ret (pe_callTy call_tuple_of (by rfl) hf_tuple (by decide +kernel) (pa_cons (pe_lc (own := [("row", 7)]) (g := (gName 7)) (tt := tYes) rfl sc_undone_rows.nd (pi_list (pv 3)) (blkOk_by (own := [("row", 7)]) (N := ["ground", "table", "size", "rows", "leads", "lead", "_", "row"]) (sc := defScope s_undone_rows) (by decide +kernel)) (fun _ _ _ _ _ => (pg_name (i := 7) sc_undone_rows.nd rfl (by first | exact Or.inl rfl | exact Or.inr rfl))) (fun _ _ _ _ _ => pts_nil) (fun _ _ _ _ _ => (pe_call F_numbers_over (hr.mono (by decide)) rfl g_numbers_over k_numbers_over b_numbers_over .nil pass0 (pa_cons (pv 0) (pa_cons (pe_slice sl_list (pv 7) (po_some (pv 2)) po_none) (pa_cons (pv 5) pa_nil)))))) pa_nil)))))))
/-! ### kernel_rows -/
theorem sc_kernel_rows : FnScope ["ground", "table", "width", "rows", "leads", "lead", "_", "vectors", "free", "vector", "row", "column"] ["ground", "table"] (defScope s_kernel_rows) := ⟨rfl, rfl, rfl, by decide +kernel, rfl, by decide +kernel, by decide +kernel⟩
def sp_kernel_rows (K : PySem.W.Frag) : Sp := fun _ _ _ _ => False
theorem len_kernel_rows {K : PySem.W.Frag} {vs : List V} {H : Hp} {Q : VK} {E : XK} (h : sp_kernel_rows K vs H Q E) : vs.length = ["ground", "table"].length := h.elim
theorem ok_kernel_rows {P : Program} {w : World} {K : PySem.W.Frag} {mg : Str → Option Value} {base : Heap} (T : Tx K mg) : Okk P w K mg base 6 "kernel_rows" ["ground", "table"] (sp_kernel_rows K) := by
  obtain ⟨fd, F⟩ := T.f_kernel_rows
  exact ⟨fd, F.ok sc_kernel_rows (fun vs H Q E h => len_kernel_rows h) (fun cdv A outer s H vs Q E hr h => h.elim), F.bindsN (fun _ _ _ _ _ _ us hl => match us, hl with | [_, _], _ => rfl), T.g_kernel_rows, F.kp⟩
/-! ### is_table -/
theorem sc_is_table : FnScope ["ground", "value"] ["ground", "value"] (defScope s_is_table) := ⟨rfl, rfl, rfl, by decide +kernel, rfl, by decide +kernel, by decide +kernel⟩
def sp_is_table (K : PySem.W.Frag) : Sp := fun vs H Q E => ∃ (v w : V) (d e : PyData) (no : List Addr), vs = [v, w] ∧ Pl H no d v ∧ Pl H no e w ∧ (¬ GroundV v → RaiseF K E H "InvalidGround" "value" v) ∧ (∀ g, v = .int g → GroundV v → ∀ H', Same H H' → Q (.bl (tabB g 12 12 (10 ^ 20) e)) H')
theorem len_is_table {K : PySem.W.Frag} {vs : List V} {H : Hp} {Q : VK} {E : XK} (h : sp_is_table K vs H Q E) : vs.length = ["ground", "value"].length := by
  obtain ⟨_, _, _, _, _, rfl, _⟩ := h
  rfl
def t_is_table (K : PySem.W.Frag) (E : XK) : TS := (tSeq (tDrop (tCall (sp_check_ground K) [] E (tCons (tVar 0) tNil)))
  (tRet (tCall (sp_table_fits K) [] E0 (tCons (tVar 0) (tCons (tVar 1) (tCons (tC (.int 12)) (tCons (tC (.int 12)) (tCons (tC (.int 100000000000000000000)) tNil))))))))
theorem pure_is_table (K : PySem.W.Frag) (vs : List V) (H : Hp) (Q : VK) (E : XK) (h : sp_is_table K vs H Q E) : t_is_table K E { nx := fun _ H' => Q .non H', rt := Q } (start ["ground", "value"] vs) H := by
  obtain ⟨v, w, d, e, no, rfl, p, q, h1, h2⟩ := h
  unfold t_is_table
  walk_at "z"
  refine ⟨v, d, no, rfl, p, fun hg => ?_, h1⟩
  walk_at "z"
  obtain ⟨g, rfl, _⟩ := id hg
  exact ⟨g, w, e, 12, 12, _, no, rfl, q, by decide, by decide, fun H' s => h2 g rfl hg H' s⟩
theorem ok_is_table {P : Program} {w : World} {K : PySem.W.Frag} {mg : Str → Option Value} {base : Heap} (T : Tx K mg) : OkkX P w K mg base 6 "is_table" ["ground", "value"] (sp_is_table K) := by
  obtain ⟨fd_check_ground, F_check_ground, b_check_ground, g_check_ground, k_check_ground⟩ := ok_check_ground (P := P) (w := w) (base := base) T
  obtain ⟨fd_table_fits, F_table_fits, b_table_fits, g_table_fits, k_table_fits⟩ := ok_table_fits (P := P) (w := w) (base := base) T
  obtain ⟨_, hc_MAX_SIDE⟩ := T.c_MAX_SIDE
  obtain ⟨_, hc_TWENTY_DIGITS⟩ := T.c_TWENTY_DIGITS
  obtain ⟨fd, F⟩ := T.f_is_table
  refine ⟨fd, F.ok sc_is_table (fun vs H Q E h => len_is_table h) (fun cdv A outer s H vs Q E hr h => ⟨t_is_table K E, ?_, pure_is_table K vs H Q E h⟩), F.bindsN (fun _ _ _ _ _ _ us hl => match us, hl with | [_, _], _ => rfl), T.g_is_table, F.kp⟩
  exact (pss_cons (ps_expr (pe_call F_check_ground (hr.mono (by decide)) rfl g_check_ground k_check_ground b_check_ground .nil (passes_call (takes_of rfl rfl rfl rfl) (fun _ _ _ _ h => h)) (pa_cons (pv 0) pa_nil)))
      (pss_one (ps_ret (pe_call F_table_fits (hr.mono (by decide)) rfl g_table_fits k_table_fits b_table_fits .nil pass0 (pa_cons (pv 0) (pa_cons (pv 1) (pa_cons (pe_glob rfl hc_MAX_SIDE ⟨_, rfl⟩) (pa_cons (pe_glob rfl hc_MAX_SIDE ⟨_, rfl⟩) (pa_cons (pe_glob rfl hc_TWENTY_DIGITS ⟨_, rfl⟩) pa_nil)))))))))
/-! ### unit_table -/
theorem sc_unit_table : FnScope ["ground", "size"] ["ground", "size"] (defScope s_unit_table) := ⟨rfl, rfl, rfl, by decide +kernel, rfl, by decide +kernel, by decide +kernel⟩
def sp_unit_table (K : PySem.W.Frag) : Sp := fun vs H Q E => ∃ (v w : V) (d e : PyData), vs = [v, w] ∧ ∃ no, Pl H no d v ∧ Pl H no e w ∧ ((¬ GroundV v ∧ RaiseF K E H "InvalidGround" "value" v) ∨ (GroundV v ∧ (∀ n, w = .int n → n < 1 ∨ 12 < n) ∧ RaiseF K E H "InvalidNumber" "given" w) ∨ (∃ (g n : Nat), v = .int (g : Int) ∧ GroundV v ∧ w = .int (n : Int) ∧ 1 ≤ n ∧ n ≤ 12 ∧ ∀ z H', Same H H' → Q z H'))
theorem len_unit_table {K : PySem.W.Frag} {vs : List V} {H : Hp} {Q : VK} {E : XK} (h : sp_unit_table K vs H Q E) : vs.length = ["ground", "size"].length := by
  obtain ⟨_, _, _, _, rfl, _⟩ := h
  rfl
def t_unit_table (K : PySem.W.Frag) (E : XK) : TS := (tSeq (tDrop (tCall (sp_check_ground K) [] E (tCons (tVar 0) tNil)))
  (tSeq (tDrop (tCall (sp_check_between K) [] E (tCons (tVar 1) (tCons (tC (.int 1)) (tCons (tC (.int 12)) tNil)))))
  (tRet (tCall (sp_unit_rows K) [] E0 (tCons (tVar 0) (tCons (tVar 1) tNil))))))
theorem pure_unit_table (K : PySem.W.Frag) (vs : List V) (H : Hp) (Q : VK) (E : XK) (h : sp_unit_table K vs H Q E) : t_unit_table K E { nx := fun _ H' => Q .non H', rt := Q } (start ["ground", "size"] vs) H := by
  obtain ⟨v, w, d, e, rfl, no, p, q, h⟩ := h
  unfold t_unit_table
  walk_at "z"
  rcases h with ⟨a, b⟩ | ⟨a, b, c⟩ | ⟨g, n, rfl, hg, rfl, n1, n12, hq⟩
  · exact ⟨v, d, no, rfl, p, fun c => absurd c a, fun _ => b⟩
  · refine ⟨v, d, no, rfl, p, fun _ => ?_, fun c => absurd a c⟩
    walk_at "z"
    exact ⟨w, e, 1, 12, no, rfl, q, .inr ⟨b, c⟩⟩
  · refine ⟨_, d, no, rfl, p, fun _ => ?_, fun c => absurd hg c⟩
    walk_at "z"
    refine ⟨_, e, 1, 12, no, rfl, q, .inl ⟨_, rfl, by omega, by omega, ?_⟩⟩
    walk_at "z"
    exact ⟨g, n, hg, rfl, n12, fun z H' s _ => hq z H' s⟩
theorem ok_unit_table {P : Program} {w : World} {K : PySem.W.Frag} {mg : Str → Option Value} {base : Heap} (T : Tx K mg) : OkkX P w K mg base 6 "unit_table" ["ground", "size"] (sp_unit_table K) := by
  obtain ⟨fd_check_ground, F_check_ground, b_check_ground, g_check_ground, k_check_ground⟩ := ok_check_ground (P := P) (w := w) (base := base) T
  obtain ⟨fd_check_between, F_check_between, b_check_between, g_check_between, k_check_between⟩ := ok_check_between (P := P) (w := w) (base := base) T
  obtain ⟨fd_unit_rows, F_unit_rows, b_unit_rows, g_unit_rows, k_unit_rows⟩ := ok_unit_rows (P := P) (w := w) (base := base) T
  obtain ⟨_, hc_MAX_SIDE⟩ := T.c_MAX_SIDE
  obtain ⟨fd, F⟩ := T.f_unit_table
  refine ⟨fd, F.ok sc_unit_table (fun vs H Q E h => len_unit_table h) (fun cdv A outer s H vs Q E hr h => ⟨t_unit_table K E, ?_, pure_unit_table K vs H Q E h⟩), F.bindsN (fun _ _ _ _ _ _ us hl => match us, hl with | [_, _], _ => rfl), T.g_unit_table, F.kp⟩
  exact (pss_cons (ps_expr (pe_call F_check_ground (hr.mono (by decide)) rfl g_check_ground k_check_ground b_check_ground .nil (passes_call (takes_of rfl rfl rfl rfl) (fun _ _ _ _ h => h)) (pa_cons (pv 0) pa_nil)))
      (pss_cons (ps_expr (pe_call F_check_between (hr.mono (by decide)) rfl g_check_between k_check_between b_check_between .nil (passes_call (takes_of rfl rfl rfl rfl) (fun _ _ _ _ h => h)) (pa_cons (pv 1) (pa_cons pe_int (pa_cons (pe_glob rfl hc_MAX_SIDE ⟨_, rfl⟩) pa_nil)))))
      (pss_one (ps_ret (pe_call F_unit_rows (hr.mono (by decide)) rfl g_unit_rows k_unit_rows b_unit_rows .nil pass0 (pa_cons (pv 0) (pa_cons (pv 1) pa_nil)))))))
/-! ### rank_paper -/
theorem sc_rank_paper : FnScope ["ground", "table", "columns", "_", "rows", "part", "j", "i", "back", "sums", "row"] ["ground", "table"] (defScope s_rank_paper) := ⟨rfl, rfl, rfl, by decide +kernel, rfl, by decide +kernel, by decide +kernel⟩
section
variable {g : Nat}
theorem r12_tab_row {H : Hp} {v : V} {qss : List (List (Int × Int))} (h : TabN H g v qss) {qs : List (Int × Int)} (hq : qs ∈ qss) : ∃ w, RowN H g w qs := by
  obtain ⟨T, xs, _, _, hA⟩ := h
  obtain ⟨i, hi⟩ := List.mem_iff_getElem?.mp hq
  have hlt := (List.getElem?_eq_some_iff.mp hi).1
  exact ⟨_, hA.2 i _ qs (List.getElem?_eq_getElem (by rw [hA.1]; exact hlt)) hi⟩
end
section
variable {F : Type} [Lean.Grind.Field F] {g : Nat}
theorem r12_at_no {qss : List (List (Int × Int))} {i : Nat} (hi : ¬ i < qss.length) (j : Nat) : atF F qss i j = 0 := by
  unfold atF
  rw [List.getD_eq_getElem?_getD, List.getElem?_eq_none (by omega)]
  exact rowF_no (by simp)
theorem r12_at_no2 {qss : List (List (Int × Int))} {n j : Nat} (hW : ∀ qs ∈ qss, qs.length = n) (hj : ¬ j < n) (i : Nat) : atF F qss i j = 0 := by
  by_cases hi : i < qss.length
  · rw [atF_at (List.getElem?_eq_getElem hi)]
    have := hW _ (List.getElem_mem hi)
    exact rowF_no (by omega)
  · exact r12_at_no hi j
theorem r12_unit_len {n : Nat} : (unitQ n).length = n ∧ ∀ qs ∈ unitQ n, qs.length = n := by
  refine ⟨by simp [unitQ], fun qs hq => ?_⟩
  obtain ⟨i, _, rfl⟩ := List.mem_map.mp hq
  simp
theorem r12_unit_row {n i : Nat} (hi : i < n) : (unitQ n)[i]? = some ((List.range n).map fun j => (if i = j then ((1 : Int), (1 : Int)) else (0, 1))) := by
  unfold unitQ
  rw [List.getElem?_map, List.getElem?_range hi]; rfl
theorem r12_unit_at {n i j : Nat} (hi : i < n) (hj : j < n) : atF F (unitQ n) i j = if i = j then 1 else 0 := by
  rw [atF_at (r12_unit_row hi), rowF_at (q := if i = j then ((1 : Int), (1 : Int)) else (0, 1)) (by rw [List.getElem?_map, List.getElem?_range hj]; rfl)]
  by_cases e : i = j
  · rw [if_pos e, if_pos e, Lin.val_one, Lin.ph_one]
  · rw [if_neg e, if_neg e, Lin.val_one, Lin.ph_zero]
variable [Lean.Grind.IsCharP F g]
theorem r12_whole_val {qs : List (Int × Int)} {ns : List Int} (hb : ∀ q ∈ qs, 1 ≤ q.2 ∧ ((g : Int) ≠ 0 → q.2 = 1)) (h : WholeR qs ns) : ∃ B : Int, Lin.ph F B ≠ 0 ∧ (∀ j, Lin.ph F (Lin.fn ns j) = Lin.ph F B * rowF F qs j) ∧ ns.length = qs.length := by
  obtain ⟨B, hB, hd, hle, rfl⟩ := h
  have hBne : Lin.ph F B ≠ 0 := by
    by_cases g0 : g = 0
    · subst g0
      exact fun e => by rw [Lin.ph_eq_zero 0] at e; simp at e; omega
    · have e1 : prI (qs.map (·.2)) = 1 := prI_one fun n hn => by
        obtain ⟨q, hq, rfl⟩ := List.mem_map.mp hn
        exact (hb q hq).2 (by omega)
      have e2 : B = 1 := by omega
      rw [e2, Lin.ph_one]; exact Lin.one_ne
  refine ⟨B, hBne, fun j => ?_, by simp⟩
  unfold Lin.fn
  by_cases hj : j < qs.length
  · have hq := List.getElem?_eq_getElem hj
    rw [rowF_at hq, List.getD_eq_getElem?_getD, List.getElem?_map, hq]
    generalize qs[j] = q at hq
    obtain ⟨k, hk⟩ := hd q (List.mem_of_getElem? hq)
    have h1 := (hb q (List.mem_of_getElem? hq)).1
    have hk2 : B / q.2 = k := by rw [hk]; exact Int.mul_ediv_cancel_left _ (by omega)
    show Lin.ph F (q.1 * (B / q.2)) = _ * Lin.val F q.1 q.2
    rw [hk2]
    have e := congrArg (Lin.ph F) hk
    rw [Lin.ph_mul] at e
    have hq0 : Lin.ph F q.2 ≠ 0 := fun c => hBne (by rw [e, c]; grind)
    unfold Lin.val
    rw [Lin.ph_mul, e]
    grind
  · rw [rowF_no (by omega), List.getD_eq_getElem?_getD, List.getElem?_eq_none (by simp; omega)]
    show Lin.ph F 0 = _
    rw [Lin.ph_zero]; grind
theorem r12_tab_bot {H : Hp} {v : V} {qss : List (List (Int × Int))} (hT : TabN H g v qss) : ∀ qs ∈ qss, ∀ q ∈ qs, 1 ≤ q.2 ∧ ((g : Int) ≠ 0 → q.2 = 1) := fun qs hqs q hq => by
  obtain ⟨w, hr⟩ := r12_tab_row hT hqs
  have := row_bot hr q hq
  exact ⟨this.1, fun c => (this.2 c).1⟩
theorem r12_unit_bot {n : Nat} : ∀ qs ∈ unitQ n, ∀ q ∈ qs, 1 ≤ q.2 ∧ ((g : Int) ≠ 0 → q.2 = 1) ∧ q.1.natAbs ≤ 1 ∧ q.2 = 1 := fun qs hqs q hq => by
  obtain ⟨i, _, rfl⟩ := List.mem_map.mp hqs
  obtain ⟨j, _, rfl⟩ := List.mem_map.mp hq
  split <;> exact ⟨by decide, fun _ => rfl, by decide, rfl⟩
theorem r12_rowF_app {qs rs : List (Int × Int)} (j : Nat) : (j < qs.length → rowF F (qs ++ rs) j = rowF F qs j) ∧ rowF F (qs ++ rs) (qs.length + j) = rowF F rs j := by
  refine ⟨fun hj => ?_, ?_⟩
  · have h1 := List.getElem?_eq_getElem hj
    rw [rowF_at h1]
    exact rowF_at (by rw [List.getElem?_append_left hj, h1])
  · by_cases hj : j < rs.length
    · have h1 := List.getElem?_eq_getElem hj
      rw [rowF_at h1]
      exact rowF_at (by rw [List.getElem?_append_right (by omega), show qs.length + j - qs.length = j by omega, h1])
    · rw [rowF_no (by rw [List.length_append]; omega), rowF_no (by omega)]
theorem r12_side_rows {H : Hp} {v : V} {qss : List (List (Int × Int))} {n : Nat} {nss : List (List Int)} (hT : TabN H g v qss) (hl : qss.length = n) (hW : ∀ qs ∈ qss, qs.length = n) (hA : All2 WholeR (List.zipWith (fun a b => a ++ b) qss (unitQ n)) nss) : ∃ w : Nat → F, (∀ i, w i ≠ 0) ∧ ∀ i ns, nss[i]? = some ns → (∀ j, j < n → Lin.ph F (Lin.fn ns j) = w i * atF F qss i j) ∧ ∀ j, j < n → Lin.ph F (Lin.fn ns (n + j)) = w i * if i = j then 1 else 0 := by
  have key : ∀ i : Nat, ∃ w : F, w ≠ 0 ∧ ∀ ns, nss[i]? = some ns → (∀ j, j < n → Lin.ph F (Lin.fn ns j) = w * atF F qss i j) ∧ ∀ j, j < n → Lin.ph F (Lin.fn ns (n + j)) = w * if i = j then 1 else 0 := fun i => by
    have hz : (List.zipWith (fun a b => a ++ b) qss (unitQ n)).length = n := by
      rw [List.length_zipWith, hl, r12_unit_len.1]; omega
    by_cases hi : i < n
    · have h1 := List.getElem?_eq_getElem (show i < qss.length by omega)
      have h2 := List.getElem?_eq_getElem (show i < nss.length by rw [← hA.1, hz]; exact hi)
      have hu := r12_unit_row hi
      have h3 : (List.zipWith (fun a b => a ++ b) qss (unitQ n))[i]? = some (qss[i] ++ (List.range n).map fun j => (if i = j then ((1 : Int), (1 : Int)) else (0, 1))) := by
        rw [List.getElem?_zipWith, h1, hu]
      have hm := List.getElem_mem (show i < qss.length by omega)
      have hlq := hW _ hm
      have hb := r12_tab_bot hT _ hm
      obtain ⟨B, b1, b2, _⟩ := r12_whole_val (F := F) (g := g) (fun q hq => by
        rcases List.mem_append.mp hq with hq | hq
        · exact hb q hq
        · have := r12_unit_bot (g := g) _ (List.mem_of_getElem? hu) q hq
          exact ⟨this.1, this.2.1⟩) (hA.2 i _ _ h3 h2)
      refine ⟨_, b1, fun ns hns => ?_⟩
      rw [h2] at hns
      cases hns
      refine ⟨fun j hj => ?_, fun j hj => ?_⟩
      · rw [b2, (r12_rowF_app j).1 (by omega), atF_at h1]
      · have := (r12_rowF_app (F := F) (qs := qss[i]) (rs := (List.range n).map fun j => (if i = j then ((1 : Int), (1 : Int)) else (0, 1))) j).2
        rw [hlq] at this
        rw [b2, this, ← atF_at (F := F) hu, r12_unit_at hi hj]
    · refine ⟨1, Lin.one_ne, fun ns hns => ?_⟩
      have := (List.getElem?_eq_some_iff.mp hns).1
      rw [← hA.1, hz] at this
      exact absurd this hi
  exact ⟨fun i => Classical.choose (key i), fun i => (Classical.choose_spec (key i)).1, fun i => (Classical.choose_spec (key i)).2⟩
end
section
variable {F : Type} [Lean.Grind.Field F] {g : Nat} [Lean.Grind.IsCharP F g]
/-- all rows multiples of one vector: one lead, the first column -/
theorem lead0 {H : Hp} {v : V} {qss : List (List (Int × Int))} {W : Nat} {nss M : List (List Int)} {C : List Nat} {lead : Int} {R X : List Lin.Row} {u : Nat → F} (hT : TabN H g v qss) (hW : ∀ qs ∈ qss, qs.length = W) (hA : All2 WholeR qss nss) (hS : Lin.CSt F g nss W W M C lead R X) (u0 : u 0 = 1) (hu : ∀ qs ∈ qss, ∃ t, ∀ j, rowF F qs j = t * u j) (hx : ∃ qs ∈ qss, rowF F qs 0 ≠ 0) : C = [0] := by
  have scale : ∀ {i : Nat} {qs : List (Int × Int)} {ns : List Int}, qss[i]? = some qs → nss[i]? = some ns → ns.length = W ∧ ∃ B : F, B ≠ 0 ∧ ∀ j, Lin.ph F (Lin.fn ns j) = B * rowF F qs j := fun {i qs ns} h1 h2 => by
    have hm := List.mem_of_getElem? h1
    obtain ⟨B, b1, b2, b3⟩ := r12_whole_val (F := F) (g := g) (r12_tab_bot hT qs hm) (hA.2 i qs ns h1 h2)
    exact ⟨by rw [b3]; exact hW qs hm, _, b1, b2⟩
  have hnW : ∀ ns ∈ nss, ns.length = W := fun ns hn => by
    obtain ⟨i, hi⟩ := List.mem_iff_getElem?.mp hn
    have hq := List.getElem?_eq_getElem (show i < qss.length by rw [hA.1]; exact (List.getElem?_eq_some_iff.mp hi).1)
    exact (scale hq hi).1
  have k : Lin.RB (fun v => ∃ ns ∈ nss, v = fun j => Lin.ph F (Lin.fn ns j)) [0] (fun _ j => u j) := by
    refine ⟨⟨by simp, fun c hc => ?_, fun c hc d hd n => ?_, fun c hc j hj => ?_⟩, by simp, fun v ⟨ns, hn, e⟩ => ?_, fun c hc => ?_⟩
    · rw [List.mem_singleton.mp hc]; exact u0
    · rw [List.mem_singleton.mp hc, List.mem_singleton.mp hd] at n
      exact absurd rfl n
    · rw [List.mem_singleton.mp hc] at hj
      omega
    · obtain ⟨i, hi⟩ := List.mem_iff_getElem?.mp hn
      have hq := List.getElem?_eq_getElem (show i < qss.length by rw [hA.1]; exact (List.getElem?_eq_some_iff.mp hi).1)
      obtain ⟨_, B, _, b2⟩ := scale hq hi
      obtain ⟨t, ht⟩ := hu _ (List.mem_of_getElem? hq)
      intro j
      rw [e]
      show Lin.ph F (Lin.fn ns j) = Lin.ph F (Lin.fn ns 0) * u j + 0
      rw [b2, b2, ht, ht, u0]
      grind
    · obtain ⟨qs, hq, h0⟩ := hx
      obtain ⟨i, hi⟩ := List.mem_iff_getElem?.mp hq
      obtain ⟨ns, hn⟩ : ∃ ns, nss[i]? = some ns := ⟨_, List.getElem?_eq_getElem (show i < nss.length by rw [← hA.1]; exact (List.getElem?_eq_some_iff.mp hi).1)⟩
      obtain ⟨_, B, b1, b2⟩ := scale hi hn
      obtain ⟨t, ht⟩ := hu _ hq
      have t0 : t ≠ 0 := fun z => h0 (by rw [ht, z]; grind)
      have h2 : Lin.Gen (fun v => ∃ ns ∈ nss, v = fun j => Lin.ph F (Lin.fn ns j)) (fun j => Lin.ph F (Lin.fn ns j)) := .mem ⟨_, List.mem_of_getElem? hn, rfl⟩
      have h3 := h2.mul ((B * t)⁻¹)
      have e2 : (fun j => (B * t)⁻¹ * Lin.ph F (Lin.fn ns j)) = fun j => u j := by
        funext j
        rw [b2, ht]
        have : B * t ≠ 0 := fun z => by
          have : B = 0 ∨ t = 0 := by grind
          rcases this with z | z
          · exact b1 z
          · exact t0 z
        grind
      rwa [e2] at h3
  exact ((hS.rb hnW).same k).1
end
theorem rowF_rep {F : Type} [Lean.Grind.Field F] {n j : Nat} {q : Int × Int} : rowF F (List.replicate n q) j = if j < n then Lin.val F q.1 q.2 else 0 := by
  by_cases h : j < n
  · rw [if_pos h, rowF_at (q := q) (by rw [List.getElem?_replicate, if_pos h])]
  · rw [if_neg h, rowF_no (by simp; omega)]
theorem turn_rep {n W : Nat} {q : Int × Int} : turnQ (List.replicate n (List.replicate W q)) W = List.replicate W (List.replicate n q) := by
  unfold turnQ
  refine List.ext_getElem? fun i => ?_
  rw [List.getElem?_map, List.getElem?_replicate]
  by_cases h : i < W
  · rw [List.getElem?_range h, if_pos h, Option.map_some, List.map_replicate]
    congr 2
    rw [List.getD_eq_getElem?_getD, List.getElem?_replicate, if_pos h]; rfl
  · rw [List.getElem?_eq_none (by simp; omega), if_neg h]; rfl
theorem prI_rep1 : ∀ n : Nat, prI (List.replicate n 1) = 1
  | 0 => rfl
  | n + 1 => by
    rw [List.replicate_succ]
    simp only [prI, prI_rep1 n]
    rfl
theorem ok_rep {g c : Int} {W : Nat} (hc : Sz 100 c) : RowOK g (List.replicate W (c, 1)) W := by
  refine ⟨by simp, fun q hq => ?_, ?_⟩
  · rw [(List.mem_replicate.mp hq).2]
    exact Nat.lt_of_lt_of_le hc (Nat.pow_le_pow_right (by decide) (by decide))
  · rw [List.map_replicate, prI_rep1]
    exact Nat.lt_of_lt_of_le (show (1 : Int).natAbs < 2 ^ 1 by decide) (Nat.pow_le_pow_right (by decide) (by decide))
theorem seqP_upd {H : Hp} {g : Int} {b : Bool} {D : Addr} {zs : List V} {o : HO} {v : V} {qs : List (Int × Int)} (h : SeqP H g b v qs) (hv : v ≠ .ref D) (hD : H D = some (.lst zs)) : SeqP (L2.upd H D o) g b v qs := by
  obtain ⟨a, xs, rfl, ha, hA⟩ := h
  exact ⟨a, xs, rfl, by rw [upd_ne (fun e => hv (by rw [e]))]; exact ha, hA.imp fun v q n => n.updL hD⟩
def sp_rank_paper (K : PySem.W.Frag) : Sp := fun vs H Q _ => ∃ (v : V) (n W : Nat) (c : Int), vs = [.int 0, v] ∧ TabN H 0 v (List.replicate n (List.replicate W (c, 1))) ∧ (1 ≤ n ∧ n ≤ 12 ∧ 1 ≤ W ∧ W ≤ 12) ∧ (1 ≤ c ∧ Sz 100 c) ∧ ∀ P a y z u xs H', Same H H' → H' P = some (.tup [.ref a, y, z, u]) → H' a = some (.tup xs) → Q (.ref P) H'
theorem len_rank_paper {K : PySem.W.Frag} {vs : List V} {H : Hp} {Q : VK} {E : XK} (h : sp_rank_paper K vs H Q E) : vs.length = ["ground", "table"].length := by
  obtain ⟨_, _, _, _, rfl, _⟩ := h
  rfl
def t_rank_paper (K : PySem.W.Frag) : TS := (tSeq (tAsg (tOp (rIxA K) (tCall (sp_cleared_table K) [] E0 (tCons (tVar 0) (tCons (tVar 1) (tCons (tCB (rLenU K) (tCons (tOp (rIxA K) (tVar 1) (tC (.int 0))) tNil)) tNil)))) (tC (.int 1))) (gName 2))
  (tSeq (tIfS (tTest (tOp rEq (tCB (rLenU K) (tCons (tVar 2) tNil)) (tC (.int 0)))) (tRet (tTup (tCons (tTup tNil) (tCons (tTup tNil) (tCons (tTup tNil) (tCons (tCB (rTupOf K) (tCons (tLc (iTup K (tVar 1)) (gName 3) tYes (tTup tNil) [3]) tNil)) tNil)))))) tNext)
  (tSeq (tAsg (tOp (rIxA K) (tCall (sp_cleared_table K) [] E0 (tCons (tVar 0) (tCons (tCall (sp_turned K) [] E0 (tCons (tVar 1) tNil)) (tCons (tCB (rLenU K) (tCons (tVar 1) tNil)) tNil)))) (tC (.int 1))) (gName 4))
  (tSeq (tAsg (tCB (rTupOf K) (tCons (tLc (iTup K (tVar 4)) (gName 7) tYes (tCB (rTupOf K) (tCons (tLc (iTup K (tVar 2)) (gName 6) tYes (tOp (rIxA K) (tOp (rIxA K) (tVar 1) (tVar 7)) (tVar 6)) [6]) tNil)) [7]) tNil)) (gName 5))
  (tSeq (tAsg (tCall (sp_undone_rows K) [] E0 (tCons (tVar 0) (tCons (tVar 5) tNil))) (gName 8))
  (tSeq (tAsg (tCall (sp_product_rows K) [] E0 (tCons (tVar 0) (tCons (tLc (iTup K (tVar 1)) (gName 10) tYes (tLc (iTup K (tVar 2)) (gName 6) tYes (tOp (rIxA K) (tVar 10) (tVar 6)) [6]) [10]) (tCons (tVar 8) tNil)))) (gName 9))
  (tRet (tTup (tCons (tVar 4) (tCons (tVar 2) (tCons (tVar 8) (tCons (tVar 9) tNil))))))))))))
theorem pure_rank_paper (K : PySem.W.Frag) (vs : List V) (H : Hp) (Q : VK) (E : XK) (h : sp_rank_paper K vs H Q E) : t_rank_paper K { nx := fun _ H' => Q .non H', rt := Q } (start ["ground", "table", "columns", "_", "rows", "part", "j", "i", "back", "sums", "row"] vs) H := by
  obtain ⟨v, n, W, c, rfl, hT, ⟨n1, n12, W1, W12⟩, ⟨c1, cs⟩, hq⟩ := h
  have hg : GroundV (.int ((0 : Nat) : Int)) := ⟨0, rfl, by decide, by decide, .inl rfl⟩
  obtain ⟨F, iF, iC⟩ := Lin.ground_field 0 fun h => absurd rfl h
  have cF : Lin.val F c 1 ≠ 0 := fun e => by rw [Lin.val_one, Lin.ph_eq_zero 0] at e; simp at e; omega
  have tok : ∀ m w : Nat, m ≤ 12 → w ≤ 12 → TabOk (List.replicate m (List.replicate w (c, 1))) w := fun m w h1 h2 => ⟨by simp; omega, fun qs hqs => by rw [(List.mem_replicate.mp hqs).2]; exact ok_rep (g := 0) cs, by omega⟩
  have hwd : ∀ m w : Nat, ∀ qs ∈ List.replicate m (List.replicate w (c, (1 : Int))), qs.length = w := fun m w qs hqs => by rw [(List.mem_replicate.mp hqs).2]; simp
  have lead : ∀ {H' : Hp} {z : V} {m w : Nat} {nss M : List (List Int)} {C : List Nat} {ld : Int} {R X : List Lin.Row}, TabN H' ((0 : Nat) : Int) z (List.replicate m (List.replicate w (c, 1))) → 1 ≤ m → 1 ≤ w → All2 WholeR (List.replicate m (List.replicate w (c, 1))) nss → Lin.CSt F 0 nss w w M C ld R X → C = [0] := by
    intro H' z m w nss M C ld R X T m1 w1 hA hS
    refine lead0 (F := F) (g := 0) (u := fun j => if j < w then 1 else 0) T (hwd m w) hA hS (by show (if 0 < w then (1 : F) else 0) = 1; rw [if_pos (by omega)]) (fun qs hqs => ⟨Lin.val F c 1, fun j => ?_⟩) ⟨_, List.mem_replicate.mpr ⟨by omega, rfl⟩, by rw [rowF_rep, if_pos (by omega)]; exact cF⟩
    rw [(List.mem_replicate.mp hqs).2, rowF_rep]
    show (if j < w then Lin.val F c 1 else 0) = Lin.val F c 1 * if j < w then (1 : F) else 0
    split <;> grind
  unfold t_rank_paper
  walk_at "z"
  refine tab_w hT (by simp; omega) (hwd n W) ?_
  refine ⟨0, F, iF, iC, v, false, _, W, W, rfl, hg, hT.p, tok n W n12 W12, Nat.le_refl _, fun P A' T xs' nss M C ld sign R X H2 s2 hP hA' hM hT2 hsg hWh hsm hS => ?_⟩
  have eC := lead hT n1 W1 hWh hS
  subst eC
  refine ixT (sqT_of hP) (v := .ref T) rfl ?_
  refine lenT (sqT_of hT2) ?_
  walk_at "z"
  rw [if_neg (by decide)]
  refine ⟨0, v, _, W, rfl, hT.same s2, by simp; omega, by simp; omega, by omega, hwd n W, fun z H3 s3 hz => ?_⟩
  rw [turn_rep] at hz
  obtain ⟨A, xs, rfl, hA, hR⟩ := hT
  have xl : xs.length = n := by rw [hR.1]; simp
  have s23 := s2.trans s3
  refine lenT (sqT_of (s23 _ _ hA)) ?_
  rw [xl]
  refine ⟨0, F, iF, iC, z, false, _, n, n, rfl, hg, hz.p, tok W n W12 n12, Nat.le_refl _, fun P2 A2 T2 xs2 nss2 M2 C2 ld2 sign2 R2 X2 H4 s4 hP2 hA2 hM2 hT4 hsg2 hWh2 hsm2 hS2 => ?_⟩
  have eC2 := lead hz W1 n1 hWh2 hS2
  subst eC2
  refine ixT (sqT_of hP2) (v := .ref T2) rfl ?_
  have hT0 : H2 T = some (.tup [.int 0]) := hT2
  have hTt : H4 T = some (.tup [.int 0]) := s4 _ _ (s3 _ _ hT0)
  have hT4' : H4 T2 = some (.tup [.int 0]) := hT4
  have s24 := s23.trans s4
  obtain ⟨x0, hx0⟩ : ∃ x0, xs[0]? = some x0 := ⟨_, List.getElem?_eq_getElem (by omega)⟩
  have r0 : RowN H 0 x0 (List.replicate W (c, 1)) := hR.2 0 _ _ hx0 (by rw [List.getElem?_replicate, if_pos (by omega)])
  have one1 : ∀ {α : Type} {a : α} {as : List α} {k : Nat}, as.length = k → k = 1 → (∀ (i : Nat) (b : α), as[i]? = some b → b = a) → as = [a] := fun {α a as k} h1 h2 h3 => by
    match as, h1 with
    | [x], _ => rw [h3 0 x rfl]
    | [], h1 => simp at h1; omega
    | _ :: _ :: _, h1 => simp at h1; omega
  refine ⟨T2, rfl, ⟨_, sqT_of hT4'⟩, comp_TA (P := fun H v a => RowN H 0 v a) (S := fun _ rs => rs = [(c, 1)]) (stay_row 0) hT4' (by simp) (fun i x H5 hx s5 Qo hQo => ?_) (fun D H5 zs as hD s5 hz hAA hlen hSS => ?_)⟩
  · have ex : x = .int 0 := by
      have := List.mem_of_getElem? hx
      simpa using this
    subst ex
    walk_at "z"
    refine ⟨T, rfl, ⟨_, sqT_of (s5 _ _ hTt)⟩, comp_TA (P := fun H v (q : Int × Int) => NumR H 0 v q.1 q.2) (S := fun _ q => q = (c, 1)) (stay_num 0) (s5 _ _ hTt) (by simp) (fun j y H6 hy s6 Qo2 hQo2 => ?_) (fun D H6 zs as hD s6 hz hAA hlen hSS => ?_)⟩
    · have ey : y = .int 0 := by
        have := List.mem_of_getElem? hy
        simpa using this
      subst ey
      have s46 := (s24.trans s5).trans s6
      walk_at "z"
      refine ixT (sqT_of (s46 _ _ hA)) (atN (i := 0) hx0) ?_
      exact (r0.same s46).ix (j := 0) (q := (c, 1)) (by rw [List.getElem?_replicate, if_pos (by omega)]) fun z n => hQo2 _ _ _ (Same.refl _) n rfl
    · refine ⟨D, _, rfl, .inl ⟨sqL_of hz, fun T5 hT5 => ?_⟩⟩
      have s7 := same_upd (o := .tup zs) hT5
      exact hQo _ _ as (s6.trans s7) ⟨T5, zs, rfl, upd_same, hAA.imp fun v q n => n.same s7⟩ (one1 hlen rfl hSS)
  · refine ⟨D, _, rfl, .inl ⟨sqL_of hz, fun T6 hT6 => ?_⟩⟩
    have s6 := same_upd (o := .tup zs) hT6
    have eas : as = [[(c, 1)]] := one1 hlen rfl hSS
    subst eas
    have TP : TabN (upd H5 T6 (.tup zs)) ((0 : Nat) : Int) (.ref T6) [[(c, 1)]] := ⟨T6, zs, rfl, upd_same, hAA.imp fun v q n => n.same s6⟩
    have s26 := (s24.trans s5).trans s6
    have hT6T := s6 _ _ (s5 _ _ hTt)
    have hT62 := s6 _ _ (s5 _ _ hT4')
    generalize upd H5 T6 (.tup zs) = H6 at *
    refine ⟨0, F, iF, iC, .ref T6, [[(c, 1)]], 1, hg, TP, rfl, rfl, by decide, by decide, fun qs hqs => by rw [List.mem_singleton.mp hqs]; exact ok_rep (g := 0) (W := 1) cs, fun nss3 M3 C3 ld3 R3 X3 hA3 hS3 => ?_⟩
    have hW1 : ∀ qs ∈ [[(c, (1 : Int))]], qs.length = 1 := by simp
    obtain ⟨w, w0, hw⟩ := r12_side_rows (F := F) (n := 1) TP rfl hW1 hA3
    have nl : nss3.length = 1 := by rw [← hA3.1]; rfl
    have a00 : atF F [[(c, 1)]] 0 0 = Lin.val F c 1 := rowF_at (F := F) (qs := [(c, 1)]) (j := 0) (q := (c, 1)) rfl
    refine ⟨fun hlt => ?_, fun hlt z7 rss H7 s7 hz7 hR7 => ?_⟩
    · exfalso
      have := hS3.side_low nl hlt (fun i _ => w0 i) fun i ns h => (hw i ns h).1
      exact cF (by rw [← a00]; exact this)
    · have Ml : M3.length = 1 := by rw [cst_len hS3, nl]
      obtain ⟨m, hm⟩ : ∃ m, M3 = [m] := List.length_eq_one_iff.mp Ml
      subst hm
      have mw : m.length = 2 := hS3.wid m (by simp)
      obtain ⟨rs, hrs⟩ : ∃ rs, rss = [rs] := List.length_eq_one_iff.mp (by rw [← hR7.1]; rfl)
      subst hrs
      have hO := hR7.2 0 m rs rfl rfl
      obtain ⟨q, hq1⟩ : ∃ q, rs = [q] := List.length_eq_one_iff.mp (by rw [← hO.1, List.length_drop, mw])
      subst hq1
      obtain ⟨sd, _⟩ := hS3.sides nl hlt (a := atF F [[(c, 1)]]) (fun i _ => w0 i) hw (b := fun i j => Lin.ph F (Lin.gI [m] i (1 + j)) * (Lin.ph F ld3)⁻¹) (fun i j _ _ => rfl)
      have e0 := sd 0 0 (by decide) (by decide)
      rw [if_pos rfl] at e0
      have hval : Lin.val F q.1 q.2 = Lin.ph F (Lin.gI [m] 0 (1 + 0)) * (Lin.ph F ld3)⁻¹ := by
        have hd : (m.drop 1)[0]? = some (m.getD 1 0) := by
          rw [List.getElem?_drop, List.getD_eq_getElem?_getD, List.getElem?_eq_getElem (show 1 + 0 < m.length by omega)]; rfl
        exact hO.2 0 _ q hd rfl
      have e1 : Lin.val F c 1 * Lin.val F q.1 q.2 = 1 := by
        rw [hval, ← a00]
        have : Lin.sm (List.range 1) (fun k => atF F [[(c, 1)]] 0 k * (Lin.ph F (Lin.gI [m] k (1 + 0)) * (Lin.ph F ld3)⁻¹)) = atF F [[(c, 1)]] 0 0 * (Lin.ph F (Lin.gI [m] 0 (1 + 0)) * (Lin.ph F ld3)⁻¹) + 0 := rfl
        rw [this] at e0
        grind
      obtain ⟨_, ys, _, _, hy⟩ := id hz7
      have hy0 := hy.2 0 _ [q] (List.getElem?_eq_getElem (show 0 < ys.length by rw [hy.1]; simp)) rfl
      obtain ⟨_, us, _, _, hu⟩ := hy0
      have nq := hu.2 0 _ q (List.getElem?_eq_getElem (show 0 < us.length by rw [hu.1]; simp)) rfl
      have eq : q = (1, c) := by
        rcases nq with ⟨_, _, b1, hc⟩ | ⟨z, _⟩
        · have q20 : Lin.ph F q.2 ≠ 0 := fun e => by rw [Lin.ph_eq_zero 0] at e; simp at e; omega
          have e2 : c * q.1 = q.2 := by
            rw [← Lin.ph_inj (F := F), Lin.ph_mul]
            rw [Lin.val_one] at e1
            unfold Lin.val at e1
            grind
          have d1 : q.1.natAbs ∣ q.2.natAbs := by
            rw [← e2, Int.natAbs_mul]; exact Nat.dvd_mul_left _ _
          have d2 : q.1.natAbs = 1 := by
            have := Nat.gcd_eq_left d1
            rw [hc] at this
            exact this.symm
          have p1 : q.1 = 1 := by
            have : q.1 = 1 ∨ q.1 = -1 := by omega
            rcases this with h | h
            · exact h
            · rw [h] at e2; omega
          rw [p1, Int.mul_one] at e2
          exact Prod.ext p1 e2.symm
        · exact absurd rfl z
      subst eq
      have okq : RowOK ((0 : Nat) : Int) [((1 : Int), c)] 1 := ⟨rfl, fun q hq => by
        rw [List.mem_singleton.mp hq]
        exact Nat.lt_of_lt_of_le (show (1 : Int).natAbs < 2 ^ 1 by decide) (Nat.pow_le_pow_right (by decide) (by decide)), by
        show (c * 1).natAbs < 2 ^ 450
        rw [Int.mul_one]
        exact Nat.lt_of_lt_of_le cs (Nat.pow_le_pow_right (by decide) (by decide))⟩
      have s27 := s26.trans s7
      dsimp only
      refine ⟨A, rfl, ⟨_, sqT_of (s27 _ _ hA)⟩, comp_BD (b := false) (P := fun D H v qs => SeqP H 0 true v qs ∧ v ≠ .ref D) (S := fun _ qs => qs = [(c, 1)]) (fun h s => ⟨h.1.same s, h.2⟩) (fun h hD => ⟨seqP_upd h.1 h.2 hD, h.2⟩) (s27 _ _ hA) (by omega) (fun D i x H8 _ hD hx s8 Qo hQo => ?_) (fun D H8 zs8 as8 hD s8 hz8 hA8 hl8 hS8 => ?_)⟩
      · obtain ⟨zD, hzD⟩ := hD
        obtain ⟨qs, hqs, rx⟩ := hR.get hx
        have eqs : qs = List.replicate W (c, 1) := (List.mem_replicate.mp (List.mem_of_getElem? hqs)).2
        subst eqs
        have s28 := s27.trans s8
        have hT8 := s8 _ _ (s7 _ _ hT6T)
        walk_at "z"
        refine ⟨T, rfl, ⟨_, sqT_of hT8⟩, comp_TA (P := fun H v (q : Int × Int) => NumR H 0 v q.1 q.2) (S := fun _ q => q = (c, 1)) (stay_num 0) hT8 (by simp) (fun j y H9 hy s9 Qo2 hQo2 => ?_) (fun D9 H9 zs as hD9 s9 hz hAA hlen hSS => ?_)⟩
        · have ey : y = .int 0 := by
            have := List.mem_of_getElem? hy
            simpa using this
          subst ey
          walk_at "z"
          exact ((rx.same s28).same s9).ix (j := 0) (q := (c, 1)) (by rw [List.getElem?_replicate, if_pos (by omega)]) fun z n => hQo2 _ _ _ (Same.refl _) n rfl
        · exact hQo _ (.ref D9) as s9 ⟨⟨D9, zs, rfl, hz, hAA⟩, fun e => by cases e; rw [hD9] at hzD; cases hzD⟩ (one1 hlen rfl hSS)
      · have ea8 : as8 = List.replicate n [(c, 1)] := List.eq_replicate_iff.mpr ⟨by rw [hl8, xl], fun b hb => by
          obtain ⟨k, hk⟩ := List.mem_iff_getElem?.mp hb
          exact hS8 k b hk⟩
        subst ea8
        refine ⟨0, F, iF, iC, .ref D, z7, _, [[(1, c)]], 1, rfl, hg, ⟨D, zs8, rfl, hz8, hA8.imp fun v q h => h.1⟩, hz7.same s8, by simp, by simp, by simp; omega, by decide, fun qs hqs => by rw [(List.mem_replicate.mp hqs).2]; exact ok_rep (g := 0) (W := 1) cs, by simp, fun rs hrs => ?_, fun z9 tss H9 s9 hz9 _ _ _ => ?_⟩
        · have e : rs = [(1, c)] := by
            have h1 : turnQ [[((1 : Int), c)]] 1 = [[(1, c)]] := rfl
            rw [h1] at hrs
            exact List.mem_singleton.mp hrs
          rw [e]
          exact okq
        · refine ⟨by decide, fun p hp => ?_⟩
          have sp := same_upd (o := .tup [.ref T2, .ref T, z7, z9]) hp
          exact hq p T2 _ _ _ [.int 0] _ (((s27.trans s8).trans s9).trans sp) upd_same (sp _ _ (s9 _ _ (s8 _ _ (s7 _ _ hT62))))
theorem ok_rank_paper {P : Program} {w : World} {K : PySem.W.Frag} {mg : Str → Option Value} {base : Heap} (T : Tx K mg) : Okk P w K mg base 7 "rank_paper" ["ground", "table"] (sp_rank_paper K) := by
  obtain ⟨fd_turned, F_turned, b_turned, g_turned, k_turned⟩ := ok_turned (P := P) (w := w) (base := base) T
  obtain ⟨fd_product_rows, F_product_rows, b_product_rows, g_product_rows, k_product_rows⟩ := ok_product_rows (P := P) (w := w) (base := base) T
  obtain ⟨fd_cleared_table, F_cleared_table, b_cleared_table, g_cleared_table, k_cleared_table⟩ := ok_cleared_table (P := P) (w := w) (base := base) T
  obtain ⟨fd_undone_rows, F_undone_rows, b_undone_rows, g_undone_rows, k_undone_rows⟩ := ok_undone_rows (P := P) (w := w) (base := base) T
  have hf_len := T.n_len
  have hf_tuple := T.n_tuple
  obtain ⟨fd, F⟩ := T.f_rank_paper
  refine ⟨fd, F.ok sc_rank_paper (fun vs H Q E h => len_rank_paper h) (fun cdv A outer s H vs Q E hr h => ⟨t_rank_paper K, PSs.nox ?_, pure_rank_paper K vs H Q E h⟩), F.bindsN (fun _ _ _ _ _ _ us hl => match us, hl with | [_, _], _ => rfl), T.g_rank_paper, F.kp⟩
  exact (pss_cons (ps_set (i := 2) sc_rank_paper.nd rfl (by first | exact Or.inl rfl | exact Or.inr rfl) (pe_ix ix_lt (pe_call F_cleared_table (hr.mono (by decide)) rfl g_cleared_table k_cleared_table b_cleared_table .nil pass0 (pa_cons (pv 0) (pa_cons (pv 1) (pa_cons (pe_callB call_len_seq (by rfl) hf_len (by decide +kernel) (pa_cons (pe_ix ix_lt (pv 1) pe_int (fun _ _ => rfl)) pa_nil)) pa_nil)))) pe_int (fun _ _ => rfl)))
      (pss_cons (ps_if (pt_cmpR op_eq (pe_callB call_len_seq (by rfl) hf_len (by decide +kernel) (pa_cons (pv 2) pa_nil)) pe_int (nomark _)) (pss_one (ps_ret (pe_tup (pa_cons (pe_tup pa_nil) (pa_cons (pe_tup pa_nil) (pa_cons (pe_tup pa_nil) (pa_cons (pe_callTy call_tuple_of (by rfl) hf_tuple (by decide +kernel) (pa_cons (pe_lc (own := [("_", 3)]) (g := (gName 3)) (tt := tYes) rfl sc_rank_paper.nd (pi_tup (pv 1)) (blkOk_by (own := [("_", 3)]) (N := ["ground", "table", "columns", "_", "rows", "part", "j", "i", "back", "sums", "row"]) (sc := defScope s_rank_paper) (by decide +kernel)) (fun _ _ _ _ _ => (pg_name (i := 3) sc_rank_paper.nd rfl (by first | exact Or.inl rfl | exact Or.inr rfl))) (fun _ _ _ _ _ => pts_nil) (fun _ _ _ _ _ => (pe_tup pa_nil))) pa_nil)) pa_nil))))))) pss_nil)
      (pss_cons (ps_set (i := 4) sc_rank_paper.nd rfl (by first | exact Or.inl rfl | exact Or.inr rfl) (pe_ix ix_lt (pe_call F_cleared_table (hr.mono (by decide)) rfl g_cleared_table k_cleared_table b_cleared_table .nil pass0 (pa_cons (pv 0) (pa_cons (pe_call F_turned (hr.mono (by decide)) rfl g_turned k_turned b_turned .nil pass0 (pa_cons (pv 1) pa_nil)) (pa_cons (pe_callB call_len_seq (by rfl) hf_len (by decide +kernel) (pa_cons (pv 1) pa_nil)) pa_nil)))) pe_int (fun _ _ => rfl)))
      (pss_cons (ps_set (i := 5) sc_rank_paper.nd rfl (by first | exact Or.inl rfl | exact Or.inr rfl) (pe_callTy call_tuple_of (by rfl) hf_tuple (by decide +kernel) (pa_cons (pe_lc (own := [("i", 7)]) (g := (gName 7)) (tt := tYes) rfl sc_rank_paper.nd (pi_tup (pv 4)) (blkOk_by (own := [("i", 7)]) (N := ["ground", "table", "columns", "_", "rows", "part", "j", "i", "back", "sums", "row"]) (sc := defScope s_rank_paper) (by decide +kernel)) (fun _ _ _ _ _ => (pg_name (i := 7) sc_rank_paper.nd rfl (by first | exact Or.inl rfl | exact Or.inr rfl))) (fun _ _ _ _ _ => pts_nil) (fun _ _ _ _ _ => (pe_callTy call_tuple_of (by rfl) hf_tuple (by decide +kernel) (pa_cons (pe_lc (own := [("j", 6)]) (g := (gName 6)) (tt := tYes) rfl sc_rank_paper.nd (pi_tup (pv 2)) (blkOk_by (own := [("j", 6)]) (by kernel_rfl)) (fun _ _ _ _ _ => (pg_name (i := 6) sc_rank_paper.nd rfl (by first | exact Or.inl rfl | exact Or.inr rfl))) (fun _ _ _ _ _ => pts_nil) (fun _ _ _ _ _ => (pe_ix ix_lt (pe_ix ix_lt (pv 1) (pv 7) (fun _ _ => rfl)) (pv 6) (fun _ _ => rfl)))) pa_nil)))) pa_nil)))
      (pss_cons (ps_set (i := 8) sc_rank_paper.nd rfl (by first | exact Or.inl rfl | exact Or.inr rfl) (pe_call F_undone_rows (hr.mono (by decide)) rfl g_undone_rows k_undone_rows b_undone_rows .nil pass0 (pa_cons (pv 0) (pa_cons (pv 5) pa_nil))))
      (pss_cons (ps_set (i := 9) sc_rank_paper.nd rfl (by first | exact Or.inl rfl | exact Or.inr rfl) (pe_call F_product_rows (hr.mono (by decide)) rfl g_product_rows k_product_rows b_product_rows .nil pass0 (pa_cons (pv 0) (pa_cons (pe_lc (own := [("row", 10)]) (g := (gName 10)) (tt := tYes) rfl sc_rank_paper.nd (pi_tup (pv 1)) (blkOk_by (own := [("row", 10)]) (N := ["ground", "table", "columns", "_", "rows", "part", "j", "i", "back", "sums", "row"]) (sc := defScope s_rank_paper) (by decide +kernel)) (fun _ _ _ _ _ => (pg_name (i := 10) sc_rank_paper.nd rfl (by first | exact Or.inl rfl | exact Or.inr rfl))) (fun _ _ _ _ _ => pts_nil) (fun _ _ _ _ _ => (pe_lc (own := [("j", 6)]) (g := (gName 6)) (tt := tYes) rfl sc_rank_paper.nd (pi_tup (pv 2)) (blkOk_by (own := [("j", 6)]) (by kernel_rfl)) (fun _ _ _ _ _ => (pg_name (i := 6) sc_rank_paper.nd rfl (by first | exact Or.inl rfl | exact Or.inr rfl))) (fun _ _ _ _ _ => pts_nil) (fun _ _ _ _ _ => (pe_ix ix_lt (pv 10) (pv 6) (fun _ _ => rfl)))))) (pa_cons (pv 8) pa_nil)))))
      (pss_one (ps_ret (pe_tup (pa_cons (pv 4) (pa_cons (pv 2) (pa_cons (pv 8) (pa_cons (pv 9) pa_nil)))))))))))))
/-! ### check_table -/
theorem sc_check_table : FnScope ["ground", "table"] ["ground", "table"] (defScope s_check_table) := ⟨rfl, rfl, rfl, by decide +kernel, rfl, by decide +kernel, by decide +kernel⟩
def sp_check_table (K : PySem.W.Frag) : Sp := fun vs H Q E => ∃ (v w : V) (d e : PyData) (no : List Addr), vs = [v, w] ∧ Pl H no d v ∧ Pl H no e w ∧ (¬ GroundV v → RaiseF K E H "InvalidGround" "value" v) ∧ (∀ g, v = .int g → GroundV v → (tabB g 12 12 (10 ^ 20) e = false → Raise0 K E H "InvalidTable") ∧ (tabB g 12 12 (10 ^ 20) e = true → ∀ H', Same H H' → Q .non H'))
theorem len_check_table {K : PySem.W.Frag} {vs : List V} {H : Hp} {Q : VK} {E : XK} (h : sp_check_table K vs H Q E) : vs.length = ["ground", "table"].length := by
  obtain ⟨_, _, _, _, _, rfl, _⟩ := h
  rfl
def t_check_table (K : PySem.W.Frag) (E : XK) : TS := (tIfS (tNot (tB (tCall (sp_is_table K) [] E (tCons (tVar 0) (tCons (tVar 1) tNil))))) (tRaise0 (He.ga K "InvalidTable") (fun cls d _ H => E cls d H)) tNext)
theorem bad2_check {K : PySem.W.Frag} {E : XK} {H : Hp} {v w : V} {Q : VK} (h : Bad2 K E H v w) : sp_check_table K [v, w] H Q E := by
  obtain ⟨d, e, no, p, q, h⟩ := h
  refine ⟨v, w, d, e, no, rfl, p, q, fun a => ?_, fun g hv hg => ?_⟩
  · rcases h with ⟨_, b⟩ | ⟨g, _, b, _⟩
    · exact b
    · exact absurd b a
  · rcases h with ⟨a, _⟩ | ⟨g', e', _, c, r⟩
    · exact absurd hg a
    · rw [hv] at e'
      cases e'
      exact ⟨fun _ => r, fun z => (by rw [c] at z; cases z)⟩
theorem good2_check {K : PySem.W.Frag} {E : XK} {H : Hp} {v w : V} {ds : List PyData} {Q : VK} (h : Good2 H v w ds) (q : ∀ H', Same H H' → Q .non H') : sp_check_table K [v, w] H Q E := by
  obtain ⟨g, no, rfl, hg, p, t⟩ := h
  refine ⟨_, w, .int g, _, no, rfl, by rw [Pl], p, fun a => absurd hg a, fun g' hv _ => ?_⟩
  obtain rfl : g = g' := by injection hv
  exact ⟨fun z => (by rw [t] at z; cases z), fun _ => q⟩
theorem good2_rows {H : Hp} {v w : V} {ds : List PyData} (h : Good2 H v w ds) : ∃ a xs b ys, w = .ref a ∧ H a = some (.tup xs) ∧ xs.length = ds.length ∧ xs[0]? = some (.ref b) ∧ H b = some (.tup ys) ∧ ys.length = dlen (ds.getD 0 .none) := by
  obtain ⟨g, no, rfl, hg, p, t⟩ := h
  rw [tabB_t, Bool.and_eq_true] at t
  obtain ⟨ds', e, l1, l2, l3⟩ := rowsB_tup t.1
  cases e
  obtain ⟨a, xs, rfl, hT, hA⟩ := pl_tup p
  have h0 := List.getElem?_eq_getElem (show 0 < xs.length by rw [hA.1]; exact l1)
  obtain ⟨e0, he, pe⟩ := hA.get h0
  obtain ⟨es, rfl, _⟩ := l3 e0 (List.mem_of_getElem? he)
  obtain ⟨b, ys, e2, hb, hB⟩ := pl_tup pe
  exact ⟨a, xs, b, ys, rfl, hT, hA.1, by rw [h0, e2], hb, by rw [List.getD_eq_getElem?_getD, he]; exact hB.1⟩
theorem pure_check_table (K : PySem.W.Frag) (vs : List V) (H : Hp) (Q : VK) (E : XK) (h : sp_check_table K vs H Q E) : t_check_table K E { nx := fun _ H' => Q .non H', rt := Q } (start ["ground", "table"] vs) H := by
  obtain ⟨v, w, d, e, no, rfl, p, q, h1, h2⟩ := h
  unfold t_check_table
  walk_at "z"
  refine ⟨v, w, d, e, no, rfl, p, q, h1, fun g hv hg H' s => ?_⟩
  obtain ⟨h3, h4⟩ := h2 g hv hg
  refine ⟨_, rfl, ?_⟩
  cases ht : tabB g 12 12 (10 ^ 20) e with
  | false =>
    rw [if_pos (by decide)]
    exact h3 ht H' s
  | true =>
    rw [if_neg (by decide)]
    exact h4 ht H' s
theorem ok_check_table {P : Program} {w : World} {K : PySem.W.Frag} {mg : Str → Option Value} {base : Heap} (T : Tx K mg) : OkkX P w K mg base 7 "check_table" ["ground", "table"] (sp_check_table K) := by
  obtain ⟨fd_is_table, F_is_table, b_is_table, g_is_table, k_is_table⟩ := ok_is_table (P := P) (w := w) (base := base) T
  obtain ⟨fd, F⟩ := T.f_check_table
  refine ⟨fd, F.ok sc_check_table (fun vs H Q E h => len_check_table h) (fun cdv A outer s H vs Q E hr h => ⟨t_check_table K E, ?_, pure_check_table K vs H Q E h⟩), F.bindsN (fun _ _ _ _ _ _ us hl => match us, hl with | [_, _], _ => rfl), T.g_check_table, F.kp⟩
  exact (pss_one (ps_if (pt_not (pt_val (pe_call F_is_table (hr.mono (by decide)) rfl g_is_table k_is_table b_is_table .nil (passes_call (takes_of rfl rfl rfl rfl) (fun _ _ _ _ h => h)) (pa_cons (pv 0) (pa_cons (pv 1) pa_nil))))) (pss_one (ps_raise0 rfl (takes_of rfl rfl rfl rfl) T.e_InvalidTable.1 T.e_InvalidTable.2 rfl (by decide))) pss_nil))
/-! ### table_product -/
theorem sc_table_product : FnScope ["ground", "one", "other"] ["ground", "one", "other"] (defScope s_table_product) := ⟨rfl, rfl, rfl, by decide +kernel, rfl, by decide +kernel, by decide +kernel⟩
def sp_table_product (K : PySem.W.Frag) : Sp := fun vs H Q E => ∃ (v w u : V), vs = [v, w, u] ∧ (Bad2 K E H v w ∨ ∃ ds, Good2 H v w ds ∧ (Bad2 K E H v u ∨ ∃ es, Good2 H v u es ∧ dlen (ds.getD 0 .none) ≠ es.length ∧ Raise0 K E H "InvalidOperation"))
theorem len_table_product {K : PySem.W.Frag} {vs : List V} {H : Hp} {Q : VK} {E : XK} (h : sp_table_product K vs H Q E) : vs.length = ["ground", "one", "other"].length := by
  obtain ⟨_, _, _, rfl, _⟩ := h
  rfl
def t_table_product (K : PySem.W.Frag) (E : XK) : TS := (tSeq (tDrop (tCall (sp_check_table K) [] E (tCons (tVar 0) (tCons (tVar 1) tNil))))
  (tSeq (tDrop (tCall (sp_check_table K) [] E (tCons (tVar 0) (tCons (tVar 2) tNil))))
  (tSeq (tIfS (tTest (tOp rNe (tCB (rLenU K) (tCons (tOp (rIxA K) (tVar 1) (tC (.int 0))) tNil)) (tCB (rLenU K) (tCons (tVar 2) tNil)))) (tRaise0 (He.ga K "InvalidOperation") (fun cls d _ H => E cls d H)) tNext)
  (tRet (tCall (sp_product_rows K) [] E0 (tCons (tVar 0) (tCons (tVar 1) (tCons (tVar 2) tNil))))))))
theorem pure_table_product (K : PySem.W.Frag) (vs : List V) (H : Hp) (Q : VK) (E : XK) (h : sp_table_product K vs H Q E) : t_table_product K E { nx := fun _ H' => Q .non H', rt := Q } (start ["ground", "one", "other"] vs) H := by
  obtain ⟨v, w, u, rfl, h⟩ := h
  unfold t_table_product
  walk_at "z"
  rcases h with h | ⟨ds, h, h2⟩
  · exact bad2_check h
  · refine good2_check h fun H1 s1 => ?_
    walk_at "z"
    rcases h2 with h2 | ⟨es, h2, n, r⟩
    · exact bad2_check (h2.same s1)
    · refine good2_check (h2.same s1) fun H2 s2 => ?_
      walk_at "z"
      obtain ⟨a, xs, b, ys, rfl, ha, l1, h0, hb, l2⟩ := good2_rows (h.same (s1.trans s2))
      obtain ⟨a', xs', b', ys', rfl, ha', l1', _⟩ := good2_rows (h2.same (s1.trans s2))
      refine ixT (sqT_of ha) (atN (i := 0) h0) ?_
      refine lenT (sqT_of hb) ?_
      refine lenT (sqT_of ha') ?_
      walk_at "z"
      rw [l2, l1', if_pos (by omega)]
      exact r H2 (s1.trans s2)
theorem ok_table_product {P : Program} {w : World} {K : PySem.W.Frag} {mg : Str → Option Value} {base : Heap} (T : Tx K mg) : OkkX P w K mg base 8 "table_product" ["ground", "one", "other"] (sp_table_product K) := by
  obtain ⟨fd_product_rows, F_product_rows, b_product_rows, g_product_rows, k_product_rows⟩ := ok_product_rows (P := P) (w := w) (base := base) T
  obtain ⟨fd_check_table, F_check_table, b_check_table, g_check_table, k_check_table⟩ := ok_check_table (P := P) (w := w) (base := base) T
  have hf_len := T.n_len
  obtain ⟨fd, F⟩ := T.f_table_product
  refine ⟨fd, F.ok sc_table_product (fun vs H Q E h => len_table_product h) (fun cdv A outer s H vs Q E hr h => ⟨t_table_product K E, ?_, pure_table_product K vs H Q E h⟩), F.bindsN (fun _ _ _ _ _ _ us hl => match us, hl with | [_, _, _], _ => rfl), T.g_table_product, F.kp⟩
  exact (pss_cons (ps_expr (pe_call F_check_table (hr.mono (by decide)) rfl g_check_table k_check_table b_check_table .nil (passes_call (takes_of rfl rfl rfl rfl) (fun _ _ _ _ h => h)) (pa_cons (pv 0) (pa_cons (pv 1) pa_nil))))
      (pss_cons (ps_expr (pe_call F_check_table (hr.mono (by decide)) rfl g_check_table k_check_table b_check_table .nil (passes_call (takes_of rfl rfl rfl rfl) (fun _ _ _ _ h => h)) (pa_cons (pv 0) (pa_cons (pv 2) pa_nil))))
      (pss_cons (ps_if (pt_cmpR op_ne (pe_callB call_len_seq (by rfl) hf_len (by decide +kernel) (pa_cons (pe_ix ix_lt (pv 1) pe_int (fun _ _ => rfl)) pa_nil)) (pe_callB call_len_seq (by rfl) hf_len (by decide +kernel) (pa_cons (pv 2) pa_nil)) (nomark _)) (pss_one (ps_raise0 rfl (takes_of rfl rfl rfl rfl) T.e_InvalidOperation.1 T.e_InvalidOperation.2 rfl (by decide))) pss_nil)
      (pss_one (ps_ret (pe_call F_product_rows (hr.mono (by decide)) rfl g_product_rows k_product_rows b_product_rows .nil pass0 (pa_cons (pv 0) (pa_cons (pv 1) (pa_cons (pv 2) pa_nil)))))))))
/-! ### reduced_rows -/
theorem sc_reduced_rows : FnScope ["ground", "table", "rows", "found", "lead", "_", "row"] ["ground", "table"] (defScope s_reduced_rows) := ⟨rfl, rfl, rfl, by decide +kernel, rfl, by decide +kernel, by decide +kernel⟩
def sp_reduced_rows (K : PySem.W.Frag) : Sp := fun vs H Q E => ∃ (v w : V), vs = [v, w] ∧ Bad2 K E H v w
theorem len_reduced_rows {K : PySem.W.Frag} {vs : List V} {H : Hp} {Q : VK} {E : XK} (h : sp_reduced_rows K vs H Q E) : vs.length = ["ground", "table"].length := by
  obtain ⟨_, _, rfl, _⟩ := h
  rfl
def t_reduced_rows (K : PySem.W.Frag) (E : XK) : TS := (tSeq (tDrop (tCall (sp_check_table K) [] E (tCons (tVar 0) (tCons (tVar 1) tNil))))
  (tSeq (tAsg (tCall (sp_cleared_table K) [] E0 (tCons (tVar 0) (tCons (tVar 1) (tCons (tCB (rLenU K) (tCons (tOp (rIxA K) (tVar 1) (tC (.int 0))) tNil)) tNil)))) (gTup K 4 (gCons (gName 2) (gCons (gName 3) (gCons (gName 4) (gCons (gName 5) gNil))))))
  (tRet (tCB (rTupOf K) (tCons (tLc (iList K (tSl (rSlL K) (tVar 2) tNoPart (tPart (tCB (rLenU K) (tCons (tVar 3) tNil))))) (gName 6) tYes (tCall (sp_numbers_over K) [] E0 (tCons (tVar 0) (tCons (tVar 6) (tCons (tVar 4) tNil)))) [6]) tNil)))))
theorem pure_reduced_rows (K : PySem.W.Frag) (vs : List V) (H : Hp) (Q : VK) (E : XK) (h : sp_reduced_rows K vs H Q E) : t_reduced_rows K E { nx := fun _ H' => Q .non H', rt := Q } (start ["ground", "table", "rows", "found", "lead", "_", "row"] vs) H := by
  obtain ⟨v, w, rfl, h⟩ := h
  unfold t_reduced_rows
  walk_at "z"
  exact bad2_check h
theorem ok_reduced_rows {P : Program} {w : World} {K : PySem.W.Frag} {mg : Str → Option Value} {base : Heap} (T : Tx K mg) : OkkX P w K mg base 8 "reduced_rows" ["ground", "table"] (sp_reduced_rows K) := by
  obtain ⟨fd_cleared_table, F_cleared_table, b_cleared_table, g_cleared_table, k_cleared_table⟩ := ok_cleared_table (P := P) (w := w) (base := base) T
  obtain ⟨fd_numbers_over, F_numbers_over, b_numbers_over, g_numbers_over, k_numbers_over⟩ := ok_numbers_over (P := P) (w := w) (base := base) T
  obtain ⟨fd_check_table, F_check_table, b_check_table, g_check_table, k_check_table⟩ := ok_check_table (P := P) (w := w) (base := base) T
  have hf_len := T.n_len
  have hf_tuple := T.n_tuple
  obtain ⟨fd, F⟩ := T.f_reduced_rows
  refine ⟨fd, F.ok sc_reduced_rows (fun vs H Q E h => len_reduced_rows h) (fun cdv A outer s H vs Q E hr h => ⟨t_reduced_rows K E, ?_, pure_reduced_rows K vs H Q E h⟩), F.bindsN (fun _ _ _ _ _ _ us hl => match us, hl with | [_, _], _ => rfl), T.g_reduced_rows, F.kp⟩
  exact (pss_cons (ps_expr (pe_call F_check_table (hr.mono (by decide)) rfl g_check_table k_check_table b_check_table .nil (passes_call (takes_of rfl rfl rfl rfl) (fun _ _ _ _ h => h)) (pa_cons (pv 0) (pa_cons (pv 1) pa_nil))))
      (pss_cons (ps_asg (pe_call F_cleared_table (hr.mono (by decide)) rfl g_cleared_table k_cleared_table b_cleared_table .nil pass0 (pa_cons (pv 0) (pa_cons (pv 1) (pa_cons (pe_callB call_len_seq (by rfl) hf_len (by decide +kernel) (pa_cons (pe_ix ix_lt (pv 1) pe_int (fun _ _ => rfl)) pa_nil)) pa_nil)))) (pg_tup rfl (pgs_cons (pg_name (i := 2) sc_reduced_rows.nd rfl (by first | exact Or.inl rfl | exact Or.inr rfl)) (pgs_cons (pg_name (i := 3) sc_reduced_rows.nd rfl (by first | exact Or.inl rfl | exact Or.inr rfl)) (pgs_cons (pg_name (i := 4) sc_reduced_rows.nd rfl (by first | exact Or.inl rfl | exact Or.inr rfl)) (pgs_cons (pg_name (i := 5) sc_reduced_rows.nd rfl (by first | exact Or.inl rfl | exact Or.inr rfl)) pgs_nil))))))
      (pss_one (ps_ret (pe_callTy call_tuple_of (by rfl) hf_tuple (by decide +kernel) (pa_cons (pe_lc (own := [("row", 6)]) (g := (gName 6)) (tt := tYes) rfl sc_reduced_rows.nd (pi_list (pe_slice sl_list (pv 2) po_none (po_some (pe_callB call_len_seq (by rfl) hf_len (by decide +kernel) (pa_cons (pv 3) pa_nil))))) (blkOk_by (own := [("row", 6)]) (N := ["ground", "table", "rows", "found", "lead", "_", "row"]) (sc := defScope s_reduced_rows) (by decide +kernel)) (fun _ _ _ _ _ => (pg_name (i := 6) sc_reduced_rows.nd rfl (by first | exact Or.inl rfl | exact Or.inr rfl))) (fun _ _ _ _ _ => pts_nil) (fun _ _ _ _ _ => (pe_call F_numbers_over (hr.mono (by decide)) rfl g_numbers_over k_numbers_over b_numbers_over .nil pass0 (pa_cons (pv 0) (pa_cons (pv 6) (pa_cons (pv 4) pa_nil)))))) pa_nil))))))
/-! ### leads -/
theorem sc_leads : FnScope ["ground", "table"] ["ground", "table"] (defScope s_leads) := ⟨rfl, rfl, rfl, by decide +kernel, rfl, by decide +kernel, by decide +kernel⟩
def sp_leads (K : PySem.W.Frag) : Sp := fun vs H Q E => ∃ (v w : V), vs = [v, w] ∧ Bad2 K E H v w
theorem len_leads {K : PySem.W.Frag} {vs : List V} {H : Hp} {Q : VK} {E : XK} (h : sp_leads K vs H Q E) : vs.length = ["ground", "table"].length := by
  obtain ⟨_, _, rfl, _⟩ := h
  rfl
def t_leads (K : PySem.W.Frag) (E : XK) : TS := (tSeq (tDrop (tCall (sp_check_table K) [] E (tCons (tVar 0) (tCons (tVar 1) tNil))))
  (tRet (tOp (rIxA K) (tCall (sp_cleared_table K) [] E0 (tCons (tVar 0) (tCons (tVar 1) (tCons (tCB (rLenU K) (tCons (tOp (rIxA K) (tVar 1) (tC (.int 0))) tNil)) tNil)))) (tC (.int 1)))))
theorem pure_leads (K : PySem.W.Frag) (vs : List V) (H : Hp) (Q : VK) (E : XK) (h : sp_leads K vs H Q E) : t_leads K E { nx := fun _ H' => Q .non H', rt := Q } (start ["ground", "table"] vs) H := by
  obtain ⟨v, w, rfl, h⟩ := h
  unfold t_leads
  walk_at "z"
  exact bad2_check h
theorem ok_leads {P : Program} {w : World} {K : PySem.W.Frag} {mg : Str → Option Value} {base : Heap} (T : Tx K mg) : OkkX P w K mg base 8 "leads" ["ground", "table"] (sp_leads K) := by
  obtain ⟨fd_cleared_table, F_cleared_table, b_cleared_table, g_cleared_table, k_cleared_table⟩ := ok_cleared_table (P := P) (w := w) (base := base) T
  obtain ⟨fd_check_table, F_check_table, b_check_table, g_check_table, k_check_table⟩ := ok_check_table (P := P) (w := w) (base := base) T
  have hf_len := T.n_len
  obtain ⟨fd, F⟩ := T.f_leads
  refine ⟨fd, F.ok sc_leads (fun vs H Q E h => len_leads h) (fun cdv A outer s H vs Q E hr h => ⟨t_leads K E, ?_, pure_leads K vs H Q E h⟩), F.bindsN (fun _ _ _ _ _ _ us hl => match us, hl with | [_, _], _ => rfl), T.g_leads, F.kp⟩
  exact (pss_cons (ps_expr (pe_call F_check_table (hr.mono (by decide)) rfl g_check_table k_check_table b_check_table .nil (passes_call (takes_of rfl rfl rfl rfl) (fun _ _ _ _ h => h)) (pa_cons (pv 0) (pa_cons (pv 1) pa_nil))))
      (pss_one (ps_ret (pe_ix ix_lt (pe_call F_cleared_table (hr.mono (by decide)) rfl g_cleared_table k_cleared_table b_cleared_table .nil pass0 (pa_cons (pv 0) (pa_cons (pv 1) (pa_cons (pe_callB call_len_seq (by rfl) hf_len (by decide +kernel) (pa_cons (pe_ix ix_lt (pv 1) pe_int (fun _ _ => rfl)) pa_nil)) pa_nil)))) pe_int (fun _ _ => rfl)))))
/-! ### kernel -/
theorem sc_kernel : FnScope ["ground", "table"] ["ground", "table"] (defScope s_kernel) := ⟨rfl, rfl, rfl, by decide +kernel, rfl, by decide +kernel, by decide +kernel⟩
def sp_kernel (K : PySem.W.Frag) : Sp := fun vs H Q E => ∃ (v w : V), vs = [v, w] ∧ Bad2 K E H v w
theorem len_kernel {K : PySem.W.Frag} {vs : List V} {H : Hp} {Q : VK} {E : XK} (h : sp_kernel K vs H Q E) : vs.length = ["ground", "table"].length := by
  obtain ⟨_, _, rfl, _⟩ := h
  rfl
def t_kernel (K : PySem.W.Frag) (E : XK) : TS := (tSeq (tDrop (tCall (sp_check_table K) [] E (tCons (tVar 0) (tCons (tVar 1) tNil))))
  (tRet (tCall (sp_kernel_rows K) [] E0 (tCons (tVar 0) (tCons (tVar 1) tNil)))))
theorem pure_kernel (K : PySem.W.Frag) (vs : List V) (H : Hp) (Q : VK) (E : XK) (h : sp_kernel K vs H Q E) : t_kernel K E { nx := fun _ H' => Q .non H', rt := Q } (start ["ground", "table"] vs) H := by
  obtain ⟨v, w, rfl, h⟩ := h
  unfold t_kernel
  walk_at "z"
  exact bad2_check h
theorem ok_kernel {P : Program} {w : World} {K : PySem.W.Frag} {mg : Str → Option Value} {base : Heap} (T : Tx K mg) : OkkX P w K mg base 8 "kernel" ["ground", "table"] (sp_kernel K) := by
  obtain ⟨fd_kernel_rows, F_kernel_rows, b_kernel_rows, g_kernel_rows, k_kernel_rows⟩ := ok_kernel_rows (P := P) (w := w) (base := base) T
  obtain ⟨fd_check_table, F_check_table, b_check_table, g_check_table, k_check_table⟩ := ok_check_table (P := P) (w := w) (base := base) T
  obtain ⟨fd, F⟩ := T.f_kernel
  refine ⟨fd, F.ok sc_kernel (fun vs H Q E h => len_kernel h) (fun cdv A outer s H vs Q E hr h => ⟨t_kernel K E, ?_, pure_kernel K vs H Q E h⟩), F.bindsN (fun _ _ _ _ _ _ us hl => match us, hl with | [_, _], _ => rfl), T.g_kernel, F.kp⟩
  exact (pss_cons (ps_expr (pe_call F_check_table (hr.mono (by decide)) rfl g_check_table k_check_table b_check_table .nil (passes_call (takes_of rfl rfl rfl rfl) (fun _ _ _ _ h => h)) (pa_cons (pv 0) (pa_cons (pv 1) pa_nil))))
      (pss_one (ps_ret (pe_call F_kernel_rows (hr.mono (by decide)) rfl g_kernel_rows k_kernel_rows b_kernel_rows .nil pass0 (pa_cons (pv 0) (pa_cons (pv 1) pa_nil))))))
/-! ### check_square -/
theorem sc_check_square : FnScope ["ground", "table"] ["ground", "table"] (defScope s_check_square) := ⟨rfl, rfl, rfl, by decide +kernel, rfl, by decide +kernel, by decide +kernel⟩
def sp_check_square (K : PySem.W.Frag) : Sp := fun vs H Q E => ∃ (v w : V), vs = [v, w] ∧ (Bad2 K E H v w ∨ ∃ ds, Good2 H v w ds ∧ ((ds.length ≠ dlen (ds.getD 0 .none) ∧ Raise0 K E H "InvalidOperation") ∨ (ds.length = dlen (ds.getD 0 .none) ∧ ∀ H', Same H H' → Q .non H')))
theorem len_check_square {K : PySem.W.Frag} {vs : List V} {H : Hp} {Q : VK} {E : XK} (h : sp_check_square K vs H Q E) : vs.length = ["ground", "table"].length := by
  obtain ⟨_, _, rfl, _⟩ := h
  rfl
def t_check_square (K : PySem.W.Frag) (E : XK) : TS := (tSeq (tDrop (tCall (sp_check_table K) [] E (tCons (tVar 0) (tCons (tVar 1) tNil))))
  (tIfS (tTest (tOp rNe (tCB (rLenU K) (tCons (tVar 1) tNil)) (tCB (rLenU K) (tCons (tOp (rIxA K) (tVar 1) (tC (.int 0))) tNil)))) (tRaise0 (He.ga K "InvalidOperation") (fun cls d _ H => E cls d H)) tNext))
theorem pure_check_square (K : PySem.W.Frag) (vs : List V) (H : Hp) (Q : VK) (E : XK) (h : sp_check_square K vs H Q E) : t_check_square K E { nx := fun _ H' => Q .non H', rt := Q } (start ["ground", "table"] vs) H := by
  obtain ⟨v, w, rfl, h⟩ := h
  unfold t_check_square
  walk_at "z"
  rcases h with h | ⟨ds, h, h2⟩
  · exact bad2_check h
  · refine good2_check h fun H1 s1 => ?_
    walk_at "z"
    obtain ⟨a, xs, b, ys, rfl, ha, l1, h0, hb, l2⟩ := good2_rows (h.same s1)
    refine lenT (sqT_of ha) ?_
    refine ixT (sqT_of ha) (atN (i := 0) h0) ?_
    refine lenT (sqT_of hb) ?_
    walk_at "z"
    rw [l1, l2]
    rcases h2 with ⟨n, r⟩ | ⟨n, r⟩
    · rw [if_pos (by omega)]
      exact r H1 s1
    · rw [if_neg (by omega)]
      exact r H1 s1
theorem ok_check_square {P : Program} {w : World} {K : PySem.W.Frag} {mg : Str → Option Value} {base : Heap} (T : Tx K mg) : OkkX P w K mg base 8 "check_square" ["ground", "table"] (sp_check_square K) := by
  obtain ⟨fd_check_table, F_check_table, b_check_table, g_check_table, k_check_table⟩ := ok_check_table (P := P) (w := w) (base := base) T
  have hf_len := T.n_len
  obtain ⟨fd, F⟩ := T.f_check_square
  refine ⟨fd, F.ok sc_check_square (fun vs H Q E h => len_check_square h) (fun cdv A outer s H vs Q E hr h => ⟨t_check_square K E, ?_, pure_check_square K vs H Q E h⟩), F.bindsN (fun _ _ _ _ _ _ us hl => match us, hl with | [_, _], _ => rfl), T.g_check_square, F.kp⟩
  exact (pss_cons (ps_expr (pe_call F_check_table (hr.mono (by decide)) rfl g_check_table k_check_table b_check_table .nil (passes_call (takes_of rfl rfl rfl rfl) (fun _ _ _ _ h => h)) (pa_cons (pv 0) (pa_cons (pv 1) pa_nil))))
      (pss_one (ps_if (pt_cmpR op_ne (pe_callB call_len_seq (by rfl) hf_len (by decide +kernel) (pa_cons (pv 1) pa_nil)) (pe_callB call_len_seq (by rfl) hf_len (by decide +kernel) (pa_cons (pe_ix ix_lt (pv 1) pe_int (fun _ _ => rfl)) pa_nil)) (nomark _)) (pss_one (ps_raise0 rfl (takes_of rfl rfl rfl rfl) T.e_InvalidOperation.1 T.e_InvalidOperation.2 rfl (by decide))) pss_nil)))
/-! ### solve_answer -/
theorem sc_solve_answer : FnScope ["ground", "table", "vector", "width", "joined", "rows", "found", "lead", "_", "row"] ["ground", "table", "vector"] (defScope s_solve_answer) := ⟨rfl, rfl, rfl, by decide +kernel, rfl, by decide +kernel, by decide +kernel⟩
theorem r12_bez : ∀ a b : Nat, ∃ u v : Int, (a : Int) * u + b * v = (Nat.gcd a b : Nat) := by
  intro a b
  induction a, b using Nat.gcd.induction with
  | H0 n => exact ⟨0, 1, by simp⟩
  | H1 m n hm ih =>
    obtain ⟨u, v, h⟩ := ih
    refine ⟨v - (n / m : Nat) * u, u, ?_⟩
    rw [Nat.gcd_rec, ← h]
    have e : ((n % m : Nat) : Int) = n - m * (n / m : Nat) := by
      have := Nat.div_add_mod n m
      have h2 : (n : Int) = m * (n / m : Nat) + (n % m : Nat) := by exact_mod_cast this.symm
      omega
    rw [e, Int.mul_sub, Int.sub_mul, Int.mul_assoc]
    omega
theorem r12_F {g : Nat} (hg : GroundV (.int (g : Int))) : ∃ (F : Type) (_ : Lean.Grind.Field F), Lean.Grind.IsCharP F g := by
  refine Lin.ground_field g fun g0 => ?_
  obtain ⟨n, e, _, _, h | h⟩ := hg
  · cases e; omega
  · cases e
    have h2 := h.1
    refine ⟨by omega, fun a a0 ag => ?_⟩
    have hc : Nat.gcd a g = 1 := by
      refine Classical.byContradiction fun hne => ?_
      have hg0 : Nat.gcd a g ≠ 0 := Nat.pos_iff_ne_zero.mp (Nat.gcd_pos_of_pos_left _ a0)
      have hle : Nat.gcd a g ≤ a := Nat.le_of_dvd a0 (Nat.gcd_dvd_left _ _)
      exact h.2 ((Nat.gcd a g : Nat) : Int) (by omega) (by omega) (Int.natCast_dvd_natCast.mpr (Nat.gcd_dvd_right a g))
    obtain ⟨u, v, e⟩ := r12_bez a g
    rw [hc] at e
    refine ⟨(u % (g : Int)).toNat, ?_⟩
    have h3 := Int.emod_nonneg u (show (g : Int) ≠ 0 by omega)
    have h4 : ((a * (u % (g : Int)).toNat % g : Nat) : Int) = 1 := by
      rw [Int.natCast_emod, Int.natCast_mul, Int.toNat_of_nonneg h3, Int.mul_emod, Int.emod_emod_of_dvd u (Int.dvd_refl _), ← Int.mul_emod]
      rw [show (a : Int) * u = 1 + (g : Int) * (-v) by rw [Int.mul_neg]; omega, Int.add_mul_emod_self_left]
      exact Int.emod_eq_of_lt (by decide) (by omega)
    omega
theorem tabP_ok {H : Hp} {g : Nat} {b : Bool} {z : V} {qss : List (List (Int × Int))} {W : Nat} (hg : GroundV (.int (g : Int))) (g0 : (g : Int) ≠ 0) (T : TabP H g b z qss) (hl : qss.length ≤ 12) (hW : ∀ qs ∈ qss, qs.length = W) (h20 : W < 2 ^ 20) : TabOk qss W := by
  have g9 := ground_le hg
  refine ⟨hl, fun qs hqs => ?_, h20⟩
  obtain ⟨A, xs, _, _, hR⟩ := T
  obtain ⟨i, hi⟩ := List.mem_iff_getElem?.mp hqs
  have hs := hR.2 i _ qs (List.getElem?_eq_getElem (show i < xs.length by rw [hR.1]; exact (List.getElem?_eq_some_iff.mp hi).1)) hi
  have hb := seq_bot hs
  refine ⟨hW qs hqs, fun q hq => ?_, ?_⟩
  · have := ((hb q hq).2 g0).2
    exact Nat.lt_of_lt_of_le (show q.1.natAbs < 2 ^ 14 by omega) (Nat.pow_le_pow_right (by decide) (by decide))
  · rw [prI_one fun m hm => by
      obtain ⟨q, hq, rfl⟩ := List.mem_map.mp hm
      exact ((hb q hq).2 g0).1]
    exact Nat.lt_of_lt_of_le (show (1 : Int).natAbs < 2 ^ 1 by decide) (Nat.pow_le_pow_right (by decide) (by decide))
theorem zip_len {qss rss : List (List (Int × Int))} {a b : Nat} (h1 : ∀ qs ∈ qss, qs.length = a) (h2 : ∀ rs ∈ rss, rs.length = b) : ∀ ts ∈ List.zipWith (fun a b => a ++ b) qss rss, ts.length = a + b := fun ts hts => by
  obtain ⟨i, hi⟩ := List.mem_iff_getElem?.mp hts
  rw [List.getElem?_zipWith] at hi
  cases e1 : qss[i]? with
  | none => rw [e1] at hi; simp at hi
  | some qs =>
    cases e2 : rss[i]? with
    | none => rw [e1, e2] at hi; simp at hi
    | some rs =>
      rw [e1, e2] at hi
      have : qs ++ rs = ts := by simpa using hi
      rw [← this, List.length_append, h1 qs (List.mem_of_getElem? e1), h2 rs (List.mem_of_getElem? e2)]
def sp_solve_answer (K : PySem.W.Frag) : Sp := fun vs H Q E => ∃ (v w u : V), vs = [v, w, u] ∧ (Bad2 K E H v w ∨ ∃ ds, Good2 H v w ds ∧ ((∃ g e no, v = .int g ∧ Pl H no e u ∧ ((vecB g ds.length (10 ^ 20) e = false ∧ Raise0 K E H "InvalidTable"))) ∨
  (∃ (g n W : Nat) (qss : List (List (Int × Int))) (rs : List (Int × Int)) (e : PyData) (no : List Addr), v = .int (g : Int) ∧ GroundV (.int (g : Int)) ∧ (g : Int) ≠ 0 ∧ TabN H g w qss ∧ RowN H g u rs ∧ Pl H no e u ∧ vecB g ds.length (10 ^ 20) e = true ∧ (qss.length = n ∧ ds.length = n ∧ rs.length = n ∧ (∀ qs ∈ qss, qs.length = W) ∧ 1 ≤ n ∧ n ≤ 12 ∧ 1 ≤ W ∧ W ≤ 12) ∧ ∀ z H', Same H H' → Q z H')))
theorem len_solve_answer {K : PySem.W.Frag} {vs : List V} {H : Hp} {Q : VK} {E : XK} (h : sp_solve_answer K vs H Q E) : vs.length = ["ground", "table", "vector"].length := by
  obtain ⟨_, _, _, rfl, _⟩ := h
  rfl
def t_solve_answer_f1_b (K : PySem.W.Frag) (E : XK) : TS := (tIfS (tTest (tOp rNe (tOp (rIxA K) (tVar 9) (tVar 3)) (tC (.int 0)))) (tRet (tTup (tCons (tTup (tCons (tC (.str "barred")) (tCons (tVar 0) (tCons (tVar 1) (tCons (tVar 2) tNil))))) (tCons (tCall (sp_numbers_over K) [] E0 (tCons (tVar 0) (tCons (tSl (rSlL K) (tVar 9) (tPart (tOp rAdd (tVar 3) (tC (.int 1)))) tNoPart) (tCons (tOp (rIxA K) (tVar 9) (tVar 3)) tNil)))) tNil)))) tNext)
def t_solve_answer (K : PySem.W.Frag) (E : XK) : TS := (tSeq (tDrop (tCall (sp_check_table K) [] E (tCons (tVar 0) (tCons (tVar 1) tNil))))
  (tSeq (tIfS (tNot (tB (tCall (sp_vector_fits K) [] E0 (tCons (tVar 0) (tCons (tVar 2) (tCons (tCB (rLenU K) (tCons (tVar 1) tNil)) (tCons (tC (.int 100000000000000000000)) tNil))))))) (tRaise0 (He.ga K "InvalidTable") (fun cls d _ H => E cls d H)) tNext)
  (tSeq (tAsg (tCB (rLenU K) (tCons (tOp (rIxA K) (tVar 1) (tC (.int 0))) tNil)) (gName 3))
  (tSeq (tAsg (tCall (sp_beside K) [] E0 (tCons (tCall (sp_beside K) [] E0 (tCons (tVar 1) (tCons (tCall (sp_turned K) [] E0 (tCons (tTup (tCons (tVar 2) tNil)) tNil)) tNil))) (tCons (tCall (sp_unit_rows K) [] E0 (tCons (tVar 0) (tCons (tCB (rLenU K) (tCons (tVar 1) tNil)) tNil))) tNil))) (gName 4))
  (tSeq (tAsg (tCall (sp_cleared_table K) [] E0 (tCons (tVar 0) (tCons (tVar 4) (tCons (tVar 3) tNil)))) (gTup K 4 (gCons (gName 5) (gCons (gName 6) (gCons (gName 7) (gCons (gName 8) gNil))))))
  (tSeq (tFor (iList K (tSl (rSlL K) (tVar 5) (tPart (tCB (rLenU K) (tCons (tVar 6) tNil))) tNoPart)) (gName 9) (t_solve_answer_f1_b K E))
  (tRet (tTup (tCons (tTup (tCons (tC (.str "solved")) (tCons (tVar 0) (tCons (tVar 1) (tCons (tVar 2) tNil))))) (tCons (tCall (sp_solution K) [] E0 (tCons (tVar 0) (tCons (tVar 3) (tCons (tVar 6) (tCons (tVar 5) (tCons (tVar 7) tNil)))))) tNil))))))))))
theorem pure_solve_answer (K : PySem.W.Frag) (vs : List V) (H : Hp) (Q : VK) (E : XK) (h : sp_solve_answer K vs H Q E) : t_solve_answer K E { nx := fun _ H' => Q .non H', rt := Q } (start ["ground", "table", "vector", "width", "joined", "rows", "found", "lead", "_", "row"] vs) H := by
  obtain ⟨v, w, u, rfl, h⟩ := h
  unfold t_solve_answer
  walk_at "z"
  rcases h with h | ⟨ds, h, ⟨g, e, no, rfl, p, hv, r⟩ | ⟨g, n, W, qss, rs, e, no, rfl, hg, g0, hT, hRw, p, hv, ⟨lq, ld, lr, hW, n1, n12, W1, W12⟩, hq⟩⟩
  · exact bad2_check h
  · refine good2_check h fun H1 s1 => ?_
    walk_at "z"
    obtain ⟨a, xs, b, ys, rfl, ha, l1, h0, hb, l2⟩ := good2_rows (h.same s1)
    refine lenT (sqT_of ha) ?_
    rw [l1]
    refine ⟨g, u, e, ds.length, _, no, rfl, p.same s1, ?_, fun H2 s2 => ?_⟩
    · obtain ⟨_, _, _, _, _, t⟩ := h
      rw [tabB_t, Bool.and_eq_true] at t
      obtain ⟨ds', e, l1, l2, l3⟩ := rowsB_tup t.1
      cases e
      omega
    · dsimp only
      rw [show vecB g ds.length 100000000000000000000 e = false from hv]
      refine ⟨_, rfl, ?_⟩
      rw [if_pos rfl]
      exact r H2 (s1.trans s2)
  · refine good2_check h fun H1 s1 => ?_
    walk_at "z"
    obtain ⟨A, xs, rfl, hA, hR⟩ := id hT
    have xl : xs.length = n := by rw [hR.1, lq]
    refine lenT (sqT_of (s1 _ _ hA)) ?_
    rw [xl]
    refine ⟨g, u, e, n, _, no, rfl, p.same s1, by omega, fun H2 s2 => ?_⟩
    dsimp only
    rw [show vecB g n 100000000000000000000 e = true from by rw [← ld]; exact hv]
    refine ⟨_, rfl, ?_⟩
    rw [if_neg (by decide)]
    have s12 := s1.trans s2
    refine tab_w (hT.same s12) (by omega) hW ?_
    refine ⟨by decide, fun p1 hp1 => ?_⟩
    have f1 := same_upd (o := .tup [u]) hp1
    have e1 : upd H2 p1 (.tup [u]) p1 = some (.tup [u]) := upd_same
    generalize upd H2 p1 (.tup [u]) = H3 at *
    have s13 := s12.trans f1
    have T1 : TabN H3 g (.ref p1) [rs] := ⟨p1, [u], rfl, e1, rfl, fun i v q hv hq => by
      match i, hv, hq with
      | 0, hv, hq => simp at hv hq; subst hv; subst hq; exact hRw.same s13⟩
    refine ⟨(g : Int), .ref p1, [rs], n, rfl, T1, by simp, by simp, by omega, by simpa using lr, fun z1 H4 s4 hz1 => ?_⟩
    have tl : (turnQ [rs] n).length = n := by simp [turnQ]
    have tw : ∀ ts ∈ turnQ [rs] n, ts.length = 1 := fun ts h => by
      obtain ⟨j, _, rfl⟩ := List.mem_map.mp h
      rfl
    have s14 := s13.trans s4
    refine ⟨(g : Int), false, .ref A, z1, qss, turnQ [rs] n, rfl, (hT.same s14).p, hz1, by omega, by omega, fun qs h => by rw [hW qs h]; omega, fun ts h => by rw [tw ts h]; decide, fun z2 H5 s5 hz2 => ?_⟩
    have s15 := s14.trans s5
    refine lenT (sqT_of (s15 _ _ hA)) ?_
    rw [xl]
    refine ⟨g, n, hg, rfl, n12, fun z3 H6 s6 hz3 => ?_⟩
    have ul : (unitQ n).length = n := by simp [unitQ]
    have uw : ∀ ts ∈ unitQ n, ts.length = n := fun ts h => by
      obtain ⟨j, _, rfl⟩ := List.mem_map.mp h
      simp
    have w2 := zip_len hW tw
    have l2 : (List.zipWith (fun a b => a ++ b) qss (turnQ [rs] n)).length = n := by rw [List.length_zipWith, lq, tl]; omega
    refine ⟨(g : Int), true, z2, z3, _, unitQ n, rfl, ?_, hz3, by rw [l2, ul], by omega, fun qs h => by rw [w2 qs h]; omega, fun ts h => by rw [uw ts h]; omega, fun z4 H7 s7 hz4 => ?_⟩
    · obtain ⟨B, ys, e, hB, hS⟩ := hz2
      exact ⟨B, ys, e, s6 _ _ hB, hS.imp fun v q h => h.same s6⟩
    have w3 := zip_len w2 uw
    have l3 : (List.zipWith (fun a b => a ++ b) (List.zipWith (fun a b => a ++ b) qss (turnQ [rs] n)) (unitQ n)).length = n := by rw [List.length_zipWith, l2, ul]; omega
    obtain ⟨F, iF, iC⟩ : ∃ (F : Type) (_ : Lean.Grind.Field F), Lean.Grind.IsCharP F g := r12_F hg
    refine ⟨g, F, iF, iC, z4, true, _, W + 1 + n, W, rfl, hg, hz4, tabP_ok hg g0 hz4 (by omega) w3 (by omega), by omega, fun P A' T xs' nss M C lead sign R X H8 s8 hP hA' hM hT8 hsg hWh hsm hS => ?_⟩
    refine ⟨_, _, rfl, sqT_of hP, rfl, ?_⟩
    walk_at "z"
    have g9 := ground_le hg
    obtain ⟨rngM, ld0, ld1⟩ := hS.rng (by omega)
    have hMn := cst_len hS
    have hnn : nss.length ≤ 12 := by rw [← hWh.1]; omega
    obtain ⟨szM, szl⟩ := cst_sz (B := 600) hS hg (by decide) hsm hnn
    have hCM : C.length ≤ M.length := by rw [hS.len]; omega
    have xl' : xs'.length = M.length := hM.1
    have s18 : Same H H8 := ((s15.trans s6).trans s7).trans s8
    refine lenT (sqT_of hT8) ?_
    rw [List.length_map]
    refine ⟨(C.length : Int), rfl, ?_⟩
    refine ⟨A', xs', rfl, sqL_of hA', fun p2 hp2 => ?_⟩
    rw [cut_from (n := C.length) (by omega)]
    have f2 := same_upd (o := .lst (xs'.drop C.length)) hp2
    have e2 : upd H8 p2 (.lst (xs'.drop C.length)) p2 = some (.lst (xs'.drop C.length)) := upd_same
    generalize upd H8 p2 (.lst (xs'.drop C.length)) = H9 at *
    refine ⟨p2, rfl, ⟨_, sqL_of e2⟩, for_L (xs := xs'.drop C.length) (fun i σ H' => ∃ o9, σ = [some (V.int (g : Int)), some (.ref A), some u, some (.int (W : Int)), some z4, some (.ref A'), some (.ref T), some (.int lead), some (.int sign), o9] ∧ Same H9 H') ⟨none, rfl, Same.refl _⟩ (fun i σ H' _ h => ?_) (fun i x σ H' hx h N hN => ?_) (fun σ H' h => ?_)⟩
    · obtain ⟨_, _, s⟩ := h
      exact sqL_of (s _ _ e2)
    · obtain ⟨o9, rfl, s⟩ := h
      rw [List.getElem?_drop] at hx
      obtain ⟨r, hr, a2, rfl, ha2⟩ := hM.get hx
      have hrm := List.mem_of_getElem? hr
      have rl := hS.wid r hrm
      have ha3 := s _ _ (f2 _ _ ha2)
      unfold t_solve_answer_f1_b
      walk_at "z"
      refine ixLI ha3 (c := W) (by omega) ?_
      walk_at "z"
      by_cases c0 : r.getD W 0 = 0
      · rw [if_neg (by simpa using c0)]
        exact hN _ _ ⟨_, rfl, s⟩
      · rw [if_pos c0]
        refine ⟨by decide, fun q1 hq1 => ?_⟩
        have f3 := same_upd (o := .tup [V.str "barred", V.int (g : Int), .ref A, u]) hq1
        have ha4 := f3 _ _ ha3
        generalize upd H' q1 (.tup [V.str "barred", V.int (g : Int), .ref A, u]) = G1 at *
        refine ⟨a2, r.map V.int, rfl, sqL_of ha4, fun q2 hq2 => ?_⟩
        rw [show (W : Int) + 1 = ((W + 1 : Nat) : Int) from rfl, cut_from (n := W + 1) (by rw [List.length_map]; omega), ← List.map_drop]
        have f4 := same_upd (o := .lst ((r.drop (W + 1)).map V.int)) hq2
        have e4 : upd G1 q2 (.lst ((r.drop (W + 1)).map V.int)) q2 = some (.lst ((r.drop (W + 1)).map V.int)) := upd_same
        have ha5 := f4 _ _ ha4
        generalize upd G1 q2 (.lst ((r.drop (W + 1)).map V.int)) = G2 at *
        refine ixLI ha5 (c := W) (by omega) ?_
        have dm : r.getD W 0 ∈ r := by
          rw [List.getD_eq_getElem?_getD, List.getElem?_eq_getElem (show W < r.length by omega)]
          exact List.getElem_mem _
        obtain ⟨m0, m1⟩ := rngM r hrm _ dm
        refine ⟨g, F, iF, iC, q2, r.drop (W + 1), r.getD W 0, hg, rfl, e4, by rw [List.length_drop]; omega, szM r hrm _ dm, fun m hm => szM r hrm m (List.mem_of_mem_drop hm), fun e => ?_, fun v qs H3 s3 _ _ => ?_⟩
        · rw [Lin.ph_eq_zero g, Int.emod_eq_of_lt m0 m1] at e
          exact c0 e
        · exact ⟨by decide, fun q3 hq3 => hq _ _ ((((((s18.trans f2).trans s).trans f3).trans f4).trans s3).trans (same_upd hq3))⟩
    · obtain ⟨o9, rfl, s⟩ := h
      walk_at "z"
      refine ⟨by decide, fun q1 hq1 => ?_⟩
      have f3 := same_upd (o := .tup [V.str "solved", V.int (g : Int), .ref A, u]) hq1
      have s8 := (f2.trans s).trans f3
      exact ⟨g, F, iF, iC, A', T, xs', M, C, W, lead, rfl, hg, s8 _ _ hA', hM.imp fun v q h => h.same s8, s8 _ _ hT8, hCM, fun c hc => hS.cl.lt c hc, W12, fun r hr => ⟨by rw [hS.wid r hr]; omega, szM r hr⟩, szl, hS.ldne, fun z H3 s3 => ⟨by decide, fun q3 hq3 => hq _ _ (((s18.trans s8).trans s3).trans (same_upd hq3))⟩⟩
theorem ok_solve_answer {P : Program} {w : World} {K : PySem.W.Frag} {mg : Str → Option Value} {base : Heap} (T : Tx K mg) : OkkX P w K mg base 8 "solve_answer" ["ground", "table", "vector"] (sp_solve_answer K) := by
  obtain ⟨fd_vector_fits, F_vector_fits, b_vector_fits, g_vector_fits, k_vector_fits⟩ := ok_vector_fits (P := P) (w := w) (base := base) T
  obtain ⟨fd_turned, F_turned, b_turned, g_turned, k_turned⟩ := ok_turned (P := P) (w := w) (base := base) T
  obtain ⟨fd_unit_rows, F_unit_rows, b_unit_rows, g_unit_rows, k_unit_rows⟩ := ok_unit_rows (P := P) (w := w) (base := base) T
  obtain ⟨fd_beside, F_beside, b_beside, g_beside, k_beside⟩ := ok_beside (P := P) (w := w) (base := base) T
  obtain ⟨fd_cleared_table, F_cleared_table, b_cleared_table, g_cleared_table, k_cleared_table⟩ := ok_cleared_table (P := P) (w := w) (base := base) T
  obtain ⟨fd_numbers_over, F_numbers_over, b_numbers_over, g_numbers_over, k_numbers_over⟩ := ok_numbers_over (P := P) (w := w) (base := base) T
  obtain ⟨fd_check_table, F_check_table, b_check_table, g_check_table, k_check_table⟩ := ok_check_table (P := P) (w := w) (base := base) T
  obtain ⟨fd_solution, F_solution, b_solution, g_solution, k_solution⟩ := ok_solution (P := P) (w := w) (base := base) T
  obtain ⟨_, hc_TWENTY_DIGITS⟩ := T.c_TWENTY_DIGITS
  have hf_len := T.n_len
  obtain ⟨fd, F⟩ := T.f_solve_answer
  refine ⟨fd, F.ok sc_solve_answer (fun vs H Q E h => len_solve_answer h) (fun cdv A outer s H vs Q E hr h => ⟨t_solve_answer K E, ?_, pure_solve_answer K vs H Q E h⟩), F.bindsN (fun _ _ _ _ _ _ us hl => match us, hl with | [_, _, _], _ => rfl), T.g_solve_answer, F.kp⟩
  exact (pss_cons (ps_expr (pe_call F_check_table (hr.mono (by decide)) rfl g_check_table k_check_table b_check_table .nil (passes_call (takes_of rfl rfl rfl rfl) (fun _ _ _ _ h => h)) (pa_cons (pv 0) (pa_cons (pv 1) pa_nil))))
      (pss_cons (ps_if (pt_not (pt_val (pe_call F_vector_fits (hr.mono (by decide)) rfl g_vector_fits k_vector_fits b_vector_fits .nil pass0 (pa_cons (pv 0) (pa_cons (pv 2) (pa_cons (pe_callB call_len_seq (by rfl) hf_len (by decide +kernel) (pa_cons (pv 1) pa_nil)) (pa_cons (pe_glob rfl hc_TWENTY_DIGITS ⟨_, rfl⟩) pa_nil))))))) (pss_one (ps_raise0 rfl (takes_of rfl rfl rfl rfl) T.e_InvalidTable.1 T.e_InvalidTable.2 rfl (by decide))) pss_nil)
      (pss_cons (ps_set (i := 3) sc_solve_answer.nd rfl (by first | exact Or.inl rfl | exact Or.inr rfl) (pe_callB call_len_seq (by rfl) hf_len (by decide +kernel) (pa_cons (pe_ix ix_lt (pv 1) pe_int (fun _ _ => rfl)) pa_nil)))
      (pss_cons (ps_set (i := 4) sc_solve_answer.nd rfl (by first | exact Or.inl rfl | exact Or.inr rfl) (pe_call F_beside (hr.mono (by decide)) rfl g_beside k_beside b_beside .nil pass0 (pa_cons (pe_call F_beside (hr.mono (by decide)) rfl g_beside k_beside b_beside .nil pass0 (pa_cons (pv 1) (pa_cons (pe_call F_turned (hr.mono (by decide)) rfl g_turned k_turned b_turned .nil pass0 (pa_cons (pe_tup (pa_cons (pv 2) pa_nil)) pa_nil)) pa_nil))) (pa_cons (pe_call F_unit_rows (hr.mono (by decide)) rfl g_unit_rows k_unit_rows b_unit_rows .nil pass0 (pa_cons (pv 0) (pa_cons (pe_callB call_len_seq (by rfl) hf_len (by decide +kernel) (pa_cons (pv 1) pa_nil)) pa_nil))) pa_nil))))
      (pss_cons (ps_asg (pe_call F_cleared_table (hr.mono (by decide)) rfl g_cleared_table k_cleared_table b_cleared_table .nil pass0 (pa_cons (pv 0) (pa_cons (pv 4) (pa_cons (pv 3) pa_nil)))) (pg_tup rfl (pgs_cons (pg_name (i := 5) sc_solve_answer.nd rfl (by first | exact Or.inl rfl | exact Or.inr rfl)) (pgs_cons (pg_name (i := 6) sc_solve_answer.nd rfl (by first | exact Or.inl rfl | exact Or.inr rfl)) (pgs_cons (pg_name (i := 7) sc_solve_answer.nd rfl (by first | exact Or.inl rfl | exact Or.inr rfl)) (pgs_cons (pg_name (i := 8) sc_solve_answer.nd rfl (by first | exact Or.inl rfl | exact Or.inr rfl)) pgs_nil))))))
      (pss_cons (ps_for (passes_of rfl) rfl (pi_list (pe_slice sl_list (pv 5) (po_some (pe_callB call_len_seq (by rfl) hf_len (by decide +kernel) (pa_cons (pv 6) pa_nil))) po_none)) (pg_name (i := 9) sc_solve_answer.nd rfl (by first | exact Or.inl rfl | exact Or.inr rfl)) (pss_one (ps_if (pt_cmpR op_ne (pe_ix ix_lt (pv 9) (pv 3) (fun _ _ => rfl)) pe_int (nomark _)) (pss_one (ps_ret (pe_tup (pa_cons (pe_tup (pa_cons pe_str (pa_cons (pv 0) (pa_cons (pv 1) (pa_cons (pv 2) pa_nil))))) (pa_cons (pe_call F_numbers_over (hr.mono (by decide)) rfl g_numbers_over k_numbers_over b_numbers_over .nil pass0 (pa_cons (pv 0) (pa_cons (pe_slice sl_list (pv 9) (po_some (pe_op op_add (pv 3) pe_int)) po_none) (pa_cons (pe_ix ix_lt (pv 9) (pv 3) (fun _ _ => rfl)) pa_nil)))) pa_nil))))) pss_nil)))
      (pss_one (ps_ret (pe_tup (pa_cons (pe_tup (pa_cons pe_str (pa_cons (pv 0) (pa_cons (pv 1) (pa_cons (pv 2) pa_nil))))) (pa_cons (pe_call F_solution (hr.mono (by decide)) rfl g_solution k_solution b_solution .nil pass0 (pa_cons (pv 0) (pa_cons (pv 3) (pa_cons (pv 6) (pa_cons (pv 5) (pa_cons (pv 7) pa_nil)))))) pa_nil)))))))))))
/-! ### rank_answer -/
theorem sc_rank_answer : FnScope ["ground", "table", "paper"] ["ground", "table"] (defScope s_rank_answer) := ⟨rfl, rfl, rfl, by decide +kernel, rfl, by decide +kernel, by decide +kernel⟩
def sp_rank_answer (K : PySem.W.Frag) : Sp := fun vs H Q E => ∃ (v w : V), vs = [v, w] ∧ (Bad2 K E H v w ∨ ∃ ds, Good2 H v w ds ∧ v = .int 0 ∧ ∃ (n W : Nat) (c : Int), TabN H 0 w (List.replicate n (List.replicate W (c, 1))) ∧ (1 ≤ n ∧ n ≤ 12 ∧ 1 ≤ W ∧ W ≤ 12) ∧ (1 ≤ c ∧ Sz 100 c) ∧ ∀ z H', Same H H' → Q z H')
theorem len_rank_answer {K : PySem.W.Frag} {vs : List V} {H : Hp} {Q : VK} {E : XK} (h : sp_rank_answer K vs H Q E) : vs.length = ["ground", "table"].length := by
  obtain ⟨_, _, rfl, _⟩ := h
  rfl
def t_rank_answer (K : PySem.W.Frag) (E : XK) : TS := (tSeq (tDrop (tCall (sp_check_table K) [] E (tCons (tVar 0) (tCons (tVar 1) tNil))))
  (tSeq (tAsg (tCall (sp_rank_paper K) [] E0 (tCons (tVar 0) (tCons (tVar 1) tNil))) (gName 2))
  (tRet (tTup (tCons (tTup (tCons (tC (.str "rank")) (tCons (tVar 0) (tCons (tVar 1) (tCons (tCB (rLenU K) (tCons (tOp (rIxA K) (tVar 2) (tC (.int 0))) tNil)) tNil))))) (tCons (tVar 2) tNil))))))
theorem pure_rank_answer (K : PySem.W.Frag) (vs : List V) (H : Hp) (Q : VK) (E : XK) (h : sp_rank_answer K vs H Q E) : t_rank_answer K E { nx := fun _ H' => Q .non H', rt := Q } (start ["ground", "table", "paper"] vs) H := by
  obtain ⟨v, w, rfl, h⟩ := h
  unfold t_rank_answer
  walk_at "z"
  rcases h with h | ⟨ds, h, rfl, n, W, c, hT, hn, hc, hq⟩
  · exact bad2_check h
  · refine good2_check h fun H1 s1 => ?_
    walk_at "z"
    refine ⟨w, n, W, c, rfl, hT.same s1, hn, hc, fun P a y z u xs H2 s2 hP ha => ?_⟩
    walk_at "z"
    refine ixT (sqT_of hP) (v := .ref a) rfl ?_
    refine lenT (sqT_of ha) ?_
    walk_at "z"
    refine ⟨by decide, fun p hp => ⟨by decide, fun q hq2 => ?_⟩⟩
    exact hq _ _ (((s1.trans s2).trans (same_upd hp)).trans (same_upd hq2))

theorem ok_rank_answer {P : Program} {w : World} {K : PySem.W.Frag} {mg : Str → Option Value} {base : Heap} (T : Tx K mg) : OkkX P w K mg base 8 "rank_answer" ["ground", "table"] (sp_rank_answer K) := by
  obtain ⟨fd_rank_paper, F_rank_paper, b_rank_paper, g_rank_paper, k_rank_paper⟩ := ok_rank_paper (P := P) (w := w) (base := base) T
  obtain ⟨fd_check_table, F_check_table, b_check_table, g_check_table, k_check_table⟩ := ok_check_table (P := P) (w := w) (base := base) T
  have hf_len := T.n_len
  obtain ⟨fd, F⟩ := T.f_rank_answer
  refine ⟨fd, F.ok sc_rank_answer (fun vs H Q E h => len_rank_answer h) (fun cdv A outer s H vs Q E hr h => ⟨t_rank_answer K E, ?_, pure_rank_answer K vs H Q E h⟩), F.bindsN (fun _ _ _ _ _ _ us hl => match us, hl with | [_, _], _ => rfl), T.g_rank_answer, F.kp⟩
  exact (pss_cons (ps_expr (pe_call F_check_table (hr.mono (by decide)) rfl g_check_table k_check_table b_check_table .nil (passes_call (takes_of rfl rfl rfl rfl) (fun _ _ _ _ h => h)) (pa_cons (pv 0) (pa_cons (pv 1) pa_nil))))
      (pss_cons (ps_set (i := 2) sc_rank_answer.nd rfl (by first | exact Or.inl rfl | exact Or.inr rfl) (pe_call F_rank_paper (hr.mono (by decide)) rfl g_rank_paper k_rank_paper b_rank_paper .nil pass0 (pa_cons (pv 0) (pa_cons (pv 1) pa_nil))))
      (pss_one (ps_ret (pe_tup (pa_cons (pe_tup (pa_cons pe_str (pa_cons (pv 0) (pa_cons (pv 1) (pa_cons (pe_callB call_len_seq (by rfl) hf_len (by decide +kernel) (pa_cons (pe_ix ix_lt (pv 2) pe_int (fun _ _ => rfl)) pa_nil)) pa_nil))))) (pa_cons (pv 2) pa_nil)))))))
/-! ### rank -/
theorem sc_rank : FnScope ["ground", "table"] ["ground", "table"] (defScope s_rank) := ⟨rfl, rfl, rfl, by decide +kernel, rfl, by decide +kernel, by decide +kernel⟩
def sp_rank (K : PySem.W.Frag) : Sp := fun vs H Q E => ∃ (v w : V), vs = [v, w] ∧ Bad2 K E H v w
theorem len_rank {K : PySem.W.Frag} {vs : List V} {H : Hp} {Q : VK} {E : XK} (h : sp_rank K vs H Q E) : vs.length = ["ground", "table"].length := by
  obtain ⟨_, _, rfl, _⟩ := h
  rfl
def t_rank (K : PySem.W.Frag) (E : XK) : TS := (tRet (tCB (rLenU K) (tCons (tCall (sp_leads K) [] E (tCons (tVar 0) (tCons (tVar 1) tNil))) tNil)))
theorem pure_rank (K : PySem.W.Frag) (vs : List V) (H : Hp) (Q : VK) (E : XK) (h : sp_rank K vs H Q E) : t_rank K E { nx := fun _ H' => Q .non H', rt := Q } (start ["ground", "table"] vs) H := by
  obtain ⟨v, w, rfl, h⟩ := h
  unfold t_rank
  walk_at "z"
  exact ⟨v, w, rfl, h⟩
theorem ok_rank {P : Program} {w : World} {K : PySem.W.Frag} {mg : Str → Option Value} {base : Heap} (T : Tx K mg) : OkkX P w K mg base 9 "rank" ["ground", "table"] (sp_rank K) := by
  obtain ⟨fd_leads, F_leads, b_leads, g_leads, k_leads⟩ := ok_leads (P := P) (w := w) (base := base) T
  have hf_len := T.n_len
  obtain ⟨fd, F⟩ := T.f_rank
  refine ⟨fd, F.ok sc_rank (fun vs H Q E h => len_rank h) (fun cdv A outer s H vs Q E hr h => ⟨t_rank K E, ?_, pure_rank K vs H Q E h⟩), F.bindsN (fun _ _ _ _ _ _ us hl => match us, hl with | [_, _], _ => rfl), T.g_rank, F.kp⟩
  exact (pss_one (ps_ret (pe_callB call_len_seq (by rfl) hf_len (by decide +kernel) (pa_cons (pe_call F_leads (hr.mono (by decide)) rfl g_leads k_leads b_leads .nil (passes_call (takes_of rfl rfl rfl rfl) (fun _ _ _ _ h => h)) (pa_cons (pv 0) (pa_cons (pv 1) pa_nil))) pa_nil))))
/-! ### determinant -/
theorem sc_determinant : FnScope ["ground", "table", "pairs", "row", "_", "found", "lead", "sign", "bottom", "down"] ["ground", "table"] (defScope s_determinant) := ⟨rfl, rfl, rfl, by decide +kernel, rfl, by decide +kernel, by decide +kernel⟩
def sp_determinant (K : PySem.W.Frag) : Sp := fun vs H Q E => ∃ (v w : V), vs = [v, w] ∧ (Bad2 K E H v w ∨ ∃ ds, Good2 H v w ds ∧ ds.length ≠ dlen (ds.getD 0 .none) ∧ Raise0 K E H "InvalidOperation")
theorem len_determinant {K : PySem.W.Frag} {vs : List V} {H : Hp} {Q : VK} {E : XK} (h : sp_determinant K vs H Q E) : vs.length = ["ground", "table"].length := by
  obtain ⟨_, _, rfl, _⟩ := h
  rfl
def t_determinant_f1_b (K : PySem.W.Frag) (E : XK) : TS := (tAsg (tOp rMulU (tVar 8) (tVar 9)) (gName 8))
def t_determinant (K : PySem.W.Frag) (E : XK) : TS := (tSeq (tDrop (tCall (sp_check_square K) [] E (tCons (tVar 0) (tCons (tVar 1) tNil))))
  (tSeq (tAsg (tLc (iTup K (tVar 1)) (gName 3) tYes (tCall (sp_whole_row K) [] E0 (tCons (tVar 0) (tCons (tVar 3) tNil))) [3]) (gName 2))
  (tSeq (tAsg (tCall (sp_cleared K) [] E0 (tCons (tVar 0) (tCons (tLc (iList K (tVar 2)) (gTup K 2 (gCons (gName 3) (gCons (gName 4) gNil))) tYes (tVar 3) [3, 4]) (tCons (tCB (rLenU K) (tCons (tVar 1) tNil)) tNil)))) (gTup K 4 (gCons (gName 4) (gCons (gName 5) (gCons (gName 6) (gCons (gName 7) gNil))))))
  (tSeq (tIfS (tTest (tOp rLtI (tCB (rLenU K) (tCons (tVar 5) tNil)) (tCB (rLenU K) (tCons (tVar 1) tNil)))) (tRet (tCall (sp_number_of K) [] E0 (tCons (tVar 0) (tCons (tC (.int 0)) tNil)))) tNext)
  (tSeq (tAsg (tC (.int 1)) (gName 8))
  (tSeq (tFor (iList K (tVar 2)) (gTup K 2 (gCons (gName 4) (gCons (gName 9) gNil))) (t_determinant_f1_b K E))
  (tRet (tCall (sp_quotient K) [] E0 (tCons (tVar 0) (tCons (tOp rMulU (tVar 7) (tVar 6)) (tCons (tVar 8) tNil)))))))))))
theorem pure_determinant (K : PySem.W.Frag) (vs : List V) (H : Hp) (Q : VK) (E : XK) (h : sp_determinant K vs H Q E) : t_determinant K E { nx := fun _ H' => Q .non H', rt := Q } (start ["ground", "table", "pairs", "row", "_", "found", "lead", "sign", "bottom", "down"] vs) H := by
  obtain ⟨v, w, rfl, h⟩ := h
  unfold t_determinant
  walk_at "z"
  refine ⟨v, w, rfl, ?_⟩
  rcases h with h | ⟨ds, h, n, r⟩
  · exact .inl h
  · exact .inr ⟨ds, h, .inl ⟨n, r⟩⟩
theorem ok_determinant {P : Program} {w : World} {K : PySem.W.Frag} {mg : Str → Option Value} {base : Heap} (T : Tx K mg) : OkkX P w K mg base 9 "determinant" ["ground", "table"] (sp_determinant K) := by
  obtain ⟨fd_quotient, F_quotient, b_quotient, g_quotient, k_quotient⟩ := ok_quotient (P := P) (w := w) (base := base) T
  obtain ⟨fd_number_of, F_number_of, b_number_of, g_number_of, k_number_of⟩ := ok_number_of (P := P) (w := w) (base := base) T
  obtain ⟨fd_whole_row, F_whole_row, b_whole_row, g_whole_row, k_whole_row⟩ := ok_whole_row (P := P) (w := w) (base := base) T
  obtain ⟨fd_cleared, F_cleared, b_cleared, g_cleared, k_cleared⟩ := ok_cleared (P := P) (w := w) (base := base) T
  obtain ⟨fd_check_square, F_check_square, b_check_square, g_check_square, k_check_square⟩ := ok_check_square (P := P) (w := w) (base := base) T
  have hf_len := T.n_len
  obtain ⟨fd, F⟩ := T.f_determinant
  refine ⟨fd, F.ok sc_determinant (fun vs H Q E h => len_determinant h) (fun cdv A outer s H vs Q E hr h => ⟨t_determinant K E, ?_, pure_determinant K vs H Q E h⟩), F.bindsN (fun _ _ _ _ _ _ us hl => match us, hl with | [_, _], _ => rfl), T.g_determinant, F.kp⟩
  exact (pss_cons (ps_expr (pe_call F_check_square (hr.mono (by decide)) rfl g_check_square k_check_square b_check_square .nil (passes_call (takes_of rfl rfl rfl rfl) (fun _ _ _ _ h => h)) (pa_cons (pv 0) (pa_cons (pv 1) pa_nil))))
      (pss_cons (ps_setLc (i := 2) (own := [("row", 3)]) (g := (gName 3)) (tt := tYes) rfl sc_determinant.nd rfl rfl (sw_true rfl rfl rfl (by decide +kernel)) (pi_tup (pv 1)) (blkOk_by (own := [("row", 3)]) (N := ["ground", "table", "pairs", "row", "_", "found", "lead", "sign", "bottom", "down"]) (sc := defScope s_determinant) (by decide +kernel)) (fun _ _ _ _ _ => (pg_name (i := 3) sc_determinant.nd rfl (by first | exact Or.inl rfl | exact Or.inr rfl))) (fun _ _ _ _ _ => pts_nil) (fun _ _ _ _ _ => (pe_call F_whole_row (hr.mono (by decide)) rfl g_whole_row k_whole_row b_whole_row .nil pass0 (pa_cons (pv 0) (pa_cons (pv 3) pa_nil)))))
      (pss_cons (ps_asg (pe_call F_cleared (hr.mono (by decide)) rfl g_cleared k_cleared b_cleared .nil pass0 (pa_cons (pv 0) (pa_cons (pe_lc (own := [("row", 3), ("_", 4)]) (g := (gTup K 2 (gCons (gName 3) (gCons (gName 4) gNil)))) (tt := tYes) rfl sc_determinant.nd (pi_list (pv 2)) (blkOk_by (own := [("row", 3), ("_", 4)]) (N := ["ground", "table", "pairs", "row", "_", "found", "lead", "sign", "bottom", "down"]) (sc := defScope s_determinant) (by decide +kernel)) (fun _ _ _ _ _ => (pg_tup rfl (pgs_cons (pg_name (i := 3) sc_determinant.nd rfl (by first | exact Or.inl rfl | exact Or.inr rfl)) (pgs_cons (pg_name (i := 4) sc_determinant.nd rfl (by first | exact Or.inl rfl | exact Or.inr rfl)) pgs_nil)))) (fun _ _ _ _ _ => pts_nil) (fun _ _ _ _ _ => (pv 3))) (pa_cons (pe_callB call_len_seq (by rfl) hf_len (by decide +kernel) (pa_cons (pv 1) pa_nil)) pa_nil)))) (pg_tup rfl (pgs_cons (pg_name (i := 4) sc_determinant.nd rfl (by first | exact Or.inl rfl | exact Or.inr rfl)) (pgs_cons (pg_name (i := 5) sc_determinant.nd rfl (by first | exact Or.inl rfl | exact Or.inr rfl)) (pgs_cons (pg_name (i := 6) sc_determinant.nd rfl (by first | exact Or.inl rfl | exact Or.inr rfl)) (pgs_cons (pg_name (i := 7) sc_determinant.nd rfl (by first | exact Or.inl rfl | exact Or.inr rfl)) pgs_nil))))))
      (pss_cons (ps_if (pt_cmpR op_lt (pe_callB call_len_seq (by rfl) hf_len (by decide +kernel) (pa_cons (pv 5) pa_nil)) (pe_callB call_len_seq (by rfl) hf_len (by decide +kernel) (pa_cons (pv 1) pa_nil)) (nomark _)) (pss_one (ps_ret (pe_call F_number_of (hr.mono (by decide)) rfl g_number_of k_number_of b_number_of .nil pass0 (pa_cons (pv 0) (pa_cons pe_int pa_nil))))) pss_nil)
      (pss_cons (ps_set (i := 8) sc_determinant.nd rfl (by first | exact Or.inl rfl | exact Or.inr rfl) pe_int)
      (pss_cons (ps_for (passes_of rfl) rfl (pi_list (pv 2)) (pg_tup rfl (pgs_cons (pg_name (i := 4) sc_determinant.nd rfl (by first | exact Or.inl rfl | exact Or.inr rfl)) (pgs_cons (pg_name (i := 9) sc_determinant.nd rfl (by first | exact Or.inl rfl | exact Or.inr rfl)) pgs_nil))) (pss_one (ps_set (i := 8) sc_determinant.nd rfl (by first | exact Or.inl rfl | exact Or.inr rfl) (pe_op op_mulU (pv 8) (pv 9)))))
      (pss_one (ps_ret (pe_call F_quotient (hr.mono (by decide)) rfl g_quotient k_quotient b_quotient .nil pass0 (pa_cons (pv 0) (pa_cons (pe_op op_mulU (pv 7) (pv 6)) (pa_cons (pv 8) pa_nil))))))))))))
/-! ### undoing -/
theorem sc_undoing : FnScope ["ground", "table", "undone"] ["ground", "table"] (defScope s_undoing) := ⟨rfl, rfl, rfl, by decide +kernel, rfl, by decide +kernel, by decide +kernel⟩
def sp_undoing (K : PySem.W.Frag) : Sp := fun vs H Q E => ∃ (v w : V), vs = [v, w] ∧ (Bad2 K E H v w ∨ ∃ ds, Good2 H v w ds ∧ ((ds.length ≠ dlen (ds.getD 0 .none) ∧ Raise0 K E H "InvalidOperation") ∨
  (ds.length = dlen (ds.getD 0 .none) ∧ (∀ H1 Q', Same H H1 → (∀ H2, Same H1 H2 → Q' .non H2) → sp_undone_rows K [v, w] H1 Q' E0) ∧ ∀ H1 T dd, Same H H1 → H1 T = some (.tup [.str "flat"]) → H1 dd = none → E (.ref (He.ga K "Refused")) (some dd) (upd H1 dd (.xd [("reason", .ref T)])))))
theorem len_undoing {K : PySem.W.Frag} {vs : List V} {H : Hp} {Q : VK} {E : XK} (h : sp_undoing K vs H Q E) : vs.length = ["ground", "table"].length := by
  obtain ⟨_, _, rfl, _⟩ := h
  rfl
def t_undoing (K : PySem.W.Frag) (E : XK) : TS := (tSeq (tDrop (tCall (sp_check_square K) [] E (tCons (tVar 0) (tCons (tVar 1) tNil))))
  (tSeq (tAsg (tCall (sp_undone_rows K) [] E0 (tCons (tVar 0) (tCons (tVar 1) tNil))) (gName 2))
  (tSeq (tIfS (tB (tIsN (tVar 2))) (tRaise1 "reason" (He.ga K "Refused") (fun cls d _ H => E cls d H) (tCons (tTup (tCons (tC (.str "flat")) tNil)) tNil)) tNext)
  (tRet (tVar 2)))))
theorem pure_undoing (K : PySem.W.Frag) (vs : List V) (H : Hp) (Q : VK) (E : XK) (h : sp_undoing K vs H Q E) : t_undoing K E { nx := fun _ H' => Q .non H', rt := Q } (start ["ground", "table", "undone"] vs) H := by
  obtain ⟨v, w, rfl, h⟩ := h
  unfold t_undoing
  walk_at "z"
  refine ⟨v, w, rfl, ?_⟩
  rcases h with h | ⟨ds, h, ⟨n, r⟩ | ⟨n, u, r⟩⟩
  · exact .inl h
  · exact .inr ⟨ds, h, .inl ⟨n, r⟩⟩
  · refine .inr ⟨ds, h, .inr ⟨n, fun H1 s1 => ?_⟩⟩
    walk_at "z"
    refine u H1 _ s1 fun H2 s2 => ?_
    walk_at "z"
    exact ⟨by decide, fun p hp => ⟨_, rfl, fun dd hd => r _ p dd ((s1.trans s2).trans (same_upd hp)) upd_same hd⟩⟩
theorem ok_undoing {P : Program} {w : World} {K : PySem.W.Frag} {mg : Str → Option Value} {base : Heap} (T : Tx K mg) : OkkX P w K mg base 9 "undoing" ["ground", "table"] (sp_undoing K) := by
  obtain ⟨fd_undone_rows, F_undone_rows, b_undone_rows, g_undone_rows, k_undone_rows⟩ := ok_undone_rows (P := P) (w := w) (base := base) T
  obtain ⟨fd_check_square, F_check_square, b_check_square, g_check_square, k_check_square⟩ := ok_check_square (P := P) (w := w) (base := base) T
  obtain ⟨fd, F⟩ := T.f_undoing
  refine ⟨fd, F.ok sc_undoing (fun vs H Q E h => len_undoing h) (fun cdv A outer s H vs Q E hr h => ⟨t_undoing K E, ?_, pure_undoing K vs H Q E h⟩), F.bindsN (fun _ _ _ _ _ _ us hl => match us, hl with | [_, _], _ => rfl), T.g_undoing, F.kp⟩
  exact (pss_cons (ps_expr (pe_call F_check_square (hr.mono (by decide)) rfl g_check_square k_check_square b_check_square .nil (passes_call (takes_of rfl rfl rfl rfl) (fun _ _ _ _ h => h)) (pa_cons (pv 0) (pa_cons (pv 1) pa_nil))))
      (pss_cons (ps_set (i := 2) sc_undoing.nd rfl (by first | exact Or.inl rfl | exact Or.inr rfl) (pe_call F_undone_rows (hr.mono (by decide)) rfl g_undone_rows k_undone_rows b_undone_rows .nil pass0 (pa_cons (pv 0) (pa_cons (pv 1) pa_nil))))
      (pss_cons (ps_if (pt_cmp (pc_isN (pv 2))) (pss_one (ps_raise1 PySem.F.excBase_ArithmeticError PySem.F.store_ArithmeticError PySem.ZExc.fnOk_reason rfl T.x_Refused hr (takes_of rfl rfl rfl rfl) (pa_cons (pe_tup (pa_cons pe_str pa_nil)) pa_nil) rfl (by decide))) pss_nil)
      (pss_one (ps_ret (pv 2))))))
/-! dice -/
def Dice (H : Hp) (d : Addr) : Prop := ∃ a b c : Int, H d = some (.lst [.int a, .int b, .int c])
theorem Keep.refl (d : Addr) (H : Hp) : Keep d H H := fun _ _ _ h => h
theorem Keep.trans {d : Addr} {H H1 H2 : Hp} (a : Keep d H H1) (b : Keep d H1 H2) : Keep d H H2 := fun c o n h => b c o n (a c o n h)
theorem Keep.put {d : Addr} {H H1 : Hp} {o : HO} (a : Keep d H H1) : Keep d H (L2.upd H1 d o) := fun b u n h => by rw [upd_ne n]; exact a b u n h
theorem Keep.same {d : Addr} {H H1 H2 : Hp} (a : Keep d H H1) (b : Same H1 H2) : Keep d H H2 := fun c o n h => b c o (a c o n h)
theorem Dice.same {d : Addr} {H H1 : Hp} (a : Dice H d) (b : Same H H1) : Dice H1 d := by
  obtain ⟨x, y, z, h⟩ := a
  exact ⟨x, y, z, b _ _ h⟩
theorem Keep.new {d p : Addr} {H H1 : Hp} {o : HO} (a : Keep d H H1) (hp : H1 p = none) : Keep d H (L2.upd H1 p o) := a.same (same_upd hp)
/-- a list of dice made on the way is nothing of the old heap -/
theorem Keep.out {d : Addr} {H0 H H1 : Hp} (s : Same H0 H) (n : H0 d = none) (a : Keep d H H1) : Same H0 H1 := fun b o h => a b o (ne_of_none h n) (s b o h)
theorem cpow {i j : Int} (h : 0 ≤ j ∧ j ≤ 1000000 ∧ i.natAbs < 2 ^ 64) : CPow i j := h
theorem divM {i m : Int} (h : 0 < m) (h2 : m < 2 ^ 250) : CDivW i m := wide_div (b := 250) h (by omega) (by decide) (by decide)
theorem atI_nat {α : Type} {xs : List α} {i : Nat} {x : α} (h : xs[i]? = some x) : atI xs (i : Int) = some x := by
  have hl := (List.getElem?_eq_some_iff.mp h).1
  unfold atI ixN
  rw [if_pos (by omega), if_pos (by omega)]
  exact h
/-! plain data -/
def Gd (n : Nat) (d : PyData) : Prop := PyData.canLay0 d = true ∧ PyData.depth d ≤ n ∧ PyData.eqv d d = true
theorem gd_all {n : Nat} : ∀ {ds : List PyData}, (∀ d ∈ ds, Gd n d) → PyData.canLayAll0 ds = true ∧ PyData.depthAll ds ≤ n ∧ PyData.eqvAll ds ds = true
  | [], _ => ⟨rfl, Nat.zero_le _, rfl⟩
  | d :: ds, h => by
    obtain ⟨h1, h2, h3⟩ := h d (by simp)
    obtain ⟨g1, g2, g3⟩ := gd_all (ds := ds) fun e he => h e (by simp [he])
    refine ⟨?_, ?_, ?_⟩
    · simp only [PyData.canLayAll0, h1, g1, Bool.and_self]
    · simp only [PyData.depthAll]; omega
    · simp only [PyData.eqvAll, h3, g3, Bool.and_self]
theorem Gd.int {n : Nat} (i : Int) : Gd n (.int i) := ⟨rfl, Nat.zero_le _, by simp [PyData.eqv]⟩
theorem Gd.tup {n : Nat} {ds : List PyData} (h : ∀ d ∈ ds, Gd n d) : Gd (n + 1) (.tuple ds) := by
  obtain ⟨h1, h2, h3⟩ := gd_all h
  exact ⟨by simp only [PyData.canLay0]; exact h1, by simp only [PyData.depth]; omega, by simp only [PyData.eqv]; exact h3⟩
theorem Gd.lst {n : Nat} {ds : List PyData} (h : ∀ d ∈ ds, Gd n d) : Gd (n + 1) (.list ds) := by
  obtain ⟨h1, h2, h3⟩ := gd_all h
  exact ⟨by simp only [PyData.canLay0]; exact h1, by simp only [PyData.depth]; omega, by simp only [PyData.eqv]; exact h3⟩
theorem Gd.shaped {n : Nat} {d : PyData} (h : Gd n d) (hn : n ≤ 64) : SeqAt.shaped d = true := by
  unfold SeqAt.shaped
  rw [h.1, decide_eq_true (show PyData.depth d ≤ 64 by have := h.2.1; omega)]
  rfl
theorem eqD_same {K : PySem.W.Frag} {H : Hp} {v w : V} {d : PyData} {n : Nat} {Q : VK} (a : Dp K H v d) (b : Dp K H w d) (h : Gd n d) (hn : n ≤ 64) (q : Q (.bl true) H) : rEqD K v w H Q := by
  refine ⟨d, d, a, b, h.shaped hn, h.shaped hn, ?_⟩
  rw [h.2.2]; exact q
theorem neD_same {K : PySem.W.Frag} {H : Hp} {v w : V} {d : PyData} {n : Nat} {Q : VK} (a : Dp K H v d) (b : Dp K H w d) (h : Gd n d) (hn : n ≤ 64) (q : Q (.bl false) H) : rNeD K v w H Q := by
  refine ⟨d, d, a, b, h.shaped hn, h.shaped hn, ?_⟩
  rw [h.2.2]; exact q
def numD (g x y : Int) : PyData := if g = 0 then .tuple [.int x, .int y] else .int x
theorem num_dp {K : PySem.W.Frag} {H : Hp} {g : Int} {z : V} {x y : Int} (n : NumR H g z x y) : Dp K H z (numD g x y) := by
  rcases n with ⟨e, ⟨p, rfl, hp⟩, _⟩ | ⟨e, rfl, _⟩
  · unfold numD
    rw [if_pos e]
    exact .tup (sqT_of hp) (.cons (.int _) (.cons (.int _) .nil))
  · unfold numD
    rw [if_neg e]
    exact .int _
theorem numD_gd (g x y : Int) : Gd 1 (numD g x y) := by
  unfold numD
  split
  · exact Gd.tup (n := 0) fun d hd => by
      simp only [List.mem_cons, List.not_mem_nil, or_false] at hd
      rcases hd with rfl | rfl <;> exact Gd.int _
  · exact Gd.int _
def rowD (g : Int) (qs : List (Int × Int)) : PyData := .tuple (qs.map fun q => numD g q.1 q.2)
def tabD (g : Int) (qss : List (List (Int × Int))) : PyData := .tuple (qss.map (rowD g))
theorem rowD_gd (g : Int) (qs : List (Int × Int)) : Gd 2 (rowD g qs) := Gd.tup fun d hd => by
  obtain ⟨q, _, rfl⟩ := List.mem_map.mp hd
  exact numD_gd _ _ _
theorem tabD_gd (g : Int) (qss : List (List (Int × Int))) : Gd 3 (tabD g qss) := Gd.tup fun d hd => by
  obtain ⟨q, _, rfl⟩ := List.mem_map.mp hd
  exact rowD_gd _ _
theorem all2_dp {α : Type} {K : PySem.W.Frag} {H : Hp} {R : V → α → Prop} {f : α → PyData} (hf : ∀ v q, R v q → Dp K H v (f q)) : ∀ {xs : List V} {qs : List α}, All2 R xs qs → DpAll K H xs (qs.map f)
  | [], [], _ => .nil
  | [], _ :: _, h => absurd h.1 (by simp)
  | _ :: _, [], h => absurd h.1 (by simp)
  | x :: xs, q :: qs, h => .cons (hf x q (h.2 0 x q rfl rfl)) (all2_dp hf ⟨by simpa using h.1, fun i v r a b => h.2 (i + 1) v r a b⟩)
theorem row_dp {K : PySem.W.Frag} {H : Hp} {g : Int} {v : V} {qs : List (Int × Int)} (h : RowN H g v qs) : Dp K H v (rowD g qs) := by
  obtain ⟨T, xs, rfl, hT, hA⟩ := h
  exact .tup (sqT_of hT) (all2_dp (fun v q n => num_dp n) hA)
theorem tab_dp {K : PySem.W.Frag} {H : Hp} {g : Int} {v : V} {qss : List (List (Int × Int))} (h : TabN H g v qss) : Dp K H v (tabD g qss) := by
  obtain ⟨T, xs, rfl, hT, hA⟩ := h
  exact .tup (sqT_of hT) (all2_dp (fun v q n => row_dp n) hA)
theorem ints_dp {K : PySem.W.Frag} {H : Hp} (ns : List Int) : DpAll K H (ns.map V.int) (ns.map PyData.int) := by
  induction ns with
  | nil => exact .nil
  | cons n ns ih => exact .cons (.int _) ih
theorem NumR.low {H : Hp} {g : Int} {v : V} {a b : Int} (h : NumR H g v a b) : 1 ≤ b ∧ (g = 0 → Nat.gcd a.natAbs b.natAbs = 1) := by
  rcases h with ⟨_, _, b1, hc⟩ | ⟨e, _, hb, _⟩
  · exact ⟨b1, fun _ => hc⟩
  · exact ⟨by omega, fun c => absurd c e⟩
/-- v != 0, a number of the ground being compared with its 0 -/
theorem num_ne0 {K : PySem.W.Frag} {H : Hp} {g : Int} {z z' : V} {x y : Int} {Q : VK} (n : NumR H g z x y) (n' : NumR H g z' 0 1) (q : Q (.bl (!decide (x = 0))) H) : rNeD K z z' H Q := by
  refine ⟨_, _, num_dp n, num_dp n', (numD_gd _ _ _).shaped (by decide), (numD_gd _ _ _).shaped (by decide), ?_⟩
  have e : PyData.eqv (numD g x y) (numD g 0 1) = decide (x = 0) := by
    unfold numD
    split
    · rename_i h
      rw [Bool.eq_iff_iff, decide_eq_true_eq]
      simp only [PyData.eqv, PyData.eqvAll, Bool.and_true, Bool.and_eq_true, beq_iff_eq]
      refine ⟨fun h => h.1, fun hx => ⟨hx, ?_⟩⟩
      have := n.low.2 h
      rw [hx] at this
      have y1 := n.low.1
      simp at this
      omega
    · rw [Bool.eq_iff_iff, decide_eq_true_eq]
      simp [PyData.eqv]
  rw [e]; exact q
/-! numbers, seen in the field -/
section
variable {F : Type} [Lean.Grind.Field F] {g : Nat} [Lean.Grind.IsCharP F g]
theorem NumR.inj {H H' : Hp} {v w : V} {a b c d : Int} (n : NumR H g v a b) (m : NumR H' g w c d) (e : Lin.val F a b = Lin.val F c d) : a = c ∧ b = d := by
  by_cases g0 : g = 0
  · subst g0
    have h1 := n.low
    have h2 := m.low
    exact Lin.cop_eq h1.1 h2.1 (h1.2 rfl) (h2.2 rfl) ((Lin.val_frac h1.1 h2.1).1 e)
  · have g1 : (g : Int) ≠ 0 := by omega
    rcases n with ⟨c, _⟩ | ⟨_, _, rfl, a0, a1⟩
    · exact absurd c g1
    · rcases m with ⟨c, _⟩ | ⟨_, _, rfl, c0, c1⟩
      · exact absurd c g1
      · rw [Lin.val_one, Lin.val_one, Lin.ph_eq g, Int.emod_eq_of_lt a0 a1, Int.emod_eq_of_lt c0 c1] at e
        exact ⟨e, rfl⟩
theorem NumR.zero_iff {H : Hp} {v : V} {a b : Int} (n : NumR H g v a b) : a = 0 ↔ Lin.val F a b = 0 := by
  constructor
  · intro e
    rw [e, Lin.val, Lin.ph_zero]; grind
  · intro e
    by_cases g0 : g = 0
    · subst g0
      have h1 := n.low
      have hb : Lin.ph F b ≠ 0 := fun h => by rw [Lin.ph_eq_zero 0] at h; simp at h; omega
      have : Lin.ph F a = 0 := by
        unfold Lin.val at e; grind
      rw [Lin.ph_eq_zero 0] at this
      simpa using this
    · have g1 : (g : Int) ≠ 0 := by omega
      rcases n with ⟨c, _⟩ | ⟨_, _, rfl, a0, a1⟩
      · exact absurd c g1
      · rw [Lin.val_one, Lin.ph_eq_zero g, Int.emod_eq_of_lt a0 a1] at e
        exact e
/-- how great a number is, by what it stands for -/
theorem NumR.szn {H : Hp} {v : V} {q : Int × Int} {B : Nat} (hg : GroundV (.int (g : Int))) (n : NumR H g v q.1 q.2) (h : Lin.Com F g B fun _ : Unit => Lin.val F q.1 q.2) (hB : 14 ≤ B) : Sz B q.1 ∧ Sz B q.2 := by
  by_cases g0 : g = 0
  · subst g0
    exact h.sz () n.low.1 (n.low.2 rfl) rfl
  · have g1 : (g : Int) ≠ 0 := by omega
    have g9 := ground_le hg
    have hp : 2 ^ 14 ≤ 2 ^ B := Nat.pow_le_pow_right (by decide) hB
    rcases n with ⟨c, _⟩ | ⟨_, _, e, a0, a1⟩
    · exact absurd c g1
    · unfold Sz
      rw [e]
      exact ⟨by omega, by have : (1 : Int).natAbs = 1 := rfl; omega⟩
theorem RowN.inj {H H' : Hp} {v w : V} {qs rs : List (Int × Int)} (n : RowN H g v qs) (m : RowN H' g w rs) (hl : qs.length = rs.length) (e : ∀ j, j < qs.length → rowF F qs j = rowF F rs j) : qs = rs := by
  obtain ⟨_, xs, _, _, hA⟩ := n
  obtain ⟨_, ys, _, _, hB⟩ := m
  refine List.ext_getElem? fun j => ?_
  by_cases hj : j < qs.length
  · have h1 := List.getElem?_eq_getElem hj
    have h2 := List.getElem?_eq_getElem (show j < rs.length by omega)
    have n1 := hA.2 j _ _ (List.getElem?_eq_getElem (show j < xs.length by rw [hA.1]; exact hj)) h1
    have n2 := hB.2 j _ _ (List.getElem?_eq_getElem (show j < ys.length by rw [hB.1]; omega)) h2
    have e2 := e j hj
    rw [rowF_at h1, rowF_at h2] at e2
    rw [h1, h2, Prod.ext_iff.mpr (n1.inj n2 e2)]
  · rw [List.getElem?_eq_none (by omega), List.getElem?_eq_none (by omega)]
theorem TabN.inj {H H' : Hp} {v w : V} {qss rss : List (List (Int × Int))} (n : TabN H g v qss) (m : TabN H' g w rss) (hl : qss.length = rss.length) (e : ∀ (i : Nat) (qs rs : List (Int × Int)), qss[i]? = some qs → rss[i]? = some rs → qs.length = rs.length ∧ ∀ j, j < qs.length → rowF F qs j = rowF F rs j) : qss = rss := by
  obtain ⟨_, xs, _, _, hA⟩ := n
  obtain ⟨_, ys, _, _, hB⟩ := m
  refine List.ext_getElem? fun j => ?_
  by_cases hj : j < qss.length
  · have h1 := List.getElem?_eq_getElem hj
    have h2 := List.getElem?_eq_getElem (show j < rss.length by omega)
    have n1 := hA.2 j _ _ (List.getElem?_eq_getElem (show j < xs.length by rw [hA.1]; exact hj)) h1
    have n2 := hB.2 j _ _ (List.getElem?_eq_getElem (show j < ys.length by rw [hB.1]; omega)) h2
    obtain ⟨e1, e2⟩ := e j _ _ h1 h2
    rw [h1, h2, n1.inj n2 e1 e2]
  · rw [List.getElem?_eq_none (by omega), List.getElem?_eq_none (by omega)]
end
/-- a list or a tuple of numbers -/
def SeqN (H : Hp) (g : Int) (b : Bool) (v : V) (qs : List (Int × Int)) : Prop := ∃ a xs, v = .ref a ∧ H a = some (if b then .lst xs else .tup xs) ∧ All2 (fun v q => NumR H g v q.1 q.2) xs qs
theorem SeqN.same {H H' : Hp} {g : Int} {b : Bool} {v : V} {qs : List (Int × Int)} (h : SeqN H g b v qs) (s : Same H H') : SeqN H' g b v qs := by
  obtain ⟨a, xs, e, ha, hA⟩ := h
  exact ⟨a, xs, e, s _ _ ha, hA.imp fun v q n => n.same s⟩
theorem RowN.seq {H : Hp} {g : Int} {v : V} {qs : List (Int × Int)} (h : RowN H g v qs) : SeqN H g false v qs := h
theorem grd8 {n : Int} (h : n = 0 ∨ n = 2 ∨ n = 3 ∨ n = 5 ∨ n = 7 ∨ n = 97 ∨ n = 9973) : GroundV (.int n) := by
  have hp : ∀ n : Int, 2 ≤ n → n < 9999 → (∀ k : Nat, k < 98 → 2 + (k : Int) < n → n % (2 + (k : Int)) ≠ 0) → PrimeI n := fun n n2 n9 h => ⟨n2, fun k k2 kn kd => by
    obtain ⟨m, e⟩ := kd
    have m1 : 1 < m := by
      refine Classical.byContradiction fun c => ?_
      have := Int.mul_le_mul_of_nonneg_left (show m ≤ 1 by omega) (show 0 ≤ k by omega)
      omega
    by_cases c : k < 100
    · exact h (k - 2).toNat (by omega) (by omega) (by
        rw [show (2 : Int) + ((k - 2).toNat : Int) = k by omega, e]
        exact Int.mul_emod_right k m)
    · have m100 : m < 100 := by
        refine Classical.byContradiction fun d => ?_
        have := Int.mul_le_mul (show (100 : Int) ≤ k by omega) (show (100 : Int) ≤ m by omega) (by decide) (by omega)
        omega
      have mn : m < n := by
        have := Int.mul_le_mul_of_nonneg_right (show 2 ≤ k by omega) (show 0 ≤ m by omega)
        omega
      exact h (m - 2).toNat (by omega) (by omega) (by
        rw [show (2 : Int) + ((m - 2).toNat : Int) = m by omega, e]
        exact Int.mul_emod_left k m)⟩
  rcases h with rfl | h
  · exact ⟨0, rfl, by decide, by decide, .inl rfl⟩
  · rcases h with rfl | rfl | rfl | rfl | rfl | rfl <;> exact ⟨_, rfl, by decide, by decide, .inr (hp _ (by decide) (by decide) (by decide +kernel))⟩
/-- over enumerate of a tuple, what is given being no new thing -/
theorem comp_ET {K : PySem.W.Frag} {a : Addr} {xs : List V} {g : TG} {tt : TT} {te : TE} {vs : List Nat} {σ : St} {H1 : Hp} {Q : VK} {outs : Nat → Option V} (hT : H1 a = some (.tup xs)) (hn : xs.length < 2 ^ 22)
    (turn : ∀ i x T H', xs[i]? = some x → Same H1 H' → H' T = some (.tup [.int (i : Nat), x]) → ∀ Qo : Option V → Hp → Prop, (∀ H2, Same H' H2 → Qo (outs i) H2) → g (.ref T) (wipe σ vs) H' fun σ2 H2 => wipe σ2 vs = wipe σ vs ∧ tt σ2 H2 fun b H3 => if b = true then te σ2 H3 fun y H4 => Qo (some y) H4 else Qo none H3)
    (fin : ∀ D H', H1 D = none → Same H1 H' → H' D = some (.lst (outL outs xs.length)) → Q (.ref D) H') : LcW (IteT K a) H1 g tt te vs σ Q := fun D hD => by
  refine ⟨fun i m H => m = xs.length - i ∧ i ≤ xs.length ∧ Same H1 H ∧ H D = some (.lst (outL outs i)), ⟨xs.length, by simp, Nat.zero_le _, same_upd hD, upd_same⟩, ?_⟩
  rintro i m H ⟨rfl, hi, s, hL⟩
  by_cases hlt : i < xs.length
  · refine .inr ⟨⟨xs, _, sqT_of (s _ _ hT), List.getElem?_eq_getElem hlt⟩, fun H => Same H1 H ∧ H D = some (.lst (outL outs (i + 1))), fun H' p' => ⟨xs.length - (i + 1), by omega, rfl, hlt, p'⟩, fun v H' y => ?_⟩
    obtain ⟨T, x, rfl, hTn, rfl, f⟩ := y
    exact turn i x T _ (f xs (sqT_of (s _ _ hT))) (s.trans (same_upd hTn)) upd_same (OutOf D fun H => Same H1 H ∧ H D = some (.lst (outL outs (i + 1)))) fun H2 s2 => out_ok hD outs hlt hn ⟨s.trans (same_upd hTn), same_upd hTn _ _ hL⟩ s2
  · obtain rfl : i = xs.length := by omega
    exact .inl ⟨⟨xs, sqT_of (s _ _ hT), rfl⟩, fin D H hD s hL⟩
theorem row_keep {D : Addr} {H H' : Hp} {g : Int} {v : V} {qs : List (Int × Int)} (dd : Dice H D) (k : Keep D H H') (n : RowN H g v qs) : RowN H' g v qs := by
  have ne : ∀ {T : Addr} {xs : List V}, H T = some (.tup xs) → T ≠ D := fun h e => by
    obtain ⟨_, _, _, h2⟩ := dd
    rw [e, h2] at h
    cases h
  obtain ⟨T, xs, e, hT, hA⟩ := n
  refine ⟨T, xs, e, k _ _ (ne hT) hT, hA.imp fun v q m => ?_⟩
  rcases m with ⟨c, ⟨p, e2, hp⟩, r⟩ | h
  · exact .inl ⟨c, ⟨p, e2, k _ _ (ne hp) hp⟩, r⟩
  · exact .inr h
theorem num_keep {D : Addr} {H H' : Hp} {g : Int} {v : V} {a b : Int} (dd : Dice H D) (k : Keep D H H') (n : NumR H g v a b) : NumR H' g v a b := by
  rcases n with ⟨e, ⟨p, e2, hp⟩, r⟩ | h
  · refine .inl ⟨e, ⟨p, e2, k _ _ (fun c => ?_) hp⟩, r⟩
    obtain ⟨_, _, _, h⟩ := dd
    rw [c, h] at hp
    cases hp
  · exact .inr h
theorem tab_keep {D : Addr} {H H' : Hp} {g : Int} {v : V} {qss : List (List (Int × Int))} (dd : Dice H D) (k : Keep D H H') (n : TabN H g v qss) : TabN H' g v qss := by
  obtain ⟨T, xs, e, hT, hA⟩ := n
  refine ⟨T, xs, e, k _ _ (fun e => ?_) hT, hA.imp fun v q m => row_keep dd k m⟩
  obtain ⟨_, _, _, h2⟩ := dd
  rw [e, h2] at hT
  cases hT
theorem kmut {D F : Addr} {H H' : Hp} {o : HO} (k : Keep D H H') (h : H F = none) : Keep D H (upd H' F o) := fun b u n e => by
  rw [upd_ne (ne_of_none e h)]; exact k b u n e
theorem dmut {D F : Addr} {H : Hp} {o : HO} (d : Dice H D) (h : D ≠ F) : Dice (upd H F o) D := by
  obtain ⟨x, y, z, e⟩ := d
  exact ⟨x, y, z, by rw [upd_ne h]; exact e⟩
theorem Dice.ne {H : Hp} {d p : Addr} (h : Dice H d) (hp : H p = none) : d ≠ p := by
  obtain ⟨_, _, _, e⟩ := h
  exact ne_of_none e hp
/-- a comprehension over a range, dice being rolled -/
theorem comp_RD {α : Type} {P : Hp → V → α → Prop} {S : Nat → α → Prop} {H1 : Hp} {g : TG} {te : TE} {vs : List Nat} {σ : St} {Q : VK} {lo : Int} {n : Nat} {d : Addr} (st : Stay P) (kp : ∀ {H H' : Hp} {v : V} {a : α}, Dice H d → Keep d H H' → P H v a → P H' v a) (hd : Dice H1 d) (hn : n < 2 ^ 20)
    (turn : ∀ i H', i < n → Keep d H1 H' → Dice H' d → ∀ Qo : VK, (∀ H2 y a, Keep d H' H2 → Dice H2 d → P H2 y a → S i a → Qo y H2) → g (.int (lo + i)) (wipe σ vs) H' fun σ2 H2 => wipe σ2 vs = wipe σ vs ∧ te σ2 H2 Qo)
    (fin : ∀ D H' zs as, H1 D = none → Keep d H1 H' → Dice H' d → H' D = some (.lst zs) → All2 (P H') zs as → as.length = n → (∀ (k : Nat) (a : α), as[k]? = some a → S k a) → Q (.ref D) H') : LcW (Itr lo n) H1 g tYes te vs σ Q := fun D hD => by
  have dD := hd.ne hD
  refine lc_range (lo := lo) (n := n) (fun i H' => Keep d H1 H' ∧ Dice H' d ∧ ∃ (zs : List V) (as : List α), H' D = some (.lst zs) ∧ All2 (P H') zs as ∧ as.length = i ∧ ∀ (k : Nat) (a : α), as[k]? = some a → S k a)
    ⟨(Keep.refl d H1).new hD, hd.same (same_upd hD), [], [], upd_same, ⟨rfl, fun i v q a b => by simp at a⟩, rfl, fun k a h => by simp at h⟩ (fun i H' hi p => ?_) (fun H' ⟨k, d1, zs, as, hz, hA, hl, hS⟩ => fin D H' zs as hD k d1 hz hA hl hS)
  obtain ⟨k, d1, zs, as, hz, hA, hl, hS⟩ := p
  refine turn i H' hi k d1 _ fun H2 y a k2 d2 hp hs => ?_
  have hz2 := k2 _ _ dD.symm hz
  refine ⟨zs, hz2, by rw [hA.1, hl]; exact Nat.lt_of_lt_of_le (show i < 2 ^ 20 by omega) (by decide), kmut (k.trans k2) hD, dmut d2 dD, zs ++ [y], as ++ [a], upd_same, (hA.imp fun v q n => st.upd (kp d1 k2 n) hz2).push (st.upd hp hz2), by simp [hl], fun k b hk => ?_⟩
  by_cases e : k < as.length
  · rw [List.getElem?_append_left e] at hk
    exact hS k b hk
  · have hlt := (List.getElem?_eq_some_iff.mp hk).1
    simp at hlt
    have e2 : k = as.length := by omega
    subst e2
    rw [List.getElem?_append_right (Nat.le_refl _)] at hk
    simp at hk
    subst hk
    rw [hl]; exact hs
/-- as comp_RA, the new things being lists -/
theorem comp_RL {α : Type} {P : Hp → V → α → Prop} {S : Nat → α → Prop} {H1 : Hp} {g : TG} {te : TE} {vs : List Nat} {σ : St} {Q : VK} {lo : Int} {n : Nat} (st : (∀ {H H' : Hp} {v : V} {a : α}, P H v a → Same H H' → P H' v a) ∧ ∀ {H : Hp} {D : Addr} {o : HO} {v : V} {a : α}, P H v a → v ≠ .ref D → (∃ zs, H D = some (.lst zs)) → P (L2.upd H D o) v a) (hn : n < 2 ^ 20)
    (turn : ∀ D zs i H', H' D = some (.lst zs) → i < n → Same H1 H' → ∀ Qo : VK, (∀ H2 y a, Same H' H2 → P H2 y a → y ≠ .ref D → S i a → Qo y H2) → g (.int (lo + i)) (wipe σ vs) H' fun σ2 H2 => wipe σ2 vs = wipe σ vs ∧ te σ2 H2 Qo)
    (fin : ∀ D H' zs as, H1 D = none → Same H1 H' → H' D = some (.lst zs) → All2 (P H') zs as → as.length = n → (∀ (k : Nat) (a : α), as[k]? = some a → S k a) → Q (.ref D) H') : LcW (Itr lo n) H1 g tYes te vs σ Q := fun D hD => by
  refine lc_range (lo := lo) (n := n) (fun i H' => Same H1 H' ∧ ∃ (zs : List V) (as : List α), H' D = some (.lst zs) ∧ All2 (P H') zs as ∧ (∀ v ∈ zs, v ≠ .ref D) ∧ as.length = i ∧ ∀ (k : Nat) (a : α), as[k]? = some a → S k a)
    ⟨same_upd hD, [], [], upd_same, ⟨rfl, fun i v q a b => by simp at a⟩, by simp, rfl, fun k a h => by simp at h⟩ (fun i H' hi p => ?_) (fun H' ⟨s, zs, as, hz, hA, _, hl, hS⟩ => fin D H' zs as hD s hz hA hl hS)
  obtain ⟨s, zs, as, hz, hA, hne, hl, hS⟩ := p
  refine turn D zs i H' hz hi s _ fun H2 y a s2 hp hy hs => ?_
  have hz2 := s2 _ _ hz
  refine ⟨zs, hz2, by rw [hA.1, hl]; exact Nat.lt_of_lt_of_le (show i < 2 ^ 20 by omega) (by decide), same_mutD (s.trans s2) hD, zs ++ [y], as ++ [a], upd_same, All2.push ⟨hA.1, fun k v q h1 h2 => st.2 (st.1 (hA.2 k v q h1 h2) s2) (hne v (List.mem_of_getElem? h1)) ⟨_, hz2⟩⟩ (st.2 hp hy ⟨_, hz2⟩), fun v hv => ?_, by simp [hl], fun k b hk => ?_⟩
  · rcases List.mem_append.mp hv with hv | hv
    · exact hne v hv
    · rw [List.mem_singleton.mp hv]; exact hy
  · by_cases e : k < as.length
    · rw [List.getElem?_append_left e] at hk
      exact hS k b hk
    · have hlt := (List.getElem?_eq_some_iff.mp hk).1
      simp at hlt
      have e2 : k = as.length := by omega
      subst e2
      rw [List.getElem?_append_right (Nat.le_refl _)] at hk
      simp at hk
      subst hk
      rw [hl]; exact hs
theorem stay_lst {g : Int} : (∀ {H H' : Hp} {v : V} {a : List (Int × Int)}, SeqN H g true v a → Same H H' → SeqN H' g true v a) ∧ ∀ {H : Hp} {D : Addr} {o : HO} {v : V} {a : List (Int × Int)}, SeqN H g true v a → v ≠ .ref D → (∃ zs, H D = some (.lst zs)) → SeqN (L2.upd H D o) g true v a := by
  refine ⟨fun h s => h.same s, fun h hv hD => ?_⟩
  obtain ⟨a, xs, rfl, ha, hA⟩ := h
  obtain ⟨zs, hD⟩ := hD
  exact ⟨a, xs, rfl, by rw [upd_ne (fun e => hv (by rw [e]))]; exact ha, hA.imp fun v q n => n.updL hD⟩
theorem bez : ∀ a b : Nat, ∃ u v : Int, (a : Int) * u + b * v = (Nat.gcd a b : Nat) := by
  intro a b
  induction a, b using Nat.gcd.induction with
  | H0 n => exact ⟨0, 1, by simp⟩
  | H1 m n hm ih =>
    obtain ⟨u, v, h⟩ := ih
    refine ⟨v - (n / m : Nat) * u, u, ?_⟩
    rw [Nat.gcd_rec, ← h]
    have e : ((n % m : Nat) : Int) = n - m * (n / m : Nat) := by
      have := Nat.div_add_mod n m
      have h2 : (n : Int) = m * (n / m : Nat) + (n % m : Nat) := by exact_mod_cast this.symm
      omega
    rw [e, Int.mul_sub, Int.sub_mul, Int.mul_assoc]
    omega
theorem ground_F {g : Nat} (hg : GroundV (.int (g : Int))) : ∃ (F : Type) (_ : Lean.Grind.Field F), Lean.Grind.IsCharP F g := by
  refine Lin.ground_field g fun g0 => ?_
  obtain ⟨n, e, _, _, h | h⟩ := hg
  · cases e; omega
  · cases e
    have h2 := h.1
    refine ⟨by omega, fun a a0 ag => ?_⟩
    have hc : Nat.gcd a g = 1 := by
      refine Classical.byContradiction fun hne => ?_
      have hg0 : Nat.gcd a g ≠ 0 := Nat.pos_iff_ne_zero.mp (Nat.gcd_pos_of_pos_left _ a0)
      have hle : Nat.gcd a g ≤ a := Nat.le_of_dvd a0 (Nat.gcd_dvd_left _ _)
      exact h.2 ((Nat.gcd a g : Nat) : Int) (by omega) (by omega) (Int.natCast_dvd_natCast.mpr (Nat.gcd_dvd_right a g))
    obtain ⟨u, v, e⟩ := bez a g
    rw [hc] at e
    refine ⟨(u % (g : Int)).toNat, ?_⟩
    have h3 := Int.emod_nonneg u (show (g : Int) ≠ 0 by omega)
    have h4 : ((a * (u % (g : Int)).toNat % g : Nat) : Int) = 1 := by
      rw [Int.natCast_emod, Int.natCast_mul, Int.toNat_of_nonneg h3, Int.mul_emod, Int.emod_emod_of_dvd u (Int.dvd_refl _), ← Int.mul_emod]
      rw [show (a : Int) * u = 1 + (g : Int) * (-v) by rw [Int.mul_neg]; omega, Int.add_mul_emod_self_left]
      exact Int.emod_eq_of_lt (by decide) (by omega)
    omega
theorem ipow_pos {a : Int} (h : 1 ≤ a) : ∀ n : Nat, 1 ≤ a ^ n
  | 0 => by simp
  | n + 1 => by
    rw [Int.pow_succ]
    exact Int.le_trans (ipow_pos h n) (le_mul1 (by have := ipow_pos h n; omega) h)
theorem ipow_left {a b : Int} (h : 1 ≤ a) (hb : a ≤ b) : ∀ n : Nat, a ^ n ≤ b ^ n
  | 0 => by simp
  | n + 1 => by
    rw [Int.pow_succ, Int.pow_succ]
    exact Int.mul_le_mul (ipow_left h hb n) hb (by omega) (by have := ipow_pos (show 1 ≤ b by omega) n; omega)
theorem ipow_right {b : Int} (h : 1 ≤ b) {m n : Nat} (hn : m ≤ n) : b ^ m ≤ b ^ n := by
  obtain ⟨k, rfl⟩ := Nat.exists_eq_add_of_le hn
  rw [Int.pow_add]
  exact le_mul1 (by have := ipow_pos h m; omega) (ipow_pos h k)
theorem filter_split {α : Type} (p : α → Bool) : ∀ l : List α, (l.filter p).length + (l.filter fun x => !p x).length = l.length
  | [] => rfl
  | x :: l => by
    have := filter_split p l
    cases h : p x <;> simp [h] <;> omega

theorem ground_not1 {g : Int} (hg : GroundV (.int g)) : g ≠ 1 := by
  obtain ⟨n, e, _, _, h | h⟩ := hg
  · cases e; omega
  · cases e; have := h.1; omega
section
variable {F : Type} [Lean.Grind.Field F] {g : Nat}
def Bnd (F : Type) [Lean.Grind.Field F] (g : Nat) (D : Int) (N : Nat) (x : F) : Prop := g = 0 → ∃ n : Int, x * Lin.ph F D = Lin.ph F n ∧ n.natAbs ≤ N
def BndT (F : Type) [Lean.Grind.Field F] (g : Nat) (D : Int) (N : Nat) (qss : List (List (Int × Int))) : Prop := ∀ qs ∈ qss, ∀ j, Bnd F g D N (rowF F qs j)
theorem bnd_com {D : Int} {N B : Nat} {ι : Type} {x : ι → F} (hD : g = 0 → Lin.ph F D ≠ 0) (h1 : D.natAbs < 2 ^ B) (h2 : N < 2 ^ B) (h : ∀ i, Bnd F g D N (x i)) : Lin.Com F g B x := fun g0 =>
  ⟨D, hD g0, h1, fun i => by obtain ⟨n, a, b⟩ := h i g0; exact ⟨n, a, by omega⟩⟩
theorem ph_ne [Lean.Grind.IsCharP F g] {D : Int} (h : D ≠ 0) : g = 0 → Lin.ph F D ≠ 0 := fun g0 e => by
  subst g0
  rw [Lin.ph_eq_zero 0] at e
  simp at e
  exact h e
theorem prI_le {D : Int} (hD : 1 ≤ D) : ∀ {l : List Int}, (∀ n ∈ l, 1 ≤ n ∧ n ≤ D) → prI l ≤ D ^ l.length
  | [], _ => by simp [prI]
  | n :: l, h => by
    have h1 := h n (by simp)
    have h2 := prI_le hD (l := l) fun m hm => h m (by simp [hm])
    have h3 : 1 ≤ prI l := prI_pos fun m hm => (h m (by simp [hm])).1
    rw [List.length_cons, Int.pow_succ]
    simp only [prI]
    have := Int.mul_le_mul h1.2 h2 (by omega) (by omega)
    rw [Int.mul_comm (D ^ l.length) D]
    exact this
theorem row_num {H : Hp} {v : V} {qs : List (Int × Int)} (h : RowN H g v qs) {q : Int × Int} (hq : q ∈ qs) : ∃ w, NumR H g w q.1 q.2 := by
  obtain ⟨T, xs, _, _, hA⟩ := h
  obtain ⟨i, hi⟩ := List.mem_iff_getElem?.mp hq
  have hlt := (List.getElem?_eq_some_iff.mp hi).1
  exact ⟨_, hA.2 i _ q (List.getElem?_eq_getElem (by rw [hA.1]; exact hlt)) hi⟩
theorem tab_row {H : Hp} {v : V} {qss : List (List (Int × Int))} (h : TabN H g v qss) {qs : List (Int × Int)} (hq : qs ∈ qss) : ∃ w, RowN H g w qs := by
  obtain ⟨T, xs, _, _, hA⟩ := h
  obtain ⟨i, hi⟩ := List.mem_iff_getElem?.mp hq
  have hlt := (List.getElem?_eq_some_iff.mp hi).1
  exact ⟨_, hA.2 i _ qs (List.getElem?_eq_getElem (by rw [hA.1]; exact hlt)) hi⟩
theorem turn_at {qss : List (List (Int × Int))} {W : Nat} (hW : ∀ qs ∈ qss, qs.length = W) {j : Nat} (hj : j < W) (i : Nat) : rowF F (qss.map fun qs => qs.getD j (0, 1)) i = atF F qss i j := by
  by_cases hi : i < qss.length
  · have h1 := List.getElem?_eq_getElem hi
    rw [atF_at h1]
    have hw := hW _ (List.getElem_mem hi)
    have h2 := List.getElem?_eq_getElem (show j < qss[i].length by omega)
    rw [rowF_at h2]
    refine rowF_at ?_
    rw [List.getElem?_map, h1, Option.map_some, Lin.getD_some h2]
  · rw [rowF_no (by simp; omega)]
    unfold atF
    rw [List.getD_eq_getElem?_getD, List.getElem?_eq_none (by omega)]
    rfl
theorem turn_bnd {qss : List (List (Int × Int))} {W N : Nat} {D : Int} (hW : ∀ qs ∈ qss, qs.length = W) (hB : BndT F g D N qss) : BndT F g D N (turnQ qss W) := fun qs hq i => by
  obtain ⟨j, hj, rfl⟩ := List.mem_map.mp hq
  rw [turn_at hW (by simpa using hj)]
  by_cases hi : i < qss.length
  · rw [atF_at (List.getElem?_eq_getElem hi)]
    exact hB _ (List.getElem_mem hi) j
  · unfold atF
    rw [List.getD_eq_getElem?_getD, List.getElem?_eq_none (by omega)]
    exact fun _ => ⟨0, by rw [Lin.ph_zero]; show rowF F [] j * _ = 0; rw [rowF_no (by simp)]; grind, by simp⟩
variable [Lean.Grind.IsCharP F g]
theorem num_bnd {H : Hp} {v : V} {q : Int × Int} {D : Int} {N : Nat} (hg : GroundV (.int (g : Int))) (n : NumR H g v q.1 q.2) (hD : 1 ≤ D) (h : Bnd F g D N (Lin.val F q.1 q.2)) : q.1.natAbs ≤ max N 9999 ∧ 1 ≤ q.2 ∧ q.2 ≤ D := by
  by_cases g0 : g = 0
  · subst g0
    obtain ⟨m, e, hm⟩ := h rfl
    have h1 := n.low
    have hc := h1.2 rfl
    have hb0 : Lin.ph F q.2 ≠ 0 := fun h => by rw [Lin.ph_eq_zero 0] at h; simp at h; omega
    have e2 : q.1 * D = m * q.2 := by
      rw [← Lin.ph_inj (F := F), Lin.ph_mul, Lin.ph_mul, ← e, Lin.val]; grind
    have e3 := congrArg Int.natAbs e2
    rw [Int.natAbs_mul, Int.natAbs_mul] at e3
    have d1 : q.2.natAbs ∣ D.natAbs := by
      have : q.2.natAbs ∣ q.1.natAbs * D.natAbs := by rw [e3]; exact Nat.dvd_mul_left _ _
      exact (Nat.Coprime.symm hc).dvd_of_dvd_mul_left this
    have d2 : q.1.natAbs ∣ m.natAbs := by
      have : q.1.natAbs ∣ m.natAbs * q.2.natAbs := by rw [← e3]; exact Nat.dvd_mul_right _ _
      exact Nat.Coprime.dvd_of_dvd_mul_right hc this
    have l1 := Nat.le_of_dvd (by omega) d1
    refine ⟨?_, h1.1, by omega⟩
    by_cases hn : m = 0
    · subst hn
      have : q.1.natAbs * D.natAbs = 0 := by rw [e3]; simp
      have := (Nat.mul_eq_zero.mp this).resolve_right (by omega)
      omega
    · have := Nat.le_of_dvd (by omega) d2
      omega
  · have g1 : (g : Int) ≠ 0 := by omega
    have g9 := ground_le hg
    rcases n with ⟨c, _⟩ | ⟨_, _, e, a0, a1⟩
    · exact absurd c g1
    · omega
end
open LamX in
/-- what _law_fault makes of what it calls -/
def TMet (K : PySem.W.Frag) : (XK → Hp → VK → Prop) → Hp → VK → Prop := fun tl H Q =>
  tl (fun cls d H' =>
    (cls = .ref (He.ga K "InvalidGround") ∧ ∃ (dd : Addr) (v : V) (z : Str), d = some dd ∧ H' dd = some (.xd [("value", v)]) ∧ RepV K H' v z ∧ ("ground " : Str).length + z.length ≤ sizeLine ∧ ∀ p, H' p = none → Q (.ref p) (upd H' p (.tup [.str "raised", .str (("ground " : Str) ++ z)]))) ∨
    (cls = .ref (He.ga K "InvalidTable") ∧ ∀ p, H' p = none → Q (.ref p) (upd H' p (.tup [.str "raised", .str "table"]))) ∨
    (cls = .ref (He.ga K "InvalidOperation") ∧ ∀ p, H' p = none → Q (.ref p) (upd H' p (.tup [.str "raised", .str "operation"]))) ∨
    (cls = .ref (He.ga K "InvalidNumber") ∧ ∃ (dd : Addr) (v : V) (z : Str), d = some dd ∧ H' dd = some (.xd [("given", v)]) ∧ RepV K H' v z ∧ ("number " : Str).length + z.length ≤ sizeLine ∧ ∀ p, H' p = none → Q (.ref p) (upd H' p (.tup [.str "raised", .str (("number " : Str) ++ z)]))) ∨
    (cls = .ref (He.ga K "Refused") ∧ ∃ (dd : Addr) (v : V) (z : Str), d = some dd ∧ H' dd = some (.xd [("reason", v)]) ∧ RepV K H' v z ∧ ("refused " : Str).length + z.length ≤ sizeLine ∧ ∀ p, H' p = none → Q (.ref p) (upd H' p (.tup [.str "raised", .str (("refused " : Str) ++ z)]))))
    H (fun _ H' => [V.str "let", V.str ""].length ≤ sizeLine ∧ ∀ p, H' p = none → Q (.ref p) (upd H' p (.tup [.str "let", .str ""])))
open LamX in
theorem met_gives {X : Cx} (T : Tx X.K X.mg) (hgd : X.A.guards = some []) {cdv : Value} {k : Nat} (hr2 : Room (k + 1) (X.A.deeper (envOfC "_law_fault" (defScope s__law_fault) 0 (He.ga X.K "_law_fault") cdv))) {q : Str} :
    GivesTo X ["call", "error"] "_law_fault" (defScope s__law_fault) (He.ga X.K "_law_fault") cdv (defBody s__law_fault) "call" q (TMet X.K) := by
  have hf_repr := T.n_repr
  have hu : X.A.units + 3 + 80 < cLine := hu80_of hr2
  intro f c' s H Q tl act hc h
  refine ⟨_, pss_cons (ps_try_mix (X := (cxOf C8.CX0 X.prog X.w X.K X.mg X.base ["call", "error"] "_law_fault" (defScope s__law_fault) (He.ga X.K "_law_fault") cdv X.A X.stack s H C8.E0).nox)
      (tb := fun W D σ H => ∃ Ech : XK, (∀ cls d σ' H', σ'.length = 2 → Ech cls d H' → W cls d σ' H') ∧ σ[0]? = some (some (.ref f)) ∧ H c' = some (CodeO c' q) ∧ tl Ech H fun _ H' => D.nx σ H')
      rfl rfl takes0 (fun W pn xe tk _ => ?_)
      (Cls1.named (i := 1) (c := .ref (He.ga X.K "InvalidGround")) ⟨rfl, by decide, .inl T.x_InvalidGround.gC⟩ sc__law_fault.nd rfl rfl
        (fun a oe cls d pn hz hf => pss_one (ps_ret (pe_tup (pa_cons pe_str (pa_cons (pe_op op_add_str pe_str (pe_callB (call_repV2 (K := X.K) rfl hgd hu) (by rfl) hf_repr (by decide +kernel) (pa_cons (pe_field1 T.x_InvalidGround hz hf (pv 1)) pa_nil))) pa_nil)))))
        (Cls1.bare (c := .ref (He.ga X.K "InvalidTable")) ⟨rfl, by decide, .inl T.e_InvalidTable.1⟩ (fun a oe cls d pn hz hf => pss_one (ps_ret (pe_tup (pa_cons pe_str (pa_cons pe_str pa_nil)))))
        (Cls1.bare (c := .ref (He.ga X.K "InvalidOperation")) ⟨rfl, by decide, .inl T.e_InvalidOperation.1⟩ (fun a oe cls d pn hz hf => pss_one (ps_ret (pe_tup (pa_cons pe_str (pa_cons pe_str pa_nil)))))
        (Cls1.named (i := 1) (c := .ref (He.ga X.K "InvalidNumber")) ⟨rfl, by decide, .inl T.x_InvalidNumber.gC⟩ sc__law_fault.nd rfl rfl
        (fun a oe cls d pn hz hf => pss_one (ps_ret (pe_tup (pa_cons pe_str (pa_cons (pe_op op_add_str pe_str (pe_callB (call_repV2 (K := X.K) rfl hgd hu) (by rfl) hf_repr (by decide +kernel) (pa_cons (pe_field1 T.x_InvalidNumber hz hf (pv 1)) pa_nil))) pa_nil)))))
        (Cls1.named (i := 1) (c := .ref (He.ga X.K "Refused")) ⟨rfl, by decide, .inl T.x_Refused.gC⟩ sc__law_fault.nd rfl rfl
        (fun a oe cls d pn hz hf => pss_one (ps_ret (pe_tup (pa_cons pe_str (pa_cons (pe_op op_add_str pe_str (pe_callB (call_repV2 (K := X.K) rfl hgd hu) (by rfl) hf_repr (by decide +kernel) (pa_cons (pe_field1 T.x_Refused hz hf (pv 1)) pa_nil))) pa_nil)))))
        .nil))))))
      (pss_one (ps_ret (pe_tup (pa_cons pe_str (pa_cons pe_str pa_nil))))), ?_⟩
  · refine ⟨fun pins s' σ H' D I h' => ?_⟩
    obtain ⟨Ech, hW, h1, h2, h3⟩ := h'
    have hp := fun p1 p2 => act _ pn xe Ech p1 p2 (takes_len tk) (fun cls d σ' H' e hl => hW cls d σ' H' hl e)
    exact (pss_one (ps_expr (hp _ _))).run pins s' σ H' D I ⟨h1, h2, h3⟩
  · refine ⟨_, fun cls d σ' H' hl e => ?_, rfl, hc, h⟩
    obtain ⟨o1, o2, rfl⟩ : ∃ o1 o2, σ' = [o1, o2] := by
      match σ', hl with
      | [a, b], _ => exact ⟨a, b, rfl⟩
    rcases e with ⟨rfl, dd, v, z, rfl, hd, hz, hlen, hQ⟩ | ⟨rfl, hQ⟩ | ⟨rfl, hQ⟩ | ⟨rfl, dd, v, z, rfl, hd, hz, hlen, hQ⟩ | ⟨rfl, dd, v, z, rfl, hd, hz, hlen, hQ⟩
    · refine ⟨true, T.m_InvalidGround_InvalidGround, fun _ a na => ?_, fun z => (by cases z)⟩
      exact ⟨.ref a, rfl, rfl, rfl, dd, v, rfl, hd, v, z, rfl, hz, _, _, rfl, rfl, hlen, (show 2 ≤ sizeLine by decide), fun p hp => hQ p hp⟩
    · refine ⟨false, T.m_InvalidTable_InvalidGround, fun z => (by cases z), fun _ => ⟨true, T.m_InvalidTable_InvalidTable, fun _ a na => ?_, fun z => (by cases z)⟩⟩
      exact ⟨by decide, fun p hp => hQ p hp⟩
    · refine ⟨false, T.m_InvalidOperation_InvalidGround, fun z => (by cases z), fun _ => ⟨false, T.m_InvalidOperation_InvalidTable, fun z => (by cases z), fun _ => ⟨true, T.m_InvalidOperation_InvalidOperation, fun _ a na => ?_, fun z => (by cases z)⟩⟩⟩
      exact ⟨by decide, fun p hp => hQ p hp⟩
    · refine ⟨false, T.m_InvalidNumber_InvalidGround, fun z => (by cases z), fun _ => ⟨false, T.m_InvalidNumber_InvalidTable, fun z => (by cases z), fun _ => ⟨false, T.m_InvalidNumber_InvalidOperation, fun z => (by cases z), fun _ => ⟨true, T.m_InvalidNumber_InvalidNumber, fun _ a na => ?_, fun z => (by cases z)⟩⟩⟩⟩
      exact ⟨.ref a, rfl, rfl, rfl, dd, v, rfl, hd, v, z, rfl, hz, _, _, rfl, rfl, hlen, (show 2 ≤ sizeLine by decide), fun p hp => hQ p hp⟩
    · refine ⟨false, T.m_Refused_InvalidGround, fun z => (by cases z), fun _ => ⟨false, T.m_Refused_InvalidTable, fun z => (by cases z), fun _ => ⟨false, T.m_Refused_InvalidOperation, fun z => (by cases z), fun _ => ⟨false, T.m_Refused_InvalidNumber, fun z => (by cases z), fun _ => ⟨true, T.m_Refused_Refused, fun _ a na => ?_, fun z => (by cases z)⟩⟩⟩⟩⟩
      exact ⟨.ref a, rfl, rfl, rfl, dd, v, rfl, hd, v, z, rfl, hz, _, _, rfl, rfl, hlen, (show 2 ≤ sizeLine by decide), fun p hp => hQ p hp⟩
/-- shown behind a word -/
def shwOk (w : Str) (d : PyData) : Bool := repOk d && decide (w.length + d.shown.length ≤ sizeLine) && PyData.strOk (w ++ d.shown)
theorem met_ground {K : PySem.W.Frag} {no : List Addr} {d : PyData} {v : V} {H : Hp} {Q : VK} {tl : XK → Hp → VK → Prop} (p : Pl H no d v) (r : shwOk "ground " d = true) (h : ∀ E Q', RaiseF K E H "InvalidGround" "value" v → tl E H Q')
    (hq : ∀ q H', Same H H' → H' q = some (.tup [.str "raised", .str (("ground " : Str) ++ d.shown)]) → Q (.ref q) H') : TMet K tl H Q := by
  unfold shwOk at r
  rw [Bool.and_eq_true, Bool.and_eq_true, decide_eq_true_eq] at r
  refine h _ _ fun H' dd s hd => .inl ⟨rfl, dd, v, d.shown, rfl, upd_same, ((p.same s).same (same_upd hd)).rep r.1.1, r.1.2, fun q hn => ?_⟩
  exact hq q _ (s.trans (same_new (same_upd hd) hn)) upd_same
theorem met_table {K : PySem.W.Frag} {H : Hp} {Q : VK} {tl : XK → Hp → VK → Prop} (h : ∀ E Q', Raise0 K E H "InvalidTable" → tl E H Q')
    (hq : ∀ q H', Same H H' → H' q = some (.tup [.str "raised", .str "table"]) → Q (.ref q) H') : TMet K tl H Q := by
  refine h _ _ fun H' s => .inr (.inl ⟨rfl, fun q hn => ?_⟩)
  exact hq q _ (same_new s hn) upd_same
theorem met_oper {K : PySem.W.Frag} {H : Hp} {Q : VK} {tl : XK → Hp → VK → Prop} (h : ∀ E Q', Raise0 K E H "InvalidOperation" → tl E H Q')
    (hq : ∀ q H', Same H H' → H' q = some (.tup [.str "raised", .str "operation"]) → Q (.ref q) H') : TMet K tl H Q := by
  refine h _ _ fun H' s => .inr (.inr (.inl ⟨rfl, fun q hn => ?_⟩))
  exact hq q _ (same_new s hn) upd_same
theorem met_number {K : PySem.W.Frag} {no : List Addr} {d : PyData} {v : V} {H : Hp} {Q : VK} {tl : XK → Hp → VK → Prop} (p : Pl H no d v) (r : shwOk "number " d = true) (h : ∀ E Q', RaiseF K E H "InvalidNumber" "given" v → tl E H Q')
    (hq : ∀ q H', Same H H' → H' q = some (.tup [.str "raised", .str (("number " : Str) ++ d.shown)]) → Q (.ref q) H') : TMet K tl H Q := by
  unfold shwOk at r
  rw [Bool.and_eq_true, Bool.and_eq_true, decide_eq_true_eq] at r
  refine h _ _ fun H' dd s hd => .inr (.inr (.inr (.inl ⟨rfl, dd, v, d.shown, rfl, upd_same, ((p.same s).same (same_upd hd)).rep r.1.1, r.1.2, fun q hn => ?_⟩)))
  exact hq q _ (s.trans (same_new (same_upd hd) hn)) upd_same
theorem met_flat {K : PySem.W.Frag} {H : Hp} {Q : VK} {tl : XK → Hp → VK → Prop} (h : ∀ E Q', (∀ H1 T dd, Same H H1 → H1 T = some (.tup [.str "flat"]) → H1 dd = none → E (.ref (He.ga K "Refused")) (some dd) (upd H1 dd (.xd [("reason", .ref T)]))) → tl E H Q')
    (hq : ∀ q H', Same H H' → H' q = some (.tup [.str "raised", .str "refused ('flat',)"]) → Q (.ref q) H') : TMet K tl H Q := by
  have p : ∀ {H1 : Hp} {T : Addr}, H1 T = some (.tup [.str "flat"]) → Pl H1 [] (.tuple [.str "flat"]) (.ref T) := fun {H1 T} hT => by
    rw [Pl]
    refine ⟨T, _, rfl, by simp, hT, ?_⟩
    rw [PlAll]
    exact ⟨_, _, rfl, by rw [Pl], by rw [PlAll]⟩
  refine h _ _ fun H' T dd s hT hd => .inr (.inr (.inr (.inr ⟨rfl, dd, .ref T, (PyData.tuple [.str "flat"]).shown, rfl, upd_same, ((p hT).same (same_upd hd)).rep (by decide +kernel), by decide +kernel, fun q hn => ?_⟩)))
  refine hq q _ (s.trans (same_new (same_upd hd) hn)) ?_
  rw [upd_same]
  exact congrArg (fun x : Str => some (HO.tup [V.str "raised", V.str x])) (by decide +kernel)
theorem met_let {K : PySem.W.Frag} {H : Hp} {Q : VK} {tl : XK → Hp → VK → Prop} (h : ∀ E Q', (∀ v H', Same H H' → Q' v H') → tl E H Q')
    (hq : ∀ q H', Same H H' → H' q = some (.tup [.str "let", .str ""]) → Q (.ref q) H') : TMet K tl H Q := by
  refine h _ _ fun v H' s => ⟨by decide, fun q hn => ?_⟩
  exact hq q _ (same_new s hn) upd_same
/-- v is the plain d, may be shown -/
def Odd (H : Hp) (no : List Addr) (v : V) (d : PyData) : Prop := Pl H no d v ∧ True
/-- what stays the same behind the picks -/
structure Cxt (K : PySem.W.Frag) (D : Addr) (H0 : Hp) (no : List Addr) (vs : List (V × PyData)) (H : Hp) : Prop where
  kn : KN (D :: no) H0 H
  tb : LamX.Tabs (Ts K) H
  dice : Dice H D
  dn : D ∉ no
  odd : ∀ q ∈ vs, Odd H (D :: no) q.1 q.2
theorem Dice.ext {H H1 : Hp} {D : Addr} (h : Dice H D) (e : LamX.ExtN H H1) : Dice H1 D := by
  obtain ⟨x, y, z, h⟩ := h
  exact ⟨x, y, z, e D _ h (fun _ w => by cases w)⟩
theorem Cxt.ext {K : PySem.W.Frag} {D : Addr} {H0 H H1 : Hp} {no : List Addr} {vs : List (V × PyData)} (c : Cxt K D H0 no vs H) (e : LamX.ExtN H H1) (t : LamX.Tabs (Ts K) H1) : Cxt K D H0 no vs H1 :=
  ⟨c.kn.trans (KN.ext e), t, c.dice.ext e, c.dn, fun q hq => ⟨(c.odd q hq).1.mono (KN.ext e), (c.odd q hq).2⟩⟩
theorem Cxt.same {K : PySem.W.Frag} {D : Addr} {H0 H H1 : Hp} {no : List Addr} {vs : List (V × PyData)} (c : Cxt K D H0 no vs H) (e : Same H H1) : Cxt K D H0 no vs H1 := c.ext (ExtN.same e) (c.tb.ext fun b o h => e b o h)
theorem Cxt.keep {K : PySem.W.Frag} {D : Addr} {H0 H H1 : Hp} {no : List Addr} {vs : List (V × PyData)} (c : Cxt K D H0 no vs H) (k : Keep D H H1) (d : Dice H1 D) : Cxt K D H0 no vs H1 := by
  have kn : KN (D :: no) H H1 := fun b o n e _ => k b o (fun z => n (z ▸ List.mem_cons_self)) e
  obtain ⟨x, y, z, hd⟩ := c.dice
  exact ⟨c.kn.trans kn, Tabs.keep c.tb hd k, d, c.dn, fun q hq => ⟨(c.odd q hq).1.mono kn, (c.odd q hq).2⟩⟩
/-- a list that is made, and may change -/
theorem Cxt.list {K : PySem.W.Frag} {D L : Addr} {H0 H : Hp} {no : List Addr} {vs : List (V × PyData)} {xs : List V} (c : Cxt K D H0 no vs H) (n : H L = none) : Cxt K D H0 (L :: no) vs (upd H L (.lst xs)) := by
  have c1 := c.same (same_upd (o := .lst xs) n)
  obtain ⟨x, y, z, hd⟩ := c.dice
  refine ⟨c1.kn.less fun b hb => ?_, c1.tb, c1.dice, fun hm => ?_, fun q hq => ⟨?_, (c1.odd q hq).2⟩⟩
  · rcases List.mem_cons.mp hb with e | e
    · exact e ▸ List.mem_cons_self
    · exact List.mem_cons_of_mem _ (List.mem_cons_of_mem _ e)
  · rcases List.mem_cons.mp hm with e | e
    · rw [e, n] at hd; cases hd
    · exact c.dn e
  · have p := Pl.fresh n q.2 q.1 (c.odd q hq).1
    have p2 := p.mono (KN.new (o := .lst xs) n)
    exact p2.perm fun b hb => by
      rcases List.mem_cons.mp hb with e | e
      · exact e ▸ List.mem_cons_of_mem _ List.mem_cons_self
      · rcases List.mem_cons.mp e with e | e
        · exact e ▸ List.mem_cons_self
        · exact List.mem_cons_of_mem _ (List.mem_cons_of_mem _ e)
theorem Cxt.put {K : PySem.W.Frag} {D L : Addr} {H0 H : Hp} {no : List Addr} {vs : List (V × PyData)} {xs ys : List V} (c : Cxt K D H0 no vs H) (hl : L ∈ no) (h : H L = some (.lst xs)) : Cxt K D H0 no vs (upd H L (.lst ys)) := by
  have kn : KN (D :: no) H (upd H L (.lst ys)) := KN.put (List.mem_cons_of_mem _ hl)
  have hne : D ≠ L := fun e => c.dn (e ▸ hl)
  obtain ⟨x, y, z, hd⟩ := c.dice
  refine ⟨c.kn.trans kn, Tabs.keep c.tb h (fun b o n e => by rw [upd_ne n]; exact e), ⟨x, y, z, by rw [upd_ne hne]; exact hd⟩, c.dn, fun q hq => ⟨(c.odd q hq).1.mono kn, (c.odd q hq).2⟩⟩
/-- the list of words so far -/
structure Wds (K : PySem.W.Frag) (D : Addr) (H0 : Hp) (no : List Addr) (vs : List (V × PyData)) (L : Addr) (ws : List (List Str)) (H : Hp) : Prop where
  c : Cxt K D H0 no vs H
  l : L ∈ no
  t : Told H L ws
theorem Keep.kn {D : Addr} {H H' : Hp} (k : Keep D H H') : KN [D] H H' := fun b o n e _ => k b o (fun z => n (z ▸ List.mem_cons_self)) e
theorem Cxt.restart {K : PySem.W.Frag} {D : Addr} {H0 H : Hp} {no : List Addr} {vs : List (V × PyData)} (c : Cxt K D H0 no vs H) : Cxt K D H no vs H := ⟨KN.refl _ _, c.tb, c.dice, c.dn, c.odd⟩
theorem Cxt.back {K : PySem.W.Frag} {D : Addr} {H0 H H1 : Hp} {no : List Addr} {vs : List (V × PyData)} (c : Cxt K D H no vs H1) (k : KN (D :: no) H0 H) : Cxt K D H0 no vs H1 := ⟨k.trans c.kn, c.tb, c.dice, c.dn, c.odd⟩
/-- L was not there before -/
def New (H0 : Hp) (D : Addr) (no : List Addr) (L : Addr) : Prop := ∀ o, H0 L = some o → L ∈ D :: no ∨ ∃ ps, o = .tbl ps
theorem Cxt.new {K : PySem.W.Frag} {D L : Addr} {H0 H : Hp} {no : List Addr} {vs : List (V × PyData)} (c : Cxt K D H0 no vs H) (n : H L = none) : New H0 D no L := fun o e => by
  refine Classical.byContradiction fun h => ?_
  have h1 : L ∉ D :: no := fun z => h (.inl z)
  have h2 := c.kn L o h1 e (fun ps z => h (.inr ⟨ps, z⟩))
  rw [n] at h2
  cases h2
theorem New.ne {H0 : Hp} {D L W : Addr} {no : List Addr} {xs : List V} (n : New H0 D no L) (h : H0 W = some (.tup xs)) (hw : W ∉ D :: no) : W ≠ L := fun e => by
  subst e
  rcases n _ h with z | ⟨ps, z⟩
  · exact hw z
  · cases z
theorem Cxt.drop {K : PySem.W.Frag} {D L : Addr} {H0 H : Hp} {no : List Addr} {vs : List (V × PyData)} (c : Cxt K D H0 (L :: no) vs H) (n : New H0 D no L) : Cxt K D H0 no vs H := by
  refine ⟨fun b o hb e t => c.kn b o (fun z => ?_) e t, c.tb, c.dice, fun z => c.dn (List.mem_cons_of_mem _ z), fun q hq => ⟨(c.odd q hq).1.perm fun b hb => ?_, (c.odd q hq).2⟩⟩
  · rcases List.mem_cons.mp z with y | y
    · exact hb (y ▸ List.mem_cons_self)
    · rcases List.mem_cons.mp y with y | y
      · subst y
        rcases n o e with w | ⟨ps, w⟩
        · exact hb w
        · exact t ps w
      · exact hb (List.mem_cons_of_mem _ y)
  · rcases List.mem_cons.mp hb with y | y
    · exact y ▸ List.mem_cons_self
    · exact List.mem_cons_of_mem _ (List.mem_cons_of_mem _ y)
theorem eqv_strs : ∀ ss : List Str, PyData.eqvAll (ss.map PyData.str) (ss.map PyData.str) = true
  | [] => by rw [List.map_nil, PyData.eqvAll]
  | s :: ss => by rw [List.map_cons, PyData.eqvAll, eqv_strs ss, PyData.eqv]; simp
theorem eqv_tsd : ∀ ws : List (List Str), PyData.eqvAll (tsD ws) (tsD ws) = true
  | [] => by rw [tsD, List.map_nil, PyData.eqvAll]
  | s :: ss => by
    have ih := eqv_tsd ss
    unfold tsD at ih ⊢
    rw [List.map_cons, PyData.eqvAll, ih, PyData.eqv, eqv_strs]
    rfl
theorem eqv_refl_ts (ws : List (List Str)) : PyData.eqv (.list (tsD ws)) (.list (tsD ws)) = true := by
  rw [PyData.eqv]
  exact eqv_tsd ws
/-- told != due, where both have the same words -/
theorem ne_told {K : PySem.W.Frag} {L M : Addr} {ws : List (List Str)} {H : Hp} {Q : VK} (t : Told H L ws) (u : Told H M ws) (q : Q (.bl false) H) : rNeD K (.ref L) (.ref M) H Q := by
  refine ⟨_, _, t.dp, u.dp, t.shaped, u.shaped, ?_⟩
  rw [eqv_refl_ts]
  exact q
theorem eq_told {K : PySem.W.Frag} {L M : Addr} {ws : List (List Str)} {H : Hp} {Q : VK} (t : Told H L ws) (u : Told H M ws) (q : Q (.bl true) H) : rEqD K (.ref L) (.ref M) H Q := by
  refine ⟨_, _, t.dp, u.dp, t.shaped, u.shaped, ?_⟩
  rw [eqv_refl_ts]
  exact q
/-- told.append(_law_fault(lambda: ..)) -/
theorem app_any {K : PySem.W.Frag} {D L : Addr} {H0 H : Hp} {no : List Addr} {vs : List (V × PyData)} {ws : List (List Str)} {w : List Str} {tl : XK → Hp → VK → Prop} {R : V → Hp → Prop} (s : Wds K D H0 no vs L ws H) (hl : ws.length < 1000) (hw : w.all PyData.strOk = true)
    (h : ∀ H1 Q', Cxt K D H0 no vs H1 → (∀ q H', Same H1 H' → H' q = some (.tup (w.map V.str)) → Q' (.ref q) H') → TMet K tl H1 Q') (hr : ∀ H3, Wds K D H0 no vs L (ws ++ [w]) H3 → R .non H3) :
    tyV K "list" (V.ref L) H ∧ LamX.Tabs (Ts K) H ∧ ∀ H1, LamX.ExtN H H1 → LamX.Tabs (Ts K) H1 → TMet K tl H1 fun x H2 => rAppend (V.ref L) [x] H2 R := by
  obtain ⟨xs, hL, hx⟩ := s.t
  refine ⟨.inl ⟨rfl, xs, sqL_of hL⟩, s.c.tb, fun H1 e1 t1 => ?_⟩
  have c1 := s.c.ext e1 t1
  refine h H1 _ c1 fun q H2 s2 hq => ?_
  have e2 : LamX.ExtN H H2 := e1.trans (ExtN.same s2)
  obtain ⟨xs2, hL2, hx2⟩ := s.t.ext e2
  have c2 := c1.same s2
  refine ⟨L, xs2, .ref q, rfl, rfl, hL2, ?_, hr _ ⟨c2.put s.l hL2, s.l, Told.put hL2 hx2 (ss := w) hq hw⟩⟩
  have := hx2.len
  rw [sizeLine_eq]
  omega
def gs7 : List Int := [0, 2, 3, 5, 7, 97, 9973]
def oneD (g : Int) : PyData := if g = 0 then .tuple [.int 1, .int 1] else .int 1
def farD (g : Int) : PyData := if g = 0 then .tuple [.int (10 ^ 20), .int 1] else .int g
def badT (g : Int) : List PyData := [.none, .tuple [], .tuple [.tuple []], oneD g, .tuple [oneD g], .list [.tuple [oneD g]], .tuple [.list [oneD g]], .tuple [.tuple [oneD g], .tuple []], .tuple [.tuple [oneD g, oneD g], .tuple [oneD g]], .str "table", .dict [], .tuple [.tuple [.bool true]], .tuple [.tuple [.none]], .tuple [.tuple [farD g]],
  .tuple (List.replicate 13 (.tuple [oneD g])), .tuple [.tuple (List.replicate 13 (oneD g))], .tuple [.tuple [.tuple [.int 2, .int 4]]], .tuple [.tuple [.tuple [.int 1, .int 0]]], .tuple [.tuple [.str "1"]]]
theorem badT_no : ∀ g ∈ gs7, ∀ d ∈ badT g, tabB g 12 12 (10 ^ 20) d = false := by decide +kernel
theorem gs7_ok {g : Int} (h : g ∈ gs7) : GroundV (.int g) := grd8 (by simpa [gs7] using h)
/-! ### _law_dice -/
theorem sc__law_dice : FnScope ["script", "spot", "cell", "left"] ["script", "spot"] (defScope s__law_dice) := ⟨rfl, rfl, rfl, by decide +kernel, rfl, by decide +kernel, by decide +kernel⟩
def sp__law_dice (K : PySem.W.Frag) : Sp := fun vs H Q _ => ∃ (a : Addr) (ns : List Int) (spot : Nat), vs = [.ref a, .int (spot : Int)] ∧ SqL K H a (ns.map V.int) ∧
  ∀ D H', H D = none → Same H H' → Dice H' D → Q (.ref D) H'
theorem len__law_dice {K : PySem.W.Frag} {vs : List V} {H : Hp} {Q : VK} {E : XK} (h : sp__law_dice K vs H Q E) : vs.length = ["script", "spot"].length := by
  obtain ⟨_, _, _, rfl, _⟩ := h
  rfl
def t__law_dice (K : PySem.W.Frag) : TS := (tSeq (tAsg (tIf (tTest (tOp rLtI (tVar 1) (tCB (rLenU K) (tCons (tVar 0) tNil)))) (tCB (rInt1) (tCons (tOp (rIxA K) (tVar 0) (tVar 1)) tNil)) (tOp rAdd (tOp rMulU (tC (.int 97)) (tVar 1)) (tC (.int 59)))) (gName 2))
  (tSeq (tAsg (tOp rModU (tCB (rMax2) (tCons (tC (.int 0)) (tCons (tOp rSub (tCB (rAbs) (tCons (tVar 2) tNil)) (tOp rPowU (tC (.int 10)) (tC (.int 16)))) tNil))) (tOp rMulU (tOp rPowU (tC (.int 10)) (tC (.int 58))) (tOp rPowU (tC (.int 10)) (tC (.int 60))))) (gName 3))
  (tRet (tLst (tCons (tVar 3) (tCons (tOp rAdd (tOp rAdd (tOp rAdd (tOp rMulU (tOp rModU (tCB (rAbs) (tCons (tVar 2) tNil)) (tC (.int 1152921504606846733))) (tC (.int 83))) (tOp rMulU (tC (.int 1033)) (tVar 1))) (tOp rMulU (tC (.int 61)) (tCB (rInt1) (tCons (tOp rLtI (tVar 2) (tC (.int 0))) tNil)))) (tC (.int 29))) (tCons (tC (.int 0)) tNil)))))))
theorem big_mul : CMul (10 ^ (58 : Int).toNat) (10 ^ (60 : Int).toNat) ∨ CMulW (10 ^ (58 : Int).toNat) (10 ^ (60 : Int).toNat) :=
  .inr (wide_mul (a := 200) (b := 210) (by decide) (by decide) (by decide) (by decide) (by decide))
theorem pure__law_dice (K : PySem.W.Frag) (vs : List V) (H : Hp) (Q : VK) (E : XK) (h : sp__law_dice K vs H Q E) : t__law_dice K { nx := fun _ H' => Q .non H', rt := Q } (start ["script", "spot", "cell", "left"] vs) H := by
  obtain ⟨a, ns, spot, rfl, hS, hq⟩ := h
  unfold t__law_dice
  walk_at "z"
  refine lenL hS ?_
  walk_at "z"
  by_cases hs : (spot : Int) < ((ns.map V.int).length : Int)
  · rw [if_pos hs]
    have hs2 : spot < ns.length := by simpa using hs
    refine ixL hS (v := .int ns[spot]) (atI_nat (by simp [hs2])) ?_
    walk_at "z"
    refine ⟨cpow (by decide), cpow (by decide), cpow (by decide), big_mul, by decide, by decide, mulR (by decide), mulS (by decide), mulS (by decide), by decide, fun p hp => ?_⟩
    exact hq p _ hp (same_upd hp) ⟨_, _, _, upd_same⟩
  · rw [if_neg hs]
    refine ⟨mulS (by decide), cpow (by decide), cpow (by decide), cpow (by decide), big_mul, by decide, by decide, mulR (by decide), mulS (by decide), mulS (by decide), by decide, fun p hp => ?_⟩
    exact hq p _ hp (same_upd hp) ⟨_, _, _, upd_same⟩
theorem ok__law_dice {P : Program} {w : World} {K : PySem.W.Frag} {mg : Str → Option Value} {base : Heap} (T : Tx K mg) : Okk P w K mg base 1 "_law_dice" ["script", "spot"] (sp__law_dice K) := by
  have hf_abs := T.n_abs
  have hf_int := T.n_int
  have hf_len := T.n_len
  have hf_max := T.n_max
  obtain ⟨fd, F⟩ := T.f__law_dice
  refine ⟨fd, F.ok sc__law_dice (fun vs H Q E h => len__law_dice h) (fun cdv A outer s H vs Q E hr h => ⟨t__law_dice K, PSs.nox ?_, pure__law_dice K vs H Q E h⟩), F.bindsN (fun _ _ _ _ _ _ us hl => match us, hl with | [_, _], _ => rfl), T.g__law_dice, F.kp⟩
  exact (pss_cons (ps_set (i := 2) sc__law_dice.nd rfl (by first | exact Or.inl rfl | exact Or.inr rfl) (pe_ifExp (pt_cmpR op_lt (pv 1) (pe_callB call_len_seq (by rfl) hf_len (by decide +kernel) (pa_cons (pv 0) pa_nil)) (nomark _)) (pe_callTy call_int1 (by rfl) hf_int (by decide +kernel) (pa_cons (pe_ix ix_lt (pv 0) (pv 1) (fun _ _ => rfl)) pa_nil)) (pe_op op_add (pe_op op_mulU pe_int (pv 1)) pe_int)))
      (pss_cons (ps_set (i := 3) sc__law_dice.nd rfl (by first | exact Or.inl rfl | exact Or.inr rfl) (pe_op op_mod (pe_callB (call_max2 rfl) (by rfl) hf_max (by decide +kernel) (pa_cons pe_int (pa_cons (pe_op op_sub (pe_callB call_abs (by rfl) hf_abs (by decide +kernel) (pa_cons (pv 2) pa_nil)) (pe_op op_pow pe_int pe_int)) pa_nil))) (pe_op op_mulU (pe_op op_pow pe_int pe_int) (pe_op op_pow pe_int pe_int))))
      (pss_one (ps_ret (pe_lst (pa_cons (pv 3) (pa_cons (pe_op op_add (pe_op op_add (pe_op op_add (pe_op op_mulU (pe_op op_mod (pe_callB call_abs (by rfl) hf_abs (by decide +kernel) (pa_cons (pv 2) pa_nil)) pe_int) pe_int) (pe_op op_mulU pe_int (pv 1))) (pe_op op_mulU pe_int (pe_callTy call_int1 (by rfl) hf_int (by decide +kernel) (pa_cons (pe_cmpR op_lt (pv 2) pe_int (nomark _)) pa_nil)))) pe_int) (pa_cons pe_int pa_nil))))))))
/-! ### _law_roll -/
theorem sc__law_roll : FnScope ["dice", "most", "found", "one", "two"] ["dice", "most"] (defScope s__law_roll) := ⟨rfl, rfl, rfl, by decide +kernel, rfl, by decide +kernel, by decide +kernel⟩
def sp__law_roll (K : PySem.W.Frag) : Sp := fun vs H Q _ => ∃ (d : Addr) (most : Int), vs = [.ref d, .int most] ∧ Dice H d ∧ 0 < most ∧ most < 2 ^ 250 ∧ ∀ r H', 0 ≤ r → r < most → Keep d H H' → Dice H' d → Q (.int r) H'
theorem len__law_roll {K : PySem.W.Frag} {vs : List V} {H : Hp} {Q : VK} {E : XK} (h : sp__law_roll K vs H Q E) : vs.length = ["dice", "most"].length := by
  obtain ⟨_, _, rfl, _⟩ := h
  rfl
def t__law_roll (K : PySem.W.Frag) : TS := (tSeq (tIfS (tTest (tOp rGtI (tOp (rIxA K) (tVar 0) (tC (.int 0))) (tC (.int 0)))) (tSeq (tAsg (tOp rModU (tCB (rInt1) (tCons (tOp (rIxA K) (tVar 0) (tC (.int 0))) tNil)) (tVar 1)) (gName 2))
  (tSeq (tAsg (tOp rDivU (tOp (rIxA K) (tVar 0) (tC (.int 0))) (tVar 1)) (gSub (tVar 0) (tC (.int 0)) rSetL))
  (tRet (tVar 2)))) tNext)
  (tSeq (tAsg (tOp rAdd (tOp (rIxA K) (tVar 0) (tC (.int 2))) (tC (.int 1))) (gSub (tVar 0) (tC (.int 2)) rSetL))
  (tSeq (tAsg (tOp rModU (tCB (rInt1) (tCons (tOp rAdd (tOp (rIxA K) (tVar 0) (tC (.int 1))) (tOp rMulU (tC (.int 86028121)) (tOp (rIxA K) (tVar 0) (tC (.int 2))))) tNil)) (tC (.int 2305843009213693561))) (gName 3))
  (tSeq (tAsg (tOp rModU (tCB (rInt1) (tCons (tOp rAdd (tOp rMulU (tVar 3) (tVar 3)) (tOp rMulU (tC (.int 103)) (tOp (rIxA K) (tVar 0) (tC (.int 2))))) tNil)) (tC (.int 2305843009213693669))) (gName 4))
  (tRet (tOp rModU (tCB (rInt1) (tCons (tOp rDivU (tOp rAdd (tOp rMulU (tVar 4) (tC (.int 7654321))) (tVar 3)) (tC (.int 65557))) tNil)) (tVar 1)))))))
theorem pure__law_roll (K : PySem.W.Frag) (vs : List V) (H : Hp) (Q : VK) (E : XK) (h : sp__law_roll K vs H Q E) : t__law_roll K { nx := fun _ H' => Q .non H', rt := Q } (start ["dice", "most", "found", "one", "two"] vs) H := by
  obtain ⟨d, most, rfl, ⟨a, b, c, hD⟩, h0, h1, hq⟩ := h
  unfold t__law_roll
  walk_at "z"
  refine ixL (sqL_of hD) rfl ?_
  walk_at "z"
  by_cases ha : 0 < a
  · rw [if_pos ha]
    refine ixL (sqL_of hD) rfl ?_
    walk_at "z"
    refine ⟨h0, ixL (sqL_of hD) rfl ?_⟩
    walk_at "z"
    refine ⟨divM h0 h1, setL hD rfl ?_⟩
    walk_at "z"
    exact hq _ _ (Int.emod_nonneg _ (by omega)) (Int.emod_lt_of_pos _ h0) (Keep.refl d H).put ⟨_, _, _, upd_same⟩
  · rw [if_neg ha]
    refine ixL (sqL_of hD) rfl ?_
    walk_at "z"
    refine setL hD rfl ?_
    walk_at "z"
    refine ixL (sqL_of upd_same) rfl ?_
    walk_at "z"
    refine ixL (sqL_of upd_same) rfl ?_
    walk_at "z"
    have e := Int.emod_nonneg (b + 86028121 * (c + 1)) (show (2305843009213693561 : Int) ≠ 0 by decide)
    have e2 := Int.emod_lt_of_pos (b + 86028121 * (c + 1)) (show (0 : Int) < 2305843009213693561 by decide)
    refine ⟨mulS (by decide), by decide, mulS (by omega), ixL (sqL_of upd_same) rfl ?_⟩
    walk_at "z"
    refine ⟨mulS (by decide), by decide, mulR (by decide), divS (by decide) (by decide), h0, ?_⟩
    exact hq _ _ (Int.emod_nonneg _ (by omega)) (Int.emod_lt_of_pos _ h0) (Keep.refl d H).put ⟨_, _, _, upd_same⟩
theorem ok__law_roll {P : Program} {w : World} {K : PySem.W.Frag} {mg : Str → Option Value} {base : Heap} (T : Tx K mg) : Okk P w K mg base 1 "_law_roll" ["dice", "most"] (sp__law_roll K) := by
  have hf_int := T.n_int
  obtain ⟨fd, F⟩ := T.f__law_roll
  refine ⟨fd, F.ok sc__law_roll (fun vs H Q E h => len__law_roll h) (fun cdv A outer s H vs Q E hr h => ⟨t__law_roll K, PSs.nox ?_, pure__law_roll K vs H Q E h⟩), F.bindsN (fun _ _ _ _ _ _ us hl => match us, hl with | [_, _], _ => rfl), T.g__law_roll, F.kp⟩
  exact (pss_cons (ps_if (pt_cmpR op_gt (pe_ix ix_lt (pv 0) pe_int (fun _ _ => rfl)) pe_int (nomark _)) (pss_cons (ps_set (i := 2) sc__law_roll.nd rfl (by first | exact Or.inl rfl | exact Or.inr rfl) (pe_op op_mod (pe_callTy call_int1 (by rfl) hf_int (by decide +kernel) (pa_cons (pe_ix ix_lt (pv 0) pe_int (fun _ _ => rfl)) pa_nil)) (pv 1)))
      (pss_cons (ps_asg (pe_op op_fdivW (pe_ix ix_lt (pv 0) pe_int (fun _ _ => rfl)) (pv 1)) (pg_sub (pv 0) pe_int set_list))
      (pss_one (ps_ret (pv 2))))) pss_nil)
      (pss_cons (ps_asg (pe_op op_add (pe_ix ix_lt (pv 0) pe_int (fun _ _ => rfl)) pe_int) (pg_sub (pv 0) pe_int set_list))
      (pss_cons (ps_set (i := 3) sc__law_roll.nd rfl (by first | exact Or.inl rfl | exact Or.inr rfl) (pe_op op_mod (pe_callTy call_int1 (by rfl) hf_int (by decide +kernel) (pa_cons (pe_op op_add (pe_ix ix_lt (pv 0) pe_int (fun _ _ => rfl)) (pe_op op_mulU pe_int (pe_ix ix_lt (pv 0) pe_int (fun _ _ => rfl)))) pa_nil)) pe_int))
      (pss_cons (ps_set (i := 4) sc__law_roll.nd rfl (by first | exact Or.inl rfl | exact Or.inr rfl) (pe_op op_mod (pe_callTy call_int1 (by rfl) hf_int (by decide +kernel) (pa_cons (pe_op op_add (pe_op op_mulU (pv 3) (pv 3)) (pe_op op_mulU pe_int (pe_ix ix_lt (pv 0) pe_int (fun _ _ => rfl)))) pa_nil)) pe_int))
      (pss_one (ps_ret (pe_op op_mod (pe_callTy call_int1 (by rfl) hf_int (by decide +kernel) (pa_cons (pe_op op_fdivW (pe_op op_add (pe_op op_mulU (pv 4) pe_int) (pv 3)) pe_int) pa_nil)) (pv 1))))))))
/-! ### _law_unit -/
theorem sc__law_unit : FnScope ["ground"] ["ground"] (defScope s__law_unit) := ⟨rfl, rfl, rfl, by decide +kernel, rfl, by decide +kernel, by decide +kernel⟩
def sp__law_unit (K : PySem.W.Frag) : Sp := fun vs H Q _ => ∃ g : Int, vs = [.int g] ∧ 0 ≤ g ∧ g ≠ 1 ∧ ∀ z H', Same H H' → NumR H' g z 1 1 → Q z H'
theorem len__law_unit {K : PySem.W.Frag} {vs : List V} {H : Hp} {Q : VK} {E : XK} (h : sp__law_unit K vs H Q E) : vs.length = ["ground"].length := by
  obtain ⟨_, rfl, _⟩ := h
  rfl
def t__law_unit (K : PySem.W.Frag) : TS := (tRet (tIf (tTest (tOp rEq (tVar 0) (tC (.int 0)))) (tTup (tCons (tC (.int 1)) (tCons (tC (.int 1)) tNil))) (tC (.int 1))))
theorem pure__law_unit (K : PySem.W.Frag) (vs : List V) (H : Hp) (Q : VK) (E : XK) (h : sp__law_unit K vs H Q E) : t__law_unit K { nx := fun _ H' => Q .non H', rt := Q } (start ["ground"] vs) H := by
  obtain ⟨g, rfl, hg, hg1, hq⟩ := h
  unfold t__law_unit
  walk_at "z"
  by_cases h : g = 0
  · rw [if_pos h]
    exact ⟨by decide, fun p hp => hq _ _ (same_upd hp) (.inl ⟨h, ⟨p, rfl, upd_same⟩, by decide, by decide⟩)⟩
  · rw [if_neg h]
    exact hq _ _ (Same.refl H) (.inr ⟨h, rfl, rfl, by decide, by omega⟩)
theorem ok__law_unit {P : Program} {w : World} {K : PySem.W.Frag} {mg : Str → Option Value} {base : Heap} (T : Tx K mg) : Okk P w K mg base 1 "_law_unit" ["ground"] (sp__law_unit K) := by
  obtain ⟨fd, F⟩ := T.f__law_unit
  refine ⟨fd, F.ok sc__law_unit (fun vs H Q E h => len__law_unit h) (fun cdv A outer s H vs Q E hr h => ⟨t__law_unit K, PSs.nox ?_, pure__law_unit K vs H Q E h⟩), F.bindsN (fun _ _ _ _ _ _ us hl => match us, hl with | [_], _ => rfl), T.g__law_unit, F.kp⟩
  exact (pss_one (ps_ret (pe_ifExp (pt_cmpR op_eq (pv 0) pe_int (nomark _)) (pe_tup (pa_cons pe_int (pa_cons pe_int pa_nil))) pe_int)))
/-! ### _law_pick -/
theorem sc__law_pick : FnScope ["dice", "items"] ["dice", "items"] (defScope s__law_pick) := ⟨rfl, rfl, rfl, by decide +kernel, rfl, by decide +kernel, by decide +kernel⟩
def sp__law_pick (K : PySem.W.Frag) : Sp := fun vs H Q _ => ∃ (d L : Addr) (xs : List V), vs = [.ref d, .ref L] ∧ Dice H d ∧ d ≠ L ∧ H L = some (.lst xs) ∧ xs ≠ [] ∧ xs.length < 2 ^ 40 ∧ ∀ v H', v ∈ xs → Keep d H H' → Dice H' d → Q v H'
theorem len__law_pick {K : PySem.W.Frag} {vs : List V} {H : Hp} {Q : VK} {E : XK} (h : sp__law_pick K vs H Q E) : vs.length = ["dice", "items"].length := by
  obtain ⟨_, _, _, rfl, _⟩ := h
  rfl
def t__law_pick (K : PySem.W.Frag) : TS := (tRet (tOp (rIxA K) (tVar 1) (tCall (sp__law_roll K) [] E0 (tCons (tVar 0) (tCons (tCB (rLenU K) (tCons (tVar 1) tNil)) tNil)))))
theorem pure__law_pick (K : PySem.W.Frag) (vs : List V) (H : Hp) (Q : VK) (E : XK) (h : sp__law_pick K vs H Q E) : t__law_pick K { nx := fun _ H' => Q .non H', rt := Q } (start ["dice", "items"] vs) H := by
  obtain ⟨d, L, xs, rfl, hD, hne, hL, hx, hl, hq⟩ := h
  unfold t__law_pick
  walk_at "z"
  refine lenL (sqL_of hL) ?_
  walk_at "z"
  have hp : 0 < xs.length := List.length_pos_iff.mpr hx
  refine ⟨d, _, rfl, hD, by omega, by omega, fun r H' r0 r1 k1 d1 => ?_⟩
  walk_at "z"
  have hr : r.toNat < xs.length := by omega
  have e : r = ((r.toNat : Nat) : Int) := by omega
  refine ixL (sqL_of (k1 _ _ (Ne.symm hne) hL)) (v := xs[r.toNat]) ?_ (hq _ _ (List.getElem_mem hr) k1 d1)
  have h9 := atI_nat (List.getElem?_eq_getElem hr)
  rw [← e] at h9
  exact h9
theorem ok__law_pick {P : Program} {w : World} {K : PySem.W.Frag} {mg : Str → Option Value} {base : Heap} (T : Tx K mg) : Okk P w K mg base 2 "_law_pick" ["dice", "items"] (sp__law_pick K) := by
  obtain ⟨fd__law_roll, F__law_roll, b__law_roll, g__law_roll, k__law_roll⟩ := ok__law_roll (P := P) (w := w) (base := base) T
  have hf_len := T.n_len
  obtain ⟨fd, F⟩ := T.f__law_pick
  refine ⟨fd, F.ok sc__law_pick (fun vs H Q E h => len__law_pick h) (fun cdv A outer s H vs Q E hr h => ⟨t__law_pick K, PSs.nox ?_, pure__law_pick K vs H Q E h⟩), F.bindsN (fun _ _ _ _ _ _ us hl => match us, hl with | [_, _], _ => rfl), T.g__law_pick, F.kp⟩
  exact (pss_one (ps_ret (pe_ix ix_lt (pv 1) (pe_call F__law_roll (hr.mono (by decide)) rfl g__law_roll k__law_roll b__law_roll .nil pass0 (pa_cons (pv 0) (pa_cons (pe_callB call_len_seq (by rfl) hf_len (by decide +kernel) (pa_cons (pv 1) pa_nil)) pa_nil))) (fun _ _ => rfl))))
/-! ### _law_eq_ground -/
theorem sc__law_eq_ground : FnScope ["dice"] ["dice"] (defScope s__law_eq_ground) := ⟨rfl, rfl, rfl, by decide +kernel, rfl, by decide +kernel, by decide +kernel⟩
def sp__law_eq_ground (K : PySem.W.Frag) : Sp := fun vs H Q _ => ∃ d : Addr, vs = [.ref d] ∧ Dice H d ∧ ∀ (g : Int) H', g ∈ gs7 → Keep d H H' → Dice H' d → Q (.int g) H'
theorem len__law_eq_ground {K : PySem.W.Frag} {vs : List V} {H : Hp} {Q : VK} {E : XK} (h : sp__law_eq_ground K vs H Q E) : vs.length = ["dice"].length := by
  obtain ⟨_, rfl, _⟩ := h
  rfl
def t__law_eq_ground (K : PySem.W.Frag) : TS := (tRet (tCall (sp__law_pick K) [] E0 (tCons (tVar 0) (tCons (tLst (tCons (tC (.int 0)) (tCons (tC (.int 0)) (tCons (tC (.int 2)) (tCons (tC (.int 3)) (tCons (tC (.int 5)) (tCons (tC (.int 7)) (tCons (tC (.int 97)) (tCons (tC (.int 9973)) tNil))))))))) tNil))))
theorem pure__law_eq_ground (K : PySem.W.Frag) (vs : List V) (H : Hp) (Q : VK) (E : XK) (h : sp__law_eq_ground K vs H Q E) : t__law_eq_ground K { nx := fun _ H' => Q .non H', rt := Q } (start ["dice"] vs) H := by
  obtain ⟨d, rfl, hD, hq⟩ := h
  unfold t__law_eq_ground
  walk_at "z"
  refine ⟨by decide, fun M hM => ?_⟩
  refine ⟨d, M, _, rfl, hD.same (same_upd hM), hD.ne hM, upd_same, by simp, by simp, fun v H2 hv k2 d2 => ?_⟩
  have hk : ∃ g : Int, v = .int g ∧ g ∈ gs7 := by
    simp only [List.mem_cons, List.not_mem_nil, or_false] at hv
    rcases hv with rfl | rfl | rfl | rfl | rfl | rfl | rfl | rfl <;> exact ⟨_, rfl, by decide⟩
  obtain ⟨g, rfl, hg⟩ := hk
  exact hq g H2 hg (((Keep.refl d H).new hM).trans k2) d2
theorem ok__law_eq_ground {P : Program} {w : World} {K : PySem.W.Frag} {mg : Str → Option Value} {base : Heap} (T : Tx K mg) : Okk P w K mg base 3 "_law_eq_ground" ["dice"] (sp__law_eq_ground K) := by
  obtain ⟨fd__law_pick, F__law_pick, b__law_pick, g__law_pick, k__law_pick⟩ := ok__law_pick (P := P) (w := w) (base := base) T
  obtain ⟨fd, F⟩ := T.f__law_eq_ground
  refine ⟨fd, F.ok sc__law_eq_ground (fun vs H Q E h => len__law_eq_ground h) (fun cdv A outer s H vs Q E hr h => ⟨t__law_eq_ground K, PSs.nox ?_, pure__law_eq_ground K vs H Q E h⟩), F.bindsN (fun _ _ _ _ _ _ us hl => match us, hl with | [_], _ => rfl), T.g__law_eq_ground, F.kp⟩
  exact (pss_one (ps_ret (pe_call F__law_pick (hr.mono (by decide)) rfl g__law_pick k__law_pick b__law_pick .nil pass0 (pa_cons (pv 0) (pa_cons (pe_lst (pa_cons pe_int (pa_cons pe_int (pa_cons pe_int (pa_cons pe_int (pa_cons pe_int (pa_cons pe_int (pa_cons pe_int (pa_cons pe_int pa_nil))))))))) pa_nil)))))
/-! ### _law_bad_table -/
theorem sc__law_bad_table : FnScope ["dice", "ground", "one", "far", "found"] ["dice", "ground"] (defScope s__law_bad_table) := ⟨rfl, rfl, rfl, by decide +kernel, rfl, by decide +kernel, by decide +kernel⟩
def sp__law_bad_table (K : PySem.W.Frag) : Sp := fun vs H Q _ => ∃ (D : Addr) (g : Int), vs = [.ref D, .int g] ∧ Dice H D ∧ g ∈ gs7 ∧ ∀ v d H', d ∈ badT g → Pl H' [D] d v → Keep D H H' → Dice H' D → Q v H'
theorem len__law_bad_table {K : PySem.W.Frag} {vs : List V} {H : Hp} {Q : VK} {E : XK} (h : sp__law_bad_table K vs H Q E) : vs.length = ["dice", "ground"].length := by
  obtain ⟨_, _, rfl, _⟩ := h
  rfl
def t__law_bad_table_k1_b (K : PySem.W.Frag) : TS := (tSeq (tAsg (tOp rCat (tVar 4) (tLst (tCons (tOp (rRepT K) (tTup (tCons (tTup (tCons (tVar 2) tNil)) tNil)) (tC (.int 13))) (tCons (tTup (tCons (tOp (rRepT K) (tTup (tCons (tVar 2) tNil)) (tC (.int 13))) tNil)) (tCons (tTup (tCons (tTup (tCons (tTup (tCons (tC (.int 2)) (tCons (tC (.int 4)) tNil))) tNil)) tNil)) (tCons (tTup (tCons (tTup (tCons (tTup (tCons (tC (.int 1)) (tCons (tC (.int 0)) tNil))) tNil)) tNil)) (tCons (tTup (tCons (tTup (tCons (tC (.str "1")) tNil)) tNil)) tNil))))))) (gName 4))
  (tRet (tCall (sp__law_pick K) [] E0 (tCons (tVar 0) (tCons (tVar 4) tNil)))))
def t__law_bad_table_k2_b (K : PySem.W.Frag) : TS := (tSeq (tAsg (tLst (tCons (tC .non) (tCons (tTup tNil) (tCons (tTup (tCons (tTup tNil) tNil)) (tCons (tVar 2) (tCons (tTup (tCons (tVar 2) tNil)) (tCons (tLst (tCons (tTup (tCons (tVar 2) tNil)) tNil)) (tCons (tTup (tCons (tLst (tCons (tVar 2) tNil)) tNil)) (tCons (tTup (tCons (tTup (tCons (tVar 2) tNil)) (tCons (tTup tNil) tNil))) (tCons (tTup (tCons (tTup (tCons (tVar 2) (tCons (tVar 2) tNil))) (tCons (tTup (tCons (tVar 2) tNil)) tNil))) (tCons (tC (.str "table")) (tCons tDNewK (tCons (tTup (tCons (tTup (tCons (tC (.bl true)) tNil)) tNil)) (tCons (tTup (tCons (tTup (tCons (tC .non) tNil)) tNil)) (tCons (tTup (tCons (tTup (tCons (tVar 3) tNil)) tNil)) tNil))))))))))))))) (gName 4))
  (t__law_bad_table_k1_b K))
def t__law_bad_table (K : PySem.W.Frag) : TS := (tSeq (tPar 2 3 (tCons (tCall (sp__law_unit K) [] E0 (tCons (tVar 1) tNil)) (tCons (tIf (tTest (tOp rEq (tVar 1) (tC (.int 0)))) (tTup (tCons (tOp rPowU (tC (.int 10)) (tC (.int 20))) (tCons (tC (.int 1)) tNil))) (tVar 1)) tNil)))
  (t__law_bad_table_k2_b K))
theorem plT {H : Hp} {D p : Addr} {ds : List PyData} {xs : List V} (hD : Dice H D) (h : H p = some (.tup xs)) (q : PlAll H [D] ds xs) : Pl H [D] (.tuple ds) (.ref p) := by
  rw [Pl]
  refine ⟨p, xs, rfl, fun z => ?_, h, q⟩
  obtain ⟨_, _, _, e⟩ := hD
  rw [List.mem_singleton.mp z, e] at h
  cases h
theorem plL {H : Hp} {D p : Addr} {ds : List PyData} {xs : List V} (hD : Dice H D) (h : H p = some (.lst xs)) (hl : xs.length ≠ 3) (q : PlAll H [D] ds xs) : Pl H [D] (.list ds) (.ref p) := by
  rw [Pl]
  refine ⟨p, xs, rfl, fun z => ?_, h, q⟩
  obtain ⟨_, _, _, e⟩ := hD
  rw [List.mem_singleton.mp z, e] at h
  cases h
  exact hl rfl
theorem plK {H : Hp} {D p : Addr} (hD : Dice H D) (h : H p = some (.dK [])) : Pl H [D] (.dict []) (.ref p) := by
  rw [Pl]
  refine ⟨rfl, p, rfl, fun z => ?_, h⟩
  obtain ⟨_, _, _, e⟩ := hD
  rw [List.mem_singleton.mp z, e] at h
  cases h
theorem plN {H : Hp} {no : List Addr} : PlAll H no [] [] := by rw [PlAll]
theorem plC {H : Hp} {no : List Addr} {d : PyData} {ds : List PyData} {x : V} {xs : List V} (h : Pl H no d x) (q : PlAll H no ds xs) : PlAll H no (d :: ds) (x :: xs) := by
  rw [PlAll]
  exact ⟨x, xs, rfl, h, q⟩
theorem plRep {H : Hp} {no : List Addr} {d : PyData} {x : V} (h : Pl H no d x) : ∀ n : Nat, PlAll H no (List.replicate n d) (List.replicate n x)
  | 0 => plN
  | n + 1 => plC h (plRep h n)
theorem keep_new {H : Hp} {b p : Addr} {u o : HO} (h : H b = some u) (hn : H p = none) : upd H p o b = some u := by
  rw [upd_ne (ne_of_none h hn)]; exact h
theorem pl_of_num {H : Hp} {D : Addr} {g : Int} {z : V} (hD : Dice H D) (n : NumR H g z 1 1) : Pl H [D] (oneD g) z := by
  unfold oneD
  rcases n with ⟨e, ⟨p, rfl, hp⟩, _⟩ | ⟨e, rfl, _⟩
  · rw [if_pos e]
    exact plT hD hp (plC (by rw [Pl]) (plC (by rw [Pl]) plN))
  · rw [if_neg e, Pl]
local macro_rules | `(tactic| walk_at "at") => `(tactic| (repeat (first | exact upd_same | assumption | refine keep_new ?_ (by assumption))))
local macro_rules | `(tactic| walk_at "ss") => `(tactic| (repeat (first | exact Same.refl _ | assumption | refine Same.trans ?_ (by assumption))))
theorem pure__law_bad_table (K : PySem.W.Frag) (vs : List V) (H : Hp) (Q : VK) (E : XK) (h : sp__law_bad_table K vs H Q E) : t__law_bad_table K { nx := fun _ H' => Q .non H', rt := Q } (start ["dice", "ground", "one", "far", "found"] vs) H := by
  obtain ⟨D, g, rfl, hD, hg, hq⟩ := h
  have g9 : ∀ g ∈ gs7, 0 ≤ g ∧ g ≠ 1 := by decide
  have main2 : ∀ (z1 z2 : V) (L : Addr) (xs : List V) (H2 : Hp), Pl H2 [D] (oneD g) z1 → H2 L = some (.lst xs) → xs ≠ [] → xs.length < 20 → (∀ v ∈ xs, ∃ d ∈ badT g, Pl H2 [D] d v) → Keep D H H2 → Dice H2 D →
      t__law_bad_table_k1_b K { nx := fun _ H' => Q .non H', rt := Q } [some (.ref D), some (.int g), some z1, some z2, some (.ref L)] H2 := by
    intro z1 z2 L xs H2 p1 hL hx hl hA k2 hDf
    unfold t__law_bad_table_k1_b
    walk_at "z"
    refine ⟨by decide, fun ab1 hb1 => ?_⟩
    have sb1 := same_upd (o := .tup [z1]) hb1
    have eb1 : upd H2 ab1 (.tup [z1]) ab1 = some (.tup [z1]) := upd_same
    generalize upd H2 ab1 (.tup [z1]) = Gb1 at *
    replace hDf := hDf.same sb1
    have pb1 : Pl Gb1 [D] (.tuple [oneD g]) (.ref ab1) := plT hDf eb1 (plC (p1.same (by walk_at "ss")) plN)
    refine ⟨by decide, fun ab2 hb2 => ?_⟩
    have sb2 := same_upd (o := .tup [V.ref ab1]) hb2
    have eb2 : upd Gb1 ab2 (.tup [V.ref ab1]) ab2 = some (.tup [V.ref ab1]) := upd_same
    generalize upd Gb1 ab2 (.tup [V.ref ab1]) = Gb2 at *
    replace hDf := hDf.same sb2
    have q1 : Pl Gb2 [D] (.tuple [.tuple [oneD g]]) (.ref ab2) := plT hDf eb2 (plC (pb1.same (by walk_at "ss")) plN)
    refine ⟨ab2, 13, [V.ref ab1], rfl, rfl, sqT_of eb2, by simp, by decide, by decide, by simp, ?_⟩
    rw [show (List.replicate (13 : Int).toNat [V.ref ab1]).flatten = List.replicate 13 (V.ref ab1) from rfl]
    refine fun ab3 hb3 => ?_
    have sb3 := same_upd (o := .tup (List.replicate 13 (V.ref ab1))) hb3
    have eb3 : upd Gb2 ab3 (.tup (List.replicate 13 (V.ref ab1))) ab3 = some (.tup (List.replicate 13 (V.ref ab1))) := upd_same
    generalize upd Gb2 ab3 (.tup (List.replicate 13 (V.ref ab1))) = Gb3 at *
    replace hDf := hDf.same sb3
    have r1 : Pl Gb3 [D] (.tuple (List.replicate 13 (.tuple [oneD g]))) (.ref ab3) := plT hDf eb3 (plRep (pb1.same (by walk_at "ss")) 13)
    refine ⟨by decide, fun ab4 hb4 => ?_⟩
    have sb4 := same_upd (o := .tup [z1]) hb4
    have eb4 : upd Gb3 ab4 (.tup [z1]) ab4 = some (.tup [z1]) := upd_same
    generalize upd Gb3 ab4 (.tup [z1]) = Gb4 at *
    replace hDf := hDf.same sb4
    refine ⟨ab4, 13, [z1], rfl, rfl, sqT_of eb4, by simp, by decide, by decide, by simp, ?_⟩
    rw [show (List.replicate (13 : Int).toNat [z1]).flatten = List.replicate 13 z1 from rfl]
    refine fun ab5 hb5 => ?_
    have sb5 := same_upd (o := .tup (List.replicate 13 z1)) hb5
    have eb5 : upd Gb4 ab5 (.tup (List.replicate 13 z1)) ab5 = some (.tup (List.replicate 13 z1)) := upd_same
    generalize upd Gb4 ab5 (.tup (List.replicate 13 z1)) = Gb5 at *
    replace hDf := hDf.same sb5
    have r2 : Pl Gb5 [D] (.tuple (List.replicate 13 (oneD g))) (.ref ab5) := plT hDf eb5 (plRep (p1.same (by walk_at "ss")) 13)
    refine ⟨by decide, fun ab6 hb6 => ?_⟩
    have sb6 := same_upd (o := .tup [V.ref ab5]) hb6
    have eb6 : upd Gb5 ab6 (.tup [V.ref ab5]) ab6 = some (.tup [V.ref ab5]) := upd_same
    generalize upd Gb5 ab6 (.tup [V.ref ab5]) = Gb6 at *
    replace hDf := hDf.same sb6
    have pb6 : Pl Gb6 [D] (.tuple [.tuple (List.replicate 13 (oneD g))]) (.ref ab6) := plT hDf eb6 (plC (r2.same (by walk_at "ss")) plN)
    refine ⟨by decide, fun ab7 hb7 => ?_⟩
    have sb7 := same_upd (o := .tup [.int 2, .int 4]) hb7
    have eb7 : upd Gb6 ab7 (.tup [.int 2, .int 4]) ab7 = some (.tup [.int 2, .int 4]) := upd_same
    generalize upd Gb6 ab7 (.tup [.int 2, .int 4]) = Gb7 at *
    replace hDf := hDf.same sb7
    have pb7 : Pl Gb7 [D] (.tuple [.int 2, .int 4]) (.ref ab7) := plT hDf eb7 (plC (by rw [Pl]) (plC (by rw [Pl]) plN))
    refine ⟨by decide, fun ab8 hb8 => ?_⟩
    have sb8 := same_upd (o := .tup [V.ref ab7]) hb8
    have eb8 : upd Gb7 ab8 (.tup [V.ref ab7]) ab8 = some (.tup [V.ref ab7]) := upd_same
    generalize upd Gb7 ab8 (.tup [V.ref ab7]) = Gb8 at *
    replace hDf := hDf.same sb8
    have pb8 : Pl Gb8 [D] (.tuple [(.tuple [.int 2, .int 4])]) (.ref ab8) := plT hDf eb8 (plC (pb7.same (by walk_at "ss")) plN)
    refine ⟨by decide, fun ab9 hb9 => ?_⟩
    have sb9 := same_upd (o := .tup [V.ref ab8]) hb9
    have eb9 : upd Gb8 ab9 (.tup [V.ref ab8]) ab9 = some (.tup [V.ref ab8]) := upd_same
    generalize upd Gb8 ab9 (.tup [V.ref ab8]) = Gb9 at *
    replace hDf := hDf.same sb9
    have pb9 : Pl Gb9 [D] (.tuple [(.tuple [(.tuple [.int 2, .int 4])])]) (.ref ab9) := plT hDf eb9 (plC (pb8.same (by walk_at "ss")) plN)
    refine ⟨by decide, fun ab10 hb10 => ?_⟩
    have sb10 := same_upd (o := .tup [.int 1, .int 0]) hb10
    have eb10 : upd Gb9 ab10 (.tup [.int 1, .int 0]) ab10 = some (.tup [.int 1, .int 0]) := upd_same
    generalize upd Gb9 ab10 (.tup [.int 1, .int 0]) = Gb10 at *
    replace hDf := hDf.same sb10
    have pb10 : Pl Gb10 [D] (.tuple [.int 1, .int 0]) (.ref ab10) := plT hDf eb10 (plC (by rw [Pl]) (plC (by rw [Pl]) plN))
    refine ⟨by decide, fun ab11 hb11 => ?_⟩
    have sb11 := same_upd (o := .tup [V.ref ab10]) hb11
    have eb11 : upd Gb10 ab11 (.tup [V.ref ab10]) ab11 = some (.tup [V.ref ab10]) := upd_same
    generalize upd Gb10 ab11 (.tup [V.ref ab10]) = Gb11 at *
    replace hDf := hDf.same sb11
    have pb11 : Pl Gb11 [D] (.tuple [(.tuple [.int 1, .int 0])]) (.ref ab11) := plT hDf eb11 (plC (pb10.same (by walk_at "ss")) plN)
    refine ⟨by decide, fun ab12 hb12 => ?_⟩
    have sb12 := same_upd (o := .tup [V.ref ab11]) hb12
    have eb12 : upd Gb11 ab12 (.tup [V.ref ab11]) ab12 = some (.tup [V.ref ab11]) := upd_same
    generalize upd Gb11 ab12 (.tup [V.ref ab11]) = Gb12 at *
    replace hDf := hDf.same sb12
    have pb12 : Pl Gb12 [D] (.tuple [(.tuple [(.tuple [.int 1, .int 0])])]) (.ref ab12) := plT hDf eb12 (plC (pb11.same (by walk_at "ss")) plN)
    refine ⟨by decide, fun ab13 hb13 => ?_⟩
    have sb13 := same_upd (o := .tup [.str "1"]) hb13
    have eb13 : upd Gb12 ab13 (.tup [.str "1"]) ab13 = some (.tup [.str "1"]) := upd_same
    generalize upd Gb12 ab13 (.tup [.str "1"]) = Gb13 at *
    replace hDf := hDf.same sb13
    have pb13 : Pl Gb13 [D] (.tuple [.str "1"]) (.ref ab13) := plT hDf eb13 (plC (by rw [Pl]) plN)
    refine ⟨by decide, fun ab14 hb14 => ?_⟩
    have sb14 := same_upd (o := .tup [V.ref ab13]) hb14
    have eb14 : upd Gb13 ab14 (.tup [V.ref ab13]) ab14 = some (.tup [V.ref ab13]) := upd_same
    generalize upd Gb13 ab14 (.tup [V.ref ab13]) = Gb14 at *
    replace hDf := hDf.same sb14
    have pb14 : Pl Gb14 [D] (.tuple [(.tuple [.str "1"])]) (.ref ab14) := plT hDf eb14 (plC (pb13.same (by walk_at "ss")) plN)
    refine ⟨by decide, fun ab15 hb15 => ?_⟩
    have sb15 := same_upd (o := .lst [V.ref ab3, V.ref ab6, V.ref ab9, V.ref ab12, V.ref ab14]) hb15
    have eb15 : upd Gb14 ab15 (.lst [V.ref ab3, V.ref ab6, V.ref ab9, V.ref ab12, V.ref ab14]) ab15 = some (.lst [V.ref ab3, V.ref ab6, V.ref ab9, V.ref ab12, V.ref ab14]) := upd_same
    generalize upd Gb14 ab15 (.lst [V.ref ab3, V.ref ab6, V.ref ab9, V.ref ab12, V.ref ab14]) = Gb15 at *
    replace hDf := hDf.same sb15
    have hLf : Gb15 L = some (.lst xs) := (by walk_at "ss" : Same H2 Gb15) _ _ hL
    refine ⟨L, ab15, xs, _, rfl, rfl, hLf, eb15, ?_, ?_⟩
    · rw [sizeLine_eq]
      simp only [List.length_cons, List.length_nil]
      omega
    refine fun ab16 hb16 => ?_
    have nb16 : D ≠ ab16 := hDf.ne hb16
    have sb16 := same_upd (o := .lst (xs ++ [V.ref ab3, V.ref ab6, V.ref ab9, V.ref ab12, V.ref ab14])) hb16
    have eb16 : upd Gb15 ab16 (.lst (xs ++ [V.ref ab3, V.ref ab6, V.ref ab9, V.ref ab12, V.ref ab14])) ab16 = some (.lst (xs ++ [V.ref ab3, V.ref ab6, V.ref ab9, V.ref ab12, V.ref ab14])) := upd_same
    generalize upd Gb15 ab16 (.lst (xs ++ [V.ref ab3, V.ref ab6, V.ref ab9, V.ref ab12, V.ref ab14])) = Gb16 at *
    replace hDf := hDf.same sb16
    walk_at "z"
    refine ⟨D, ab16, _, rfl, hDf, nb16, eb16, by simp, ?_, fun v H3 hv k3 d3 => ?_⟩
    · simp only [List.length_append, List.length_cons, List.length_nil]
      omega
    · have up : ∀ {v : V} {d : PyData}, Pl Gb16 [D] d v → Pl H3 [D] d v := fun p => Pl.mono k3.kn _ _ p
      have kf : Keep D H H3 := (k2.same (by walk_at "ss")).trans k3
      rcases List.mem_append.mp hv with hv | hv
      · obtain ⟨d, hd, p⟩ := hA v hv
        exact hq v d H3 hd (up (p.same (by walk_at "ss"))) kf d3
      · simp only [List.mem_cons, List.not_mem_nil, or_false] at hv
        rcases hv with rfl | rfl | rfl | rfl | rfl
        · exact hq _ (.tuple (List.replicate 13 (.tuple [oneD g]))) H3 (List.mem_of_getElem? (i := 14) rfl) (up (r1.same (by walk_at "ss"))) kf d3
        · exact hq _ (.tuple [.tuple (List.replicate 13 (oneD g))]) H3 (List.mem_of_getElem? (i := 15) rfl) (up (pb6.same (by walk_at "ss"))) kf d3
        · exact hq _ (.tuple [(.tuple [(.tuple [.int 2, .int 4])])]) H3 (List.mem_of_getElem? (i := 16) rfl) (up (pb9.same (by walk_at "ss"))) kf d3
        · exact hq _ (.tuple [(.tuple [(.tuple [.int 1, .int 0])])]) H3 (List.mem_of_getElem? (i := 17) rfl) (up (pb12.same (by walk_at "ss"))) kf d3
        · exact hq _ (.tuple [(.tuple [.str "1"])]) H3 (List.mem_of_getElem? (i := 18) rfl) (up (pb14.same (by walk_at "ss"))) kf d3
  have main1 : ∀ (z1 z2 : V) (H1 : Hp), Pl H1 [D] (oneD g) z1 → Pl H1 [D] (farD g) z2 → Keep D H H1 → Dice H1 D → t__law_bad_table_k2_b K { nx := fun _ H' => Q .non H', rt := Q } [some (.ref D), some (.int g), some z1, some z2, none] H1 := by
    intro z1 z2 H1 p1 p2 k1 hDf
    unfold t__law_bad_table_k2_b
    walk_at "z"
    refine ⟨by decide, fun ac1 hc1 => ?_⟩
    have nc1 : D ≠ ac1 := hDf.ne hc1
    have sc1 := same_upd (o := .tup []) hc1
    have ec1 : upd H1 ac1 (.tup []) ac1 = some (.tup []) := upd_same
    generalize upd H1 ac1 (.tup []) = Gc1 at *
    replace hDf := hDf.same sc1
    have pc1 : Pl Gc1 [D] (.tuple []) (.ref ac1) := plT hDf ec1 plN
    refine ⟨by decide, fun ac2 hc2 => ?_⟩
    have nc2 : D ≠ ac2 := hDf.ne hc2
    have sc2 := same_upd (o := .tup []) hc2
    have ec2 : upd Gc1 ac2 (.tup []) ac2 = some (.tup []) := upd_same
    generalize upd Gc1 ac2 (.tup []) = Gc2 at *
    replace hDf := hDf.same sc2
    have pc2 : Pl Gc2 [D] (.tuple []) (.ref ac2) := plT hDf ec2 plN
    refine ⟨by decide, fun ac3 hc3 => ?_⟩
    have nc3 : D ≠ ac3 := hDf.ne hc3
    have sc3 := same_upd (o := .tup [V.ref ac2]) hc3
    have ec3 : upd Gc2 ac3 (.tup [V.ref ac2]) ac3 = some (.tup [V.ref ac2]) := upd_same
    generalize upd Gc2 ac3 (.tup [V.ref ac2]) = Gc3 at *
    replace hDf := hDf.same sc3
    have pc3 : Pl Gc3 [D] (.tuple [(.tuple [])]) (.ref ac3) := plT hDf ec3 (plC (pc2.same (by walk_at "ss")) plN)
    refine ⟨by decide, fun ac4 hc4 => ?_⟩
    have nc4 : D ≠ ac4 := hDf.ne hc4
    have sc4 := same_upd (o := .tup [z1]) hc4
    have ec4 : upd Gc3 ac4 (.tup [z1]) ac4 = some (.tup [z1]) := upd_same
    generalize upd Gc3 ac4 (.tup [z1]) = Gc4 at *
    replace hDf := hDf.same sc4
    have pc4 : Pl Gc4 [D] (.tuple [oneD g]) (.ref ac4) := plT hDf ec4 (plC (p1.same (by walk_at "ss")) plN)
    refine ⟨by decide, fun ac5 hc5 => ?_⟩
    have nc5 : D ≠ ac5 := hDf.ne hc5
    have sc5 := same_upd (o := .tup [z1]) hc5
    have ec5 : upd Gc4 ac5 (.tup [z1]) ac5 = some (.tup [z1]) := upd_same
    generalize upd Gc4 ac5 (.tup [z1]) = Gc5 at *
    replace hDf := hDf.same sc5
    have pc5 : Pl Gc5 [D] (.tuple [oneD g]) (.ref ac5) := plT hDf ec5 (plC (p1.same (by walk_at "ss")) plN)
    refine ⟨by decide, fun ac6 hc6 => ?_⟩
    have nc6 : D ≠ ac6 := hDf.ne hc6
    have sc6 := same_upd (o := .lst [V.ref ac5]) hc6
    have ec6 : upd Gc5 ac6 (.lst [V.ref ac5]) ac6 = some (.lst [V.ref ac5]) := upd_same
    generalize upd Gc5 ac6 (.lst [V.ref ac5]) = Gc6 at *
    replace hDf := hDf.same sc6
    have pc6 : Pl Gc6 [D] (.list [(.tuple [oneD g])]) (.ref ac6) := plL hDf ec6 (by simp) (plC (pc5.same (by walk_at "ss")) plN)
    refine ⟨by decide, fun ac7 hc7 => ?_⟩
    have nc7 : D ≠ ac7 := hDf.ne hc7
    have sc7 := same_upd (o := .lst [z1]) hc7
    have ec7 : upd Gc6 ac7 (.lst [z1]) ac7 = some (.lst [z1]) := upd_same
    generalize upd Gc6 ac7 (.lst [z1]) = Gc7 at *
    replace hDf := hDf.same sc7
    have pc7 : Pl Gc7 [D] (.list [oneD g]) (.ref ac7) := plL hDf ec7 (by simp) (plC (p1.same (by walk_at "ss")) plN)
    refine ⟨by decide, fun ac8 hc8 => ?_⟩
    have nc8 : D ≠ ac8 := hDf.ne hc8
    have sc8 := same_upd (o := .tup [V.ref ac7]) hc8
    have ec8 : upd Gc7 ac8 (.tup [V.ref ac7]) ac8 = some (.tup [V.ref ac7]) := upd_same
    generalize upd Gc7 ac8 (.tup [V.ref ac7]) = Gc8 at *
    replace hDf := hDf.same sc8
    have pc8 : Pl Gc8 [D] (.tuple [(.list [oneD g])]) (.ref ac8) := plT hDf ec8 (plC (pc7.same (by walk_at "ss")) plN)
    refine ⟨by decide, fun ac9 hc9 => ?_⟩
    have nc9 : D ≠ ac9 := hDf.ne hc9
    have sc9 := same_upd (o := .tup [z1]) hc9
    have ec9 : upd Gc8 ac9 (.tup [z1]) ac9 = some (.tup [z1]) := upd_same
    generalize upd Gc8 ac9 (.tup [z1]) = Gc9 at *
    replace hDf := hDf.same sc9
    have pc9 : Pl Gc9 [D] (.tuple [oneD g]) (.ref ac9) := plT hDf ec9 (plC (p1.same (by walk_at "ss")) plN)
    refine ⟨by decide, fun ac10 hc10 => ?_⟩
    have nc10 : D ≠ ac10 := hDf.ne hc10
    have sc10 := same_upd (o := .tup []) hc10
    have ec10 : upd Gc9 ac10 (.tup []) ac10 = some (.tup []) := upd_same
    generalize upd Gc9 ac10 (.tup []) = Gc10 at *
    replace hDf := hDf.same sc10
    have pc10 : Pl Gc10 [D] (.tuple []) (.ref ac10) := plT hDf ec10 plN
    refine ⟨by decide, fun ac11 hc11 => ?_⟩
    have nc11 : D ≠ ac11 := hDf.ne hc11
    have sc11 := same_upd (o := .tup [V.ref ac9, V.ref ac10]) hc11
    have ec11 : upd Gc10 ac11 (.tup [V.ref ac9, V.ref ac10]) ac11 = some (.tup [V.ref ac9, V.ref ac10]) := upd_same
    generalize upd Gc10 ac11 (.tup [V.ref ac9, V.ref ac10]) = Gc11 at *
    replace hDf := hDf.same sc11
    have pc11 : Pl Gc11 [D] (.tuple [(.tuple [oneD g]), (.tuple [])]) (.ref ac11) := plT hDf ec11 (plC (pc9.same (by walk_at "ss")) (plC (pc10.same (by walk_at "ss")) plN))
    refine ⟨by decide, fun ac12 hc12 => ?_⟩
    have nc12 : D ≠ ac12 := hDf.ne hc12
    have sc12 := same_upd (o := .tup [z1, z1]) hc12
    have ec12 : upd Gc11 ac12 (.tup [z1, z1]) ac12 = some (.tup [z1, z1]) := upd_same
    generalize upd Gc11 ac12 (.tup [z1, z1]) = Gc12 at *
    replace hDf := hDf.same sc12
    have pc12 : Pl Gc12 [D] (.tuple [oneD g, oneD g]) (.ref ac12) := plT hDf ec12 (plC (p1.same (by walk_at "ss")) (plC (p1.same (by walk_at "ss")) plN))
    refine ⟨by decide, fun ac13 hc13 => ?_⟩
    have nc13 : D ≠ ac13 := hDf.ne hc13
    have sc13 := same_upd (o := .tup [z1]) hc13
    have ec13 : upd Gc12 ac13 (.tup [z1]) ac13 = some (.tup [z1]) := upd_same
    generalize upd Gc12 ac13 (.tup [z1]) = Gc13 at *
    replace hDf := hDf.same sc13
    have pc13 : Pl Gc13 [D] (.tuple [oneD g]) (.ref ac13) := plT hDf ec13 (plC (p1.same (by walk_at "ss")) plN)
    refine ⟨by decide, fun ac14 hc14 => ?_⟩
    have nc14 : D ≠ ac14 := hDf.ne hc14
    have sc14 := same_upd (o := .tup [V.ref ac12, V.ref ac13]) hc14
    have ec14 : upd Gc13 ac14 (.tup [V.ref ac12, V.ref ac13]) ac14 = some (.tup [V.ref ac12, V.ref ac13]) := upd_same
    generalize upd Gc13 ac14 (.tup [V.ref ac12, V.ref ac13]) = Gc14 at *
    replace hDf := hDf.same sc14
    have pc14 : Pl Gc14 [D] (.tuple [(.tuple [oneD g, oneD g]), (.tuple [oneD g])]) (.ref ac14) := plT hDf ec14 (plC (pc12.same (by walk_at "ss")) (plC (pc13.same (by walk_at "ss")) plN))
    refine fun ac15 hc15 => ?_
    have nc15 : D ≠ ac15 := hDf.ne hc15
    have sc15 := same_upd (o := .dK []) hc15
    have ec15 : upd Gc14 ac15 (.dK []) ac15 = some (.dK []) := upd_same
    generalize upd Gc14 ac15 (.dK []) = Gc15 at *
    replace hDf := hDf.same sc15
    have pc15 : Pl Gc15 [D] (.dict []) (.ref ac15) := plK hDf ec15
    refine ⟨by decide, fun ac16 hc16 => ?_⟩
    have nc16 : D ≠ ac16 := hDf.ne hc16
    have sc16 := same_upd (o := .tup [.bl true]) hc16
    have ec16 : upd Gc15 ac16 (.tup [.bl true]) ac16 = some (.tup [.bl true]) := upd_same
    generalize upd Gc15 ac16 (.tup [.bl true]) = Gc16 at *
    replace hDf := hDf.same sc16
    have pc16 : Pl Gc16 [D] (.tuple [.bool true]) (.ref ac16) := plT hDf ec16 (plC (by rw [Pl]) plN)
    refine ⟨by decide, fun ac17 hc17 => ?_⟩
    have nc17 : D ≠ ac17 := hDf.ne hc17
    have sc17 := same_upd (o := .tup [V.ref ac16]) hc17
    have ec17 : upd Gc16 ac17 (.tup [V.ref ac16]) ac17 = some (.tup [V.ref ac16]) := upd_same
    generalize upd Gc16 ac17 (.tup [V.ref ac16]) = Gc17 at *
    replace hDf := hDf.same sc17
    have pc17 : Pl Gc17 [D] (.tuple [(.tuple [.bool true])]) (.ref ac17) := plT hDf ec17 (plC (pc16.same (by walk_at "ss")) plN)
    refine ⟨by decide, fun ac18 hc18 => ?_⟩
    have nc18 : D ≠ ac18 := hDf.ne hc18
    have sc18 := same_upd (o := .tup [.non]) hc18
    have ec18 : upd Gc17 ac18 (.tup [.non]) ac18 = some (.tup [.non]) := upd_same
    generalize upd Gc17 ac18 (.tup [.non]) = Gc18 at *
    replace hDf := hDf.same sc18
    have pc18 : Pl Gc18 [D] (.tuple [.none]) (.ref ac18) := plT hDf ec18 (plC (by rw [Pl]) plN)
    refine ⟨by decide, fun ac19 hc19 => ?_⟩
    have nc19 : D ≠ ac19 := hDf.ne hc19
    have sc19 := same_upd (o := .tup [V.ref ac18]) hc19
    have ec19 : upd Gc18 ac19 (.tup [V.ref ac18]) ac19 = some (.tup [V.ref ac18]) := upd_same
    generalize upd Gc18 ac19 (.tup [V.ref ac18]) = Gc19 at *
    replace hDf := hDf.same sc19
    have pc19 : Pl Gc19 [D] (.tuple [(.tuple [.none])]) (.ref ac19) := plT hDf ec19 (plC (pc18.same (by walk_at "ss")) plN)
    refine ⟨by decide, fun ac20 hc20 => ?_⟩
    have nc20 : D ≠ ac20 := hDf.ne hc20
    have sc20 := same_upd (o := .tup [z2]) hc20
    have ec20 : upd Gc19 ac20 (.tup [z2]) ac20 = some (.tup [z2]) := upd_same
    generalize upd Gc19 ac20 (.tup [z2]) = Gc20 at *
    replace hDf := hDf.same sc20
    have pc20 : Pl Gc20 [D] (.tuple [farD g]) (.ref ac20) := plT hDf ec20 (plC (p2.same (by walk_at "ss")) plN)
    refine ⟨by decide, fun ac21 hc21 => ?_⟩
    have nc21 : D ≠ ac21 := hDf.ne hc21
    have sc21 := same_upd (o := .tup [V.ref ac20]) hc21
    have ec21 : upd Gc20 ac21 (.tup [V.ref ac20]) ac21 = some (.tup [V.ref ac20]) := upd_same
    generalize upd Gc20 ac21 (.tup [V.ref ac20]) = Gc21 at *
    replace hDf := hDf.same sc21
    have pc21 : Pl Gc21 [D] (.tuple [(.tuple [farD g])]) (.ref ac21) := plT hDf ec21 (plC (pc20.same (by walk_at "ss")) plN)
    refine ⟨by decide, fun ac22 hc22 => ?_⟩
    have nc22 : D ≠ ac22 := hDf.ne hc22
    have sc22 := same_upd (o := .lst [.non, V.ref ac1, V.ref ac3, z1, V.ref ac4, V.ref ac6, V.ref ac8, V.ref ac11, V.ref ac14, .str "table", V.ref ac15, V.ref ac17, V.ref ac19, V.ref ac21]) hc22
    have ec22 : upd Gc21 ac22 (.lst [.non, V.ref ac1, V.ref ac3, z1, V.ref ac4, V.ref ac6, V.ref ac8, V.ref ac11, V.ref ac14, .str "table", V.ref ac15, V.ref ac17, V.ref ac19, V.ref ac21]) ac22 = some (.lst [.non, V.ref ac1, V.ref ac3, z1, V.ref ac4, V.ref ac6, V.ref ac8, V.ref ac11, V.ref ac14, .str "table", V.ref ac15, V.ref ac17, V.ref ac19, V.ref ac21]) := upd_same
    generalize upd Gc21 ac22 (.lst [.non, V.ref ac1, V.ref ac3, z1, V.ref ac4, V.ref ac6, V.ref ac8, V.ref ac11, V.ref ac14, .str "table", V.ref ac15, V.ref ac17, V.ref ac19, V.ref ac21]) = Gc22 at *
    replace hDf := hDf.same sc22
    refine main2 z1 z2 _ _ _ (p1.same (by walk_at "ss")) ec22 (by simp) (by simp) (fun v hv => ?_) (k1.same (by walk_at "ss")) hDf
    simp only [List.mem_cons, List.not_mem_nil, or_false] at hv
    rcases hv with rfl | rfl | rfl | rfl | rfl | rfl | rfl | rfl | rfl | rfl | rfl | rfl | rfl | rfl
    · exact ⟨.none, List.mem_of_getElem? (i := 0) rfl, (by rw [Pl])⟩
    · exact ⟨(.tuple []), List.mem_of_getElem? (i := 1) rfl, (pc1.same (by walk_at "ss"))⟩
    · exact ⟨(.tuple [(.tuple [])]), List.mem_of_getElem? (i := 2) rfl, (pc3.same (by walk_at "ss"))⟩
    · exact ⟨oneD g, List.mem_of_getElem? (i := 3) rfl, (p1.same (by walk_at "ss"))⟩
    · exact ⟨(.tuple [oneD g]), List.mem_of_getElem? (i := 4) rfl, (pc4.same (by walk_at "ss"))⟩
    · exact ⟨(.list [(.tuple [oneD g])]), List.mem_of_getElem? (i := 5) rfl, (pc6.same (by walk_at "ss"))⟩
    · exact ⟨(.tuple [(.list [oneD g])]), List.mem_of_getElem? (i := 6) rfl, (pc8.same (by walk_at "ss"))⟩
    · exact ⟨(.tuple [(.tuple [oneD g]), (.tuple [])]), List.mem_of_getElem? (i := 7) rfl, (pc11.same (by walk_at "ss"))⟩
    · exact ⟨(.tuple [(.tuple [oneD g, oneD g]), (.tuple [oneD g])]), List.mem_of_getElem? (i := 8) rfl, (pc14.same (by walk_at "ss"))⟩
    · exact ⟨.str "table", List.mem_of_getElem? (i := 9) rfl, (by rw [Pl])⟩
    · exact ⟨.dict [], List.mem_of_getElem? (i := 10) rfl, (pc15.same (by walk_at "ss"))⟩
    · exact ⟨(.tuple [(.tuple [.bool true])]), List.mem_of_getElem? (i := 11) rfl, (pc17.same (by walk_at "ss"))⟩
    · exact ⟨(.tuple [(.tuple [.none])]), List.mem_of_getElem? (i := 12) rfl, (pc19.same (by walk_at "ss"))⟩
    · exact ⟨(.tuple [(.tuple [farD g])]), List.mem_of_getElem? (i := 13) rfl, (pc21.same (by walk_at "ss"))⟩
  unfold t__law_bad_table
  walk_at "z"
  refine ⟨g, rfl, (g9 g hg).1, (g9 g hg).2, fun z1 H1 s1 n1 => ?_⟩
  have d1 := hD.same s1
  have p1 := pl_of_num d1 n1
  dsimp only
  by_cases g0 : g = 0
  · rw [if_pos g0]
    refine ⟨cpow (by decide), by decide, fun p hp => ?_⟩
    have s2 := same_upd (o := .tup [.int (10 ^ Int.toNat 20), .int 1]) hp
    refine main1 _ _ _ (p1.same s2) ?_ (((Keep.refl D H).same s1).same s2) (d1.same s2)
    unfold farD
    rw [if_pos g0]
    exact plT (d1.same s2) upd_same (plC (by rw [Pl]; rfl) (plC (by rw [Pl]) plN))
  · rw [if_neg g0]
    refine main1 _ _ _ p1 ?_ ((Keep.refl D H).same s1) d1
    unfold farD
    rw [if_neg g0, Pl]
theorem ok__law_bad_table {P : Program} {w : World} {K : PySem.W.Frag} {mg : Str → Option Value} {base : Heap} (T : Tx K mg) : Okk P w K mg base 3 "_law_bad_table" ["dice", "ground"] (sp__law_bad_table K) := by
  obtain ⟨fd__law_pick, F__law_pick, b__law_pick, g__law_pick, k__law_pick⟩ := ok__law_pick (P := P) (w := w) (base := base) T
  obtain ⟨fd__law_unit, F__law_unit, b__law_unit, g__law_unit, k__law_unit⟩ := ok__law_unit (P := P) (w := w) (base := base) T
  obtain ⟨fd, F⟩ := T.f__law_bad_table
  refine ⟨fd, F.ok sc__law_bad_table (fun vs H Q E h => len__law_bad_table h) (fun cdv A outer s H vs Q E hr h => ⟨t__law_bad_table K, PSs.nox ?_, pure__law_bad_table K vs H Q E h⟩), F.bindsN (fun _ _ _ _ _ _ us hl => match us, hl with | [_, _], _ => rfl), T.g__law_bad_table, F.kp⟩
  exact (pss_cons (ps_par (i := 2) (j := 3) rfl sc__law_bad_table.nd rfl rfl (by decide) rfl rfl (pa_cons (pe_call F__law_unit (hr.mono (by decide)) rfl g__law_unit k__law_unit b__law_unit .nil pass0 (pa_cons (pv 1) pa_nil)) (pa_cons (pe_ifExp (pt_cmpR op_eq (pv 1) pe_int (nomark _)) (pe_tup (pa_cons (pe_op op_pow pe_int pe_int) (pa_cons pe_int pa_nil))) (pv 1)) pa_nil)) (by rfl))
      (pss_cons (ps_set (i := 4) sc__law_bad_table.nd rfl (by first | exact Or.inl rfl | exact Or.inr rfl) (pe_lst (pa_cons pe_non (pa_cons (pe_tup pa_nil) (pa_cons (pe_tup (pa_cons (pe_tup pa_nil) pa_nil)) (pa_cons (pv 2) (pa_cons (pe_tup (pa_cons (pv 2) pa_nil)) (pa_cons (pe_lst (pa_cons (pe_tup (pa_cons (pv 2) pa_nil)) pa_nil)) (pa_cons (pe_tup (pa_cons (pe_lst (pa_cons (pv 2) pa_nil)) pa_nil)) (pa_cons (pe_tup (pa_cons (pe_tup (pa_cons (pv 2) pa_nil)) (pa_cons (pe_tup pa_nil) pa_nil))) (pa_cons (pe_tup (pa_cons (pe_tup (pa_cons (pv 2) (pa_cons (pv 2) pa_nil))) (pa_cons (pe_tup (pa_cons (pv 2) pa_nil)) pa_nil))) (pa_cons pe_str (pa_cons pe_dnewK (pa_cons (pe_tup (pa_cons (pe_tup (pa_cons pe_bl pa_nil)) pa_nil)) (pa_cons (pe_tup (pa_cons (pe_tup (pa_cons pe_non pa_nil)) pa_nil)) (pa_cons (pe_tup (pa_cons (pe_tup (pa_cons (pv 3) pa_nil)) pa_nil)) pa_nil))))))))))))))))
      (pss_cons (ps_set (i := 4) sc__law_bad_table.nd rfl (by first | exact Or.inl rfl | exact Or.inr rfl) (pe_op op_cat (pv 4) (pe_lst (pa_cons (pe_op op_repT (pe_tup (pa_cons (pe_tup (pa_cons (pv 2) pa_nil)) pa_nil)) pe_int) (pa_cons (pe_tup (pa_cons (pe_op op_repT (pe_tup (pa_cons (pv 2) pa_nil)) pe_int) pa_nil)) (pa_cons (pe_tup (pa_cons (pe_tup (pa_cons (pe_tup (pa_cons pe_int (pa_cons pe_int pa_nil))) pa_nil)) pa_nil)) (pa_cons (pe_tup (pa_cons (pe_tup (pa_cons (pe_tup (pa_cons pe_int (pa_cons pe_int pa_nil))) pa_nil)) pa_nil)) (pa_cons (pe_tup (pa_cons (pe_tup (pa_cons pe_str pa_nil)) pa_nil)) pa_nil))))))))
      (pss_one (ps_ret (pe_call F__law_pick (hr.mono (by decide)) rfl g__law_pick k__law_pick b__law_pick .nil pass0 (pa_cons (pv 0) (pa_cons (pv 4) pa_nil))))))))
/-! ### _law_right -/
theorem sc__law_right : FnScope ["dice", "bad", "ground", "odd", "one", "flat", "wide", "vector", "size", "told", "call", "due"] ["dice"] (defScope s__law_right) := ⟨rfl, rfl, rfl, by decide +kernel, rfl, by decide +kernel, by decide +kernel⟩
def sp__law_right (K : PySem.W.Frag) : Sp := fun vs H Q _ => ∃ D : Addr, vs = [.ref D] ∧ Dice H D ∧ LamX.Tabs (Ts K) H ∧ ∀ H', KN [D] H H' → Dice H' D → LamX.Tabs (Ts K) H' → Q (.bl true) H'
theorem len__law_right {K : PySem.W.Frag} {vs : List V} {H : Hp} {Q : VK} {E : XK} (h : sp__law_right K vs H Q E) : vs.length = ["dice"].length := by
  obtain ⟨_, rfl, _⟩ := h
  rfl
def t__law_right_f1_b (K : PySem.W.Frag) : TS := (tSeq (tDrop (tBM K "list" rAppend (tVar 9) (tCons (LamX.tLam (Ts K) (TMet K) (fun E => (tCallS 10 (fun f sp => (f = He.ga K "reduced_rows" ∧ sp = sp_reduced_rows K) ∨ (f = He.ga K "leads" ∧ sp = sp_leads K) ∨ (f = He.ga K "rank" ∧ sp = sp_rank K) ∨ (f = He.ga K "kernel" ∧ sp = sp_kernel K) ∨ (f = He.ga K "determinant" ∧ sp = sp_determinant K) ∨ (f = He.ga K "undoing" ∧ sp = sp_undoing K) ∨ (f = He.ga K "rank_answer" ∧ sp = sp_rank_answer K)) E (tCons (tVar 1) (tCons (tVar 3) tNil))))) tNil)))
  (tDrop (tBM K "list" rAppend (tVar 9) (tCons (LamX.tLam (Ts K) (TMet K) (fun E => (tCallS 10 (fun f sp => (f = He.ga K "reduced_rows" ∧ sp = sp_reduced_rows K) ∨ (f = He.ga K "leads" ∧ sp = sp_leads K) ∨ (f = He.ga K "rank" ∧ sp = sp_rank K) ∨ (f = He.ga K "kernel" ∧ sp = sp_kernel K) ∨ (f = He.ga K "determinant" ∧ sp = sp_determinant K) ∨ (f = He.ga K "undoing" ∧ sp = sp_undoing K) ∨ (f = He.ga K "rank_answer" ∧ sp = sp_rank_answer K)) E (tCons (tVar 2) (tCons (tVar 3) tNil))))) tNil))))
def t__law_right_f2_b (K : PySem.W.Frag) : TS := (tSeq (tDrop (tBM K "list" rAppend (tVar 9) (tCons (LamX.tLam (Ts K) (TMet K) (fun E => (tCallS 10 (fun f sp => (f = He.ga K "table_product" ∧ sp = sp_table_product K) ∨ (f = He.ga K "solve_answer" ∧ sp = sp_solve_answer K)) E (tCons (tVar 1) (tCons (tVar 3) (tCons (tC .non) tNil)))))) tNil)))
  (tDrop (tBM K "list" rAppend (tVar 9) (tCons (LamX.tLam (Ts K) (TMet K) (fun E => (tCallS 10 (fun f sp => (f = He.ga K "table_product" ∧ sp = sp_table_product K) ∨ (f = He.ga K "solve_answer" ∧ sp = sp_solve_answer K)) E (tCons (tVar 2) (tCons (tVar 3) (tCons (tC .non) tNil)))))) tNil))))
def t__law_right_k3_b (K : PySem.W.Frag) : TS := (tSeq (tDrop (tBM K "list" rAppend (tVar 9) (tCons (LamX.tLam (Ts K) (TMet K) (fun E => (tCall (sp_determinant K) [] E (tCons (tVar 2) (tCons (tVar 6) tNil))))) tNil)))
  (tSeq (tDrop (tBM K "list" rAppend (tVar 9) (tCons (LamX.tLam (Ts K) (TMet K) (fun E => (tCall (sp_undoing K) [] E (tCons (tVar 2) (tCons (tVar 6) tNil))))) tNil)))
  (tSeq (tDrop (tBM K "list" rAppend (tVar 9) (tCons (LamX.tLam (Ts K) (TMet K) (fun E => (tCall (sp_undoing K) [] E (tCons (tVar 2) (tCons (tVar 5) tNil))))) tNil)))
  (tSeq (tDrop (tBM K "list" rAppend (tVar 9) (tCons (LamX.tLam (Ts K) (TMet K) (fun E => (tCall (sp_unit_table K) [] E (tCons (tVar 1) (tCons (tVar 8) tNil))))) tNil)))
  (tSeq (tDrop (tBM K "list" rAppend (tVar 9) (tCons (LamX.tLam (Ts K) (TMet K) (fun E => (tCall (sp_unit_table K) [] E (tCons (tVar 2) (tCons (tVar 8) tNil))))) tNil)))
  (tSeq (tDrop (tBM K "list" rAppend (tVar 9) (tCons (LamX.tLam (Ts K) (TMet K) (fun E => (tCall (sp_is_table K) [] E (tCons (tVar 1) (tCons (tC .non) tNil))))) tNil)))
  (tSeq (tAsg (tOp rCat (tOp rCat (tVar 11) (tOp rRep (tLst (tCons (tTup (tCons (tC (.str "raised")) (tCons (tC (.str "operation")) tNil))) tNil)) (tC (.int 2)))) (tLst (tCons (tTup (tCons (tC (.str "raised")) (tCons (tC (.str "refused ('flat',)")) tNil))) (tCons (tTup (tCons (tC (.str "raised")) (tCons (tOp rAddS (tC (.str "ground ")) (tCB (rRepV K) (tCons (tVar 1) tNil))) tNil))) tNil)))) (gName 11))
  (tSeq (tAsg (tOp rCat (tVar 11) (tLst (tCons (tTup (tCons (tC (.str "raised")) (tCons (tOp rAddS (tC (.str "number ")) (tCB (rRepV K) (tCons (tVar 8) tNil))) tNil))) (tCons (tTup (tCons (tC (.str "raised")) (tCons (tOp rAddS (tC (.str "ground ")) (tCB (rRepV K) (tCons (tVar 1) tNil))) tNil))) tNil)))) (gName 11))
  (tRet (tAndV (tOp (rEqD K) (tVar 9) (tVar 11)) (tAndV (tNotV (tCall (sp_is_table K) [] E0 (tCons (tVar 2) (tCons (tVar 3) tNil)))) (tCall (sp_is_table K) [] E0 (tCons (tVar 2) (tCons (tVar 5) tNil))))))))))))))
def t__law_right_k4_b (K : PySem.W.Frag) : TS := (tSeq (tFor (iTup K (tTup (tCons (tC (.ref (He.ga K "table_product"))) (tCons (tC (.ref (He.ga K "solve_answer"))) tNil)))) (gName 10) (t__law_right_f2_b K))
  (tSeq (tDrop (tBM K "list" rAppend (tVar 9) (tCons (LamX.tLam (Ts K) (TMet K) (fun E => (tCall (sp_table_product K) [] E (tCons (tVar 2) (tCons (tVar 5) (tCons (tVar 3) tNil)))))) tNil)))
  (tSeq (tDrop (tBM K "list" rAppend (tVar 9) (tCons (LamX.tLam (Ts K) (TMet K) (fun E => (tCall (sp_table_product K) [] E (tCons (tVar 2) (tCons (tVar 5) (tCons (tVar 6) tNil)))))) tNil)))
  (tSeq (tDrop (tBM K "list" rAppend (tVar 9) (tCons (LamX.tLam (Ts K) (TMet K) (fun E => (tCall (sp_solve_answer K) [] E (tCons (tVar 2) (tCons (tVar 5) (tCons (tVar 7) tNil)))))) tNil)))
  (tSeq (tAsg (tOp rCat (tOp rCat (tVar 11) (tSl (rSlL K) (tVar 11) tNoPart (tPart (tC (.int 4))))) (tLst (tCons (tTup (tCons (tC (.str "raised")) (tCons (tC (.str "table")) tNil))) (tCons (tTup (tCons (tC (.str "raised")) (tCons (tC (.str "operation")) tNil))) (tCons (tTup (tCons (tC (.str "raised")) (tCons (tC (.str "table")) tNil))) tNil))))) (gName 11))
  (t__law_right_k3_b K))))))
def t__law_right_k5_b (K : PySem.W.Frag) : TS := (tSeq (tAsg (tLst tNil) (gName 9))
  (tSeq (tFor (iTup K (tTup (tCons (tC (.ref (He.ga K "reduced_rows"))) (tCons (tC (.ref (He.ga K "leads"))) (tCons (tC (.ref (He.ga K "rank"))) (tCons (tC (.ref (He.ga K "kernel"))) (tCons (tC (.ref (He.ga K "determinant"))) (tCons (tC (.ref (He.ga K "undoing"))) (tCons (tC (.ref (He.ga K "rank_answer"))) tNil))))))))) (gName 10) (t__law_right_f1_b K))
  (tSeq (tAsg (tOp rRep (tLst (tCons (tTup (tCons (tC (.str "raised")) (tCons (tOp rAddS (tC (.str "ground ")) (tCB (rRepV K) (tCons (tVar 1) tNil))) tNil))) (tCons (tTup (tCons (tC (.str "raised")) (tCons (tC (.str "table")) tNil))) tNil))) (tC (.int 7))) (gName 11))
  (t__law_right_k4_b K))))
def t__law_right_k6_b (K : PySem.W.Frag) : TS := (tSeq (tAsg (tCall (sp__law_pick K) [] E0 (tCons (tVar 0) (tCons (tLst (tCons (tC .non) (tCons (tTup tNil) (tCons (tTup (tCons (tVar 4) tNil)) (tCons (tLst (tCons (tVar 4) (tCons (tVar 4) tNil))) (tCons (tTup (tCons (tVar 4) (tCons (tVar 4) (tCons (tVar 4) tNil)))) (tCons (tTup (tCons (tVar 4) (tCons (tC .non) tNil))) (tCons (tTup (tCons (tVar 4) (tCons (tC (.bl true)) tNil))) (tCons (tTup (tCons (tTup (tCons (tVar 4) (tCons (tVar 4) tNil))) tNil)) (tCons (tC (.str "11")) (tCons (tTup (tCons (tVar 4) (tCons (tTup (tCons (tC (.int 2)) (tCons (tC (.int 4)) tNil))) tNil))) tNil))))))))))) tNil))) (gName 7))
  (tSeq (tAsg (tCall (sp__law_pick K) [] E0 (tCons (tVar 0) (tCons (tLst (tCons (tC .non) (tCons (tC (.int 0)) (tCons (tC (.int 13)) (tCons (tUn rNeg (tC (.int 1))) (tCons (tC (.bl true)) (tCons (tC (.str "1")) (tCons (tTup (tCons (tC (.int 1)) tNil)) (tCons (tOp rPowU (tC (.int 10)) (tC (.int 60))) tNil))))))))) tNil))) (gName 8))
  (t__law_right_k5_b K)))
def t__law_right (K : PySem.W.Frag) : TS := (tSeq (tAsg (tCall (sp__law_pick K) [] E0 (tCons (tVar 0) (tCons (tLst (tCons (tC .non) (tCons (tUn rNeg (tC (.int 1))) (tCons (tC (.int 1)) (tCons (tC (.int 4)) (tCons (tC (.int 9999)) (tCons (tC (.int 10007)) (tCons (tC (.bl true)) (tCons (tC (.str "2")) (tCons (tTup (tCons (tC (.int 2)) tNil)) (tCons (tOp rPowU (tC (.int 10)) (tC (.int 60))) (tCons (tOp rMulU (tC (.int 2)) (tOp rPowU (tC (.int 10)) (tC (.int 60)))) tNil)))))))))))) tNil))) (gName 1))
  (tSeq (tAsg (tCall (sp__law_eq_ground K) [] E0 (tCons (tVar 0) tNil)) (gName 2))
  (tSeq (tAsg (tTup (tCons (tCall (sp__law_bad_table K) [] E0 (tCons (tVar 0) (tCons (tVar 2) tNil))) (tCons (tCall (sp__law_unit K) [] E0 (tCons (tVar 2) tNil)) tNil))) (gTup K 2 (gCons (gName 3) (gCons (gName 4) gNil))))
  (tSeq (tAsg (tTup (tCons (tTup (tCons (tTup (tCons (tVar 4) (tCons (tVar 4) tNil))) (tCons (tTup (tCons (tVar 4) (tCons (tVar 4) tNil))) tNil))) (tCons (tTup (tCons (tTup (tCons (tVar 4) (tCons (tVar 4) tNil))) tNil)) tNil))) (gTup K 2 (gCons (gName 5) (gCons (gName 6) gNil))))
  (t__law_right_k6_b K)))))
def badG : List PyData := [.none, .int (-1), .int (1), .int (4), .int (9999), .int (10007), .bool true, .str "2", .tuple [.int (2)], .int (10 ^ Int.toNat 60), .int (2 * 10 ^ Int.toNat 60)]
def badV (g : Int) : List PyData := [.none, .tuple [], .tuple [oneD g], .list [oneD g, oneD g], .tuple [oneD g, oneD g, oneD g], .tuple [oneD g, .none], .tuple [oneD g, .bool true], .tuple [.tuple [oneD g, oneD g]], .str "11", .tuple [oneD g, .tuple [.int (2), .int (4)]]]
def badS : List PyData := [.none, .int (0), .int (13), .int (-1), .bool true, .str "1", .tuple [.int (1)], .int (10 ^ Int.toNat 60)]
def flatD (g : Int) : PyData := .tuple [.tuple [oneD g, oneD g], .tuple [oneD g, oneD g]]
def wideD (g : Int) : PyData := .tuple [.tuple [oneD g, oneD g]]
theorem badG_rep : ∀ d ∈ badG, repOk d = true := by decide +kernel
theorem badG_shw : ∀ d ∈ badG, shwOk "ground " d = true := by decide +kernel
theorem badS_rep : ∀ d ∈ badS, repOk d = true := by decide +kernel
theorem badS_shw : ∀ d ∈ badS, shwOk "number " d = true := by decide +kernel
theorem badV_ok : ∀ g ∈ gs7, ∀ d ∈ badV g, vecB g 2 (10 ^ 20) d = false ∧ True := by decide +kernel
theorem flat_ok : ∀ g ∈ gs7, tabB g 12 12 (10 ^ 20) (flatD g) = true ∧ True := by decide +kernel
theorem wide_ok : ∀ g ∈ gs7, tabB g 12 12 (10 ^ 20) (wideD g) = true ∧ True := by decide +kernel
theorem badG_no {H : Hp} {no : List Addr} {d : PyData} {v : V} (h : d ∈ badG) (p : Pl H no d v) : ¬ GroundV v := by
  rintro ⟨n, rfl, h0, h9, hp⟩
  have e := pl_int p
  subst e
  simp only [badG, List.mem_cons, List.not_mem_nil, or_false, PyData.int.injEq, reduceCtorEq, false_or] at h
  rcases h with rfl | rfl | rfl | rfl | rfl | rfl | rfl
  · omega
  · rcases hp with hp | hp
    · omega
    · have := hp.1; omega
  · rcases hp with hp | hp
    · omega
    · exact hp.2 2 (by decide) (by decide) (by decide)
  · rcases hp with hp | hp
    · omega
    · exact hp.2 3 (by decide) (by decide) (by decide)
  · omega
  · exact absurd h9 (by decide)
  · exact absurd h9 (by decide)
theorem badS_no {H : Hp} {no : List Addr} {d : PyData} {v : V} (h : d ∈ badS) (p : Pl H no d v) : ∀ n, v = .int n → n < 1 ∨ 12 < n := by
  rintro n rfl
  have e := pl_int p
  subst e
  simp only [badS, List.mem_cons, List.not_mem_nil, or_false, PyData.int.injEq, reduceCtorEq, false_or] at h
  rcases h with rfl | rfl | rfl | rfl
  · exact .inl (by decide)
  · exact .inr (by decide)
  · exact .inl (by decide)
  · exact .inr (by decide)
abbrev vs12 (g : Int) (bad odd flat wide vector size : V) (db dod dv dz : PyData) : List (V × PyData) := [(bad, db), (odd, dod), (flat, flatD g), (wide, wideD g), (vector, dv), (size, dz)]
abbrev gW (d : PyData) : List Str := ["raised", ("ground " : Str) ++ d.shown]
abbrev nW (d : PyData) : List Str := ["raised", ("number " : Str) ++ d.shown]
abbrev tW : List Str := ["raised", "table"]
abbrev oW : List Str := ["raised", "operation"]
abbrev fW : List Str := ["raised", "refused ('flat',)"]
theorem gW_ok {d : PyData} (r : shwOk "ground " d = true) : (gW d).all PyData.strOk = true := by
  unfold shwOk at r
  rw [Bool.and_eq_true] at r
  simp only [List.all_cons, List.all_nil, r.2, Bool.and_true]
  decide +kernel
theorem nW_ok {d : PyData} (r : shwOk "number " d = true) : (nW d).all PyData.strOk = true := by
  unfold shwOk at r
  rw [Bool.and_eq_true] at r
  simp only [List.all_cons, List.all_nil, r.2, Bool.and_true]
  decide +kernel
def F7 (K : PySem.W.Frag) (f : Addr) (sp : Sp) : Prop := (f = He.ga K "reduced_rows" ∧ sp = sp_reduced_rows K) ∨ (f = He.ga K "leads" ∧ sp = sp_leads K) ∨ (f = He.ga K "rank" ∧ sp = sp_rank K) ∨ (f = He.ga K "kernel" ∧ sp = sp_kernel K) ∨ (f = He.ga K "determinant" ∧ sp = sp_determinant K) ∨ (f = He.ga K "undoing" ∧ sp = sp_undoing K) ∨ (f = He.ga K "rank_answer" ∧ sp = sp_rank_answer K)
theorem bad7 {K : PySem.W.Frag} {f : Addr} {sp : Sp} {E : XK} {H : Hp} {v w : V} {Q : VK} (h : F7 K f sp) (b : Bad2 K E H v w) : sp [v, w] H Q E := by
  rcases h with ⟨_, rfl⟩ | ⟨_, rfl⟩ | ⟨_, rfl⟩ | ⟨_, rfl⟩ | ⟨_, rfl⟩ | ⟨_, rfl⟩ | ⟨_, rfl⟩
  · exact ⟨v, w, rfl, b⟩
  · exact ⟨v, w, rfl, b⟩
  · exact ⟨v, w, rfl, b⟩
  · exact ⟨v, w, rfl, b⟩
  · exact ⟨v, w, rfl, .inl b⟩
  · exact ⟨v, w, rfl, .inl b⟩
  · exact ⟨v, w, rfl, .inl b⟩
def F2 (K : PySem.W.Frag) (f : Addr) (sp : Sp) : Prop := (f = He.ga K "table_product" ∧ sp = sp_table_product K) ∨ (f = He.ga K "solve_answer" ∧ sp = sp_solve_answer K)
theorem bad2f {K : PySem.W.Frag} {f : Addr} {sp : Sp} {E : XK} {H : Hp} {v w u : V} {Q : VK} (h : F2 K f sp) (b : Bad2 K E H v w) : sp [v, w, u] H Q E := by
  rcases h with ⟨_, rfl⟩ | ⟨_, rfl⟩
  · exact ⟨v, w, u, rfl, .inl b⟩
  · exact ⟨v, w, u, rfl, .inl b⟩
theorem rep_more {α : Type} (a b : α) (i : Nat) : (List.replicate i [a, b]).flatten ++ [a] ++ [b] = (List.replicate (i + 1) [a, b]).flatten := by
  rw [List.replicate_succ', List.flatten_append]
  simp
theorem rep_len {α : Type} (a b : α) (i : Nat) : (List.replicate i [a, b]).flatten.length = i * 2 := by simp
/-- a list of words that is not changed -/
theorem Told.kn {H H' : Hp} {M : Addr} {ws : List (List Str)} {no : List Addr} (t : Told H M ws) (k : KN no H H') (hM : M ∉ no) (hno : ∀ b ∈ no, ∃ xs, H b = some (.lst xs)) : Told H' M ws := by
  obtain ⟨xs, h, r⟩ := t
  refine ⟨xs, k M _ hM h (fun _ z => by cases z), r.mono fun p ys q => k p _ (fun z => ?_) q (fun _ z => by cases z)⟩
  obtain ⟨zs, e⟩ := hno p z
  rw [e] at q
  cases q
theorem Wds.restart {K : PySem.W.Frag} {D : Addr} {H0 H : Hp} {no : List Addr} {vs : List (V × PyData)} {L : Addr} {ws : List (List Str)} (s : Wds K D H0 no vs L ws H) : Wds K D H no vs L ws H := ⟨s.c.restart, s.l, s.t⟩
theorem Wds.same {K : PySem.W.Frag} {D : Addr} {H0 H H' : Hp} {no : List Addr} {vs : List (V × PyData)} {L : Addr} {ws : List (List Str)} (s : Wds K D H0 no vs L ws H) (e : Same H H') : Wds K D H0 no vs L ws H' := ⟨s.c.same e, s.l, s.t.same e⟩
theorem Wds.lists {K : PySem.W.Frag} {D : Addr} {H0 H : Hp} {vs : List (V × PyData)} {L : Addr} {ws : List (List Str)} (s : Wds K D H0 [L] vs L ws H) : ∀ b ∈ [D, L], ∃ xs, H b = some (.lst xs) := fun b hb => by
  simp only [List.mem_cons, List.not_mem_nil, or_false] at hb
  rcases hb with rfl | rfl
  · obtain ⟨_, _, _, e⟩ := s.c.dice
    exact ⟨_, e⟩
  · obtain ⟨xs, e, _⟩ := s.t
    exact ⟨_, e⟩
theorem Wds.new {K : PySem.W.Frag} {D : Addr} {H0 H : Hp} {vs : List (V × PyData)} {L p : Addr} {ws : List (List Str)} (s : Wds K D H0 [L] vs L ws H) (hp : H p = none) : p ∉ [D, L] := fun hb => by
  obtain ⟨xs, e⟩ := s.lists p hb
  rw [hp] at e
  cases e
section
variable {F : Type} [Lean.Grind.Field F] {g : Nat}
theorem at_no {qss : List (List (Int × Int))} {i : Nat} (hi : ¬ i < qss.length) (j : Nat) : atF F qss i j = 0 := by
  unfold atF
  rw [List.getD_eq_getElem?_getD, List.getElem?_eq_none (by omega)]
  exact rowF_no (by simp)
theorem at_no2 {qss : List (List (Int × Int))} {n j : Nat} (hW : ∀ qs ∈ qss, qs.length = n) (hj : ¬ j < n) (i : Nat) : atF F qss i j = 0 := by
  by_cases hi : i < qss.length
  · rw [atF_at (List.getElem?_eq_getElem hi)]
    have := hW _ (List.getElem_mem hi)
    exact rowF_no (by omega)
  · exact at_no hi j
theorem unit_len {n : Nat} : (unitQ n).length = n ∧ ∀ qs ∈ unitQ n, qs.length = n := by
  refine ⟨by simp [unitQ], fun qs hq => ?_⟩
  obtain ⟨i, _, rfl⟩ := List.mem_map.mp hq
  simp
theorem unit_row {n i : Nat} (hi : i < n) : (unitQ n)[i]? = some ((List.range n).map fun j => (if i = j then ((1 : Int), (1 : Int)) else (0, 1))) := by
  unfold unitQ
  rw [List.getElem?_map, List.getElem?_range hi]; rfl
theorem unit_at {n i j : Nat} (hi : i < n) (hj : j < n) : atF F (unitQ n) i j = if i = j then 1 else 0 := by
  rw [atF_at (unit_row hi), rowF_at (q := if i = j then ((1 : Int), (1 : Int)) else (0, 1)) (by rw [List.getElem?_map, List.getElem?_range hj]; rfl)]
  by_cases e : i = j
  · rw [if_pos e, if_pos e, Lin.val_one, Lin.ph_one]
  · rw [if_neg e, if_neg e, Lin.val_one, Lin.ph_zero]
variable [Lean.Grind.IsCharP F g]
theorem whole_val {qs : List (Int × Int)} {ns : List Int} (hb : ∀ q ∈ qs, 1 ≤ q.2 ∧ ((g : Int) ≠ 0 → q.2 = 1)) (h : WholeR qs ns) : ∃ B : Int, Lin.ph F B ≠ 0 ∧ (∀ j, Lin.ph F (Lin.fn ns j) = Lin.ph F B * rowF F qs j) ∧ ns.length = qs.length := by
  obtain ⟨B, hB, hd, hle, rfl⟩ := h
  have hBne : Lin.ph F B ≠ 0 := by
    by_cases g0 : g = 0
    · subst g0
      exact fun e => by rw [Lin.ph_eq_zero 0] at e; simp at e; omega
    · have e1 : prI (qs.map (·.2)) = 1 := prI_one fun n hn => by
        obtain ⟨q, hq, rfl⟩ := List.mem_map.mp hn
        exact (hb q hq).2 (by omega)
      have e2 : B = 1 := by omega
      rw [e2, Lin.ph_one]; exact Lin.one_ne
  refine ⟨B, hBne, fun j => ?_, by simp⟩
  unfold Lin.fn
  by_cases hj : j < qs.length
  · have hq := List.getElem?_eq_getElem hj
    rw [rowF_at hq, List.getD_eq_getElem?_getD, List.getElem?_map, hq]
    generalize qs[j] = q at hq
    obtain ⟨k, hk⟩ := hd q (List.mem_of_getElem? hq)
    have h1 := (hb q (List.mem_of_getElem? hq)).1
    have hk2 : B / q.2 = k := by rw [hk]; exact Int.mul_ediv_cancel_left _ (by omega)
    show Lin.ph F (q.1 * (B / q.2)) = _ * Lin.val F q.1 q.2
    rw [hk2]
    have e := congrArg (Lin.ph F) hk
    rw [Lin.ph_mul] at e
    have hq0 : Lin.ph F q.2 ≠ 0 := fun c => hBne (by rw [e, c]; grind)
    unfold Lin.val
    rw [Lin.ph_mul, e]
    grind
  · rw [rowF_no (by omega), List.getD_eq_getElem?_getD, List.getElem?_eq_none (by simp; omega)]
    show Lin.ph F 0 = _
    rw [Lin.ph_zero]; grind
theorem tab_bot {H : Hp} {v : V} {qss : List (List (Int × Int))} (hT : TabN H g v qss) : ∀ qs ∈ qss, ∀ q ∈ qs, 1 ≤ q.2 ∧ ((g : Int) ≠ 0 → q.2 = 1) := fun qs hqs q hq => by
  obtain ⟨w, hr⟩ := tab_row hT hqs
  have := row_bot hr q hq
  exact ⟨this.1, fun c => (this.2 c).1⟩
theorem unit_bot {n : Nat} : ∀ qs ∈ unitQ n, ∀ q ∈ qs, 1 ≤ q.2 ∧ ((g : Int) ≠ 0 → q.2 = 1) ∧ q.1.natAbs ≤ 1 ∧ q.2 = 1 := fun qs hqs q hq => by
  obtain ⟨i, _, rfl⟩ := List.mem_map.mp hqs
  obtain ⟨j, _, rfl⟩ := List.mem_map.mp hq
  split <;> exact ⟨by decide, fun _ => rfl, by decide, rfl⟩
theorem rowF_app {qs rs : List (Int × Int)} (j : Nat) : (j < qs.length → rowF F (qs ++ rs) j = rowF F qs j) ∧ rowF F (qs ++ rs) (qs.length + j) = rowF F rs j := by
  refine ⟨fun hj => ?_, ?_⟩
  · have h1 := List.getElem?_eq_getElem hj
    rw [rowF_at h1]
    exact rowF_at (by rw [List.getElem?_append_left hj, h1])
  · by_cases hj : j < rs.length
    · have h1 := List.getElem?_eq_getElem hj
      rw [rowF_at h1]
      exact rowF_at (by rw [List.getElem?_append_right (by omega), show qs.length + j - qs.length = j by omega, h1])
    · rw [rowF_no (by rw [List.length_append]; omega), rowF_no (by omega)]
theorem side_rows {H : Hp} {v : V} {qss : List (List (Int × Int))} {n : Nat} {nss : List (List Int)} (hT : TabN H g v qss) (hl : qss.length = n) (hW : ∀ qs ∈ qss, qs.length = n) (hA : All2 WholeR (List.zipWith (fun a b => a ++ b) qss (unitQ n)) nss) : ∃ w : Nat → F, (∀ i, w i ≠ 0) ∧ ∀ i ns, nss[i]? = some ns → (∀ j, j < n → Lin.ph F (Lin.fn ns j) = w i * atF F qss i j) ∧ ∀ j, j < n → Lin.ph F (Lin.fn ns (n + j)) = w i * if i = j then 1 else 0 := by
  have key : ∀ i : Nat, ∃ w : F, w ≠ 0 ∧ ∀ ns, nss[i]? = some ns → (∀ j, j < n → Lin.ph F (Lin.fn ns j) = w * atF F qss i j) ∧ ∀ j, j < n → Lin.ph F (Lin.fn ns (n + j)) = w * if i = j then 1 else 0 := fun i => by
    have hz : (List.zipWith (fun a b => a ++ b) qss (unitQ n)).length = n := by
      rw [List.length_zipWith, hl, unit_len.1]; omega
    by_cases hi : i < n
    · have h1 := List.getElem?_eq_getElem (show i < qss.length by omega)
      have h2 := List.getElem?_eq_getElem (show i < nss.length by rw [← hA.1, hz]; exact hi)
      have hu := unit_row hi
      have h3 : (List.zipWith (fun a b => a ++ b) qss (unitQ n))[i]? = some (qss[i] ++ (List.range n).map fun j => (if i = j then ((1 : Int), (1 : Int)) else (0, 1))) := by
        rw [List.getElem?_zipWith, h1, hu]
      have hm := List.getElem_mem (show i < qss.length by omega)
      have hlq := hW _ hm
      have hb := tab_bot hT _ hm
      obtain ⟨B, b1, b2, _⟩ := whole_val (F := F) (g := g) (fun q hq => by
        rcases List.mem_append.mp hq with hq | hq
        · exact hb q hq
        · have := unit_bot (g := g) _ (List.mem_of_getElem? hu) q hq
          exact ⟨this.1, this.2.1⟩) (hA.2 i _ _ h3 h2)
      refine ⟨_, b1, fun ns hns => ?_⟩
      rw [h2] at hns
      cases hns
      refine ⟨fun j hj => ?_, fun j hj => ?_⟩
      · rw [b2, (rowF_app j).1 (by omega), atF_at h1]
      · have := (rowF_app (F := F) (qs := qss[i]) (rs := (List.range n).map fun j => (if i = j then ((1 : Int), (1 : Int)) else (0, 1))) j).2
        rw [hlq] at this
        rw [b2, this, ← atF_at (F := F) hu, unit_at hi hj]
    · refine ⟨1, Lin.one_ne, fun ns hns => ?_⟩
      have := (List.getElem?_eq_some_iff.mp hns).1
      rw [← hA.1, hz] at this
      exact absurd this hi
  exact ⟨fun i => Classical.choose (key i), fun i => (Classical.choose_spec (key i)).1, fun i => (Classical.choose_spec (key i)).2⟩
end
theorem cut_to {xs : List V} {n : Nat} (h : n ≤ xs.length) : cutV xs none (some (n : Int)) = xs.take n := by
  unfold cutV
  have e0 : HT.sIx xs.length 0 none = 0 := rfl
  have e1 : HT.sIx xs.length xs.length (some (n : Int)) = n := by
    rw [HT.sIx_nat, Nat.min_eq_left h]
  rw [e0, e1]
  simp
theorem TS1.rep {H : Hp} {xs : List V} {ws : List (List Str)} (r : TS1 H xs ws) : ∀ n : Nat, TS1 H (List.replicate n xs).flatten (List.replicate n ws).flatten
  | 0 => .nil
  | n + 1 => by
    rw [List.replicate_succ, List.replicate_succ, List.flatten_cons, List.flatten_cons]
    exact r.app (TS1.rep r n)
theorem TS1.same {H H' : Hp} {xs : List V} {ws : List (List Str)} (r : TS1 H xs ws) (s : Same H H') : TS1 H' xs ws := r.mono fun p ys h => s _ _ h
theorem TS1.take {H : Hp} {xs : List V} {ws : List (List Str)} (r : TS1 H xs ws) (n : Nat) : TS1 H (xs.take n) (ws.take n) := by
  unfold TS1 at r ⊢
  induction r generalizing n with
  | nil => rw [List.take_nil, List.take_nil]; exact .nil
  | cons h _ ih =>
    cases n with
    | zero => exact .nil
    | succ n => exact .cons h (ih n)
theorem ts_one {H : Hp} {q : Addr} {w : List Str} (h : H q = some (.tup (w.map V.str))) (k : w.all PyData.strOk = true) : TS1 H [V.ref q] [w] := .cons ⟨q, rfl, h, k⟩ .nil
theorem fin12 {D L : Addr} {H H1 H3 H4 H9 Hf : Hp} (c : KN [D] H H1) (hL : H1 L = none) (s : Same H1 H3) (k : KN [D, L] H3 H4) (s2 : Same H4 H9) (kf : KN [D, L] H9 Hf) : KN [D] H Hf := fun b o hb e t => by
  have e1 := c b o hb e t
  have nb : b ∉ [D, L] := fun z => by
    rcases List.mem_cons.mp z with z | z
    · exact hb (z ▸ List.mem_cons_self)
    · rw [List.mem_singleton.mp z, hL] at e1; cases e1
  exact kf b o nb (s2 _ _ (k b o nb (s _ _ e1) t)) t
theorem pl_one {H : Hp} {no : List Addr} {g : Int} {x : V} (hg : g ∈ gs7) (p : Pl H no (oneD g) x) : NumR H g x 1 1 := by
  have h2 : ∀ g ∈ gs7, g ≠ 0 → 1 < g := by decide
  unfold oneD at p
  by_cases g0 : g = 0
  · rw [if_pos g0] at p
    obtain ⟨a, xs, rfl, hT, hA⟩ := pl_tup p
    match xs, hA with
    | [u, w], hA =>
      have e1 : Pl H no (.int 1) u := hA.2 0 _ _ rfl rfl
      have e2 : Pl H no (.int 1) w := hA.2 1 _ _ rfl rfl
      rw [Pl] at e1 e2
      subst e1; subst e2
      exact .inl ⟨g0, ⟨a, rfl, hT⟩, by decide, by decide⟩
    | [], hA => exact absurd hA.1 (by simp)
    | [_], hA => exact absurd hA.1 (by simp)
    | _ :: _ :: _ :: _, hA => exact absurd hA.1 (by simp)
  · rw [if_neg g0, Pl] at p
    exact .inr ⟨g0, p, rfl, by decide, h2 g hg g0⟩
theorem pl_row2 {H : Hp} {no : List Addr} {g : Int} {x : V} (hg : g ∈ gs7) (p : Pl H no (.tuple [oneD g, oneD g]) x) : RowN H g x [(1, 1), (1, 1)] := by
  obtain ⟨a, xs, rfl, hT, hA⟩ := pl_tup p
  refine ⟨a, xs, rfl, hT, hA.1, fun i v q hv hq => ?_⟩
  have hi := (List.getElem?_eq_some_iff.mp hq).1
  match i, hi, hq with
  | 0, _, hq =>
    simp at hq
    subst hq
    exact pl_one hg (hA.2 0 _ _ hv rfl)
  | 1, _, hq =>
    simp at hq
    subst hq
    exact pl_one hg (hA.2 1 _ _ hv rfl)
theorem pl_flat {H : Hp} {no : List Addr} {g : Int} {x : V} (hg : g ∈ gs7) (p : Pl H no (flatD g) x) : TabN H g x [[(1, 1), (1, 1)], [(1, 1), (1, 1)]] := by
  obtain ⟨a, xs, rfl, hT, hA⟩ := pl_tup (ds := [.tuple [oneD g, oneD g], .tuple [oneD g, oneD g]]) p
  refine ⟨a, xs, rfl, hT, hA.1, fun i v q hv hq => ?_⟩
  have hi := (List.getElem?_eq_some_iff.mp hq).1
  match i, hi, hq with
  | 0, _, hq =>
    simp at hq
    subst hq
    exact pl_row2 hg (hA.2 0 _ _ hv rfl)
  | 1, _, hq =>
    simp at hq
    subst hq
    exact pl_row2 hg (hA.2 1 _ _ hv rfl)
theorem undone_flat {K : PySem.W.Frag} {H : Hp} {no : List Addr} {g : Int} {x : V} {Q : VK} {E : XK} (hg : g ∈ gs7) (p : Pl H no (flatD g) x) (hq : ∀ H2, Same H H2 → Q .non H2) : sp_undone_rows K [.int g, x] H Q E := by
  have T := pl_flat hg p
  have gg := gs7_ok hg
  have h0 : ∀ g ∈ gs7, 0 ≤ g := by decide
  obtain ⟨n, rfl⟩ : ∃ n : Nat, g = (n : Int) := ⟨g.toNat, by have := h0 g hg; omega⟩
  obtain ⟨F, iF, iC⟩ := ground_F gg
  refine ⟨n, F, iF, iC, x, _, 2, gg, T, rfl, rfl, by decide, by decide, fun qs hqs => ?_, fun nss M C lead R X hA hS => ⟨fun _ => hq, fun hlt => ?_⟩⟩
  · have : qs = [(1, 1), (1, 1)] := by simpa using hqs
    subst this
    refine ⟨rfl, fun q hq => ?_, show (prI [1, 1]).natAbs < 2 ^ 450 from Nat.lt_of_lt_of_le (show (prI [1, 1]).natAbs < 2 ^ 1 by decide) (Nat.pow_le_pow_right (by decide) (by decide))⟩
    have : q = (1, 1) := by simpa using hq
    subst this
    exact Nat.lt_of_lt_of_le (show (1 : Int).natAbs < 2 ^ 1 by decide) (Nat.pow_le_pow_right (by decide) (by decide))
  · exfalso
    have hW : ∀ qs ∈ [[((1 : Int), (1 : Int)), (1, 1)], [(1, 1), (1, 1)]], qs.length = 2 := by simp
    obtain ⟨w, w0, hw⟩ := side_rows (F := F) (n := 2) T rfl hW hA
    obtain ⟨s1, _⟩ := hS.sides (by rw [← hA.1]; rfl) hlt (a := atF F [[((1 : Int), (1 : Int)), (1, 1)], [(1, 1), (1, 1)]]) (fun i _ => w0 i) hw (b := fun i j => Lin.ph F (Lin.gI M i (2 + j)) * (Lin.ph F lead)⁻¹) (fun i j _ _ => rfl)
    have e0 := s1 0 0 (by decide) (by decide)
    have e1 := s1 1 0 (by decide) (by decide)
    rw [if_pos rfl] at e0
    rw [if_neg (by decide)] at e1
    have e : atF F [[((1 : Int), (1 : Int)), (1, 1)], [(1, 1), (1, 1)]] 1 = atF F [[((1 : Int), (1 : Int)), (1, 1)], [(1, 1), (1, 1)]] 0 := rfl
    rw [e, e0] at e1
    exact Lin.one_ne (F := F) e1
theorem pure__law_right (K : PySem.W.Frag) (vs : List V) (H : Hp) (Q : VK) (E : XK) (h : sp__law_right K vs H Q E) : t__law_right K { nx := fun _ H' => Q .non H', rt := Q } (start ["dice", "bad", "ground", "odd", "one", "flat", "wide", "vector", "size", "told", "call", "due"] vs) H := by
  obtain ⟨D, rfl, hD, hT, hq⟩ := h
  have g9 : ∀ g ∈ gs7, 0 ≤ g ∧ g ≠ 1 := by decide
  have part3 : ∀ (bad : V) (db : PyData) (odd : V) (dod : PyData) (z1 flat wide vector : V) (dv : PyData) (size : V) (dz : PyData) (g : Int) (L M : Addr) (o10 : Option V) (H1 : Hp), ((g ∈ gs7 ∧ db ∈ badG ∧ dod ∈ badT g) ∧ dv ∈ badV g ∧ dz ∈ badS) → Wds K D H1 [L] (vs12 g bad odd flat wide vector size db dod dv dz) L ((List.replicate 9 [gW db, tW]).flatten ++ [tW, oW, tW]) H1 →
      Told H1 M ((List.replicate 9 [gW db, tW]).flatten ++ [tW, oW, tW]) → M ∉ [D, L] → (∀ Hf, KN [D, L] H1 Hf → KN [D] H Hf) →
      t__law_right_k3_b K { nx := fun _ H' => Q V.non H', rt := Q } [some (V.ref D), some bad, some (V.int g), some odd, some z1, some flat, some wide, some vector, some size, some (V.ref L), o10, some (V.ref M)] H1 := by
    intro bad db odd dod z1 flat wide vector dv size dz g L M o10 H1 hd s t hM hfin
    obtain ⟨⟨hg, mb, mo⟩, mv, mz⟩ := id hd
    unfold t__law_right_k3_b
    walk_at "z"
    have mB : (bad, db) ∈ vs12 g bad odd flat wide vector size db dod dv dz := by simp
    have mZ : (size, dz) ∈ vs12 g bad odd flat wide vector size db dod dv dz := by simp
    have s0 := s
    refine app_any (w := oW) s (by simp) (by decide +kernel) (fun H6 Q5 c5 hQ5 => met_oper (fun E5 Q6 hR => ?_) hQ5) fun H6 s => ?_
    · walk_at "z"
      exact ⟨_, _, rfl, .inr ⟨_, ⟨g, _, rfl, gs7_ok hg, (c5.odd (wide, wideD g) (by simp)).1, (wide_ok g hg).1⟩, (show (1 : Nat) ≠ 2 by decide), hR⟩⟩
    refine app_any (w := oW) s (by simp) (by decide +kernel) (fun H6 Q5 c5 hQ5 => met_oper (fun E5 Q6 hR => ?_) hQ5) fun H6 s => ?_
    · walk_at "z"
      exact ⟨_, _, rfl, .inr ⟨_, ⟨g, _, rfl, gs7_ok hg, (c5.odd (wide, wideD g) (by simp)).1, (wide_ok g hg).1⟩, .inl ⟨(show (1 : Nat) ≠ 2 by decide), hR⟩⟩⟩
    refine app_any (w := fW) s (by simp) (by decide +kernel) (fun H6 Q5 c5 hQ5 => met_flat (fun E5 Q6 hR => ?_) hQ5) fun H6 s => ?_
    · walk_at "z"
      exact ⟨_, _, rfl, .inr ⟨_, ⟨g, _, rfl, gs7_ok hg, (c5.odd (flat, flatD g) (by simp)).1, (flat_ok g hg).1⟩, .inr ⟨rfl, fun H8 Q8 s8 q8 => undone_flat hg ((c5.odd (flat, flatD g) (by simp)).1.same s8) q8, hR⟩⟩⟩
    refine app_any s (by simp) (gW_ok (badG_shw _ mb)) (fun H6 Q5 c5 hQ5 => met_ground (c5.odd _ mB).1 (badG_shw _ mb) (fun E5 Q6 hR => ?_) hQ5) fun H6 s => ?_
    · walk_at "z"
      exact ⟨_, _, db, dz, rfl, _, (c5.odd _ mB).1, (c5.odd _ mZ).1, .inl ⟨badG_no mb (c5.odd _ mB).1, hR⟩⟩
    refine app_any s (by simp) (nW_ok (badS_shw _ mz)) (fun H6 Q5 c5 hQ5 => met_number (c5.odd _ mZ).1 (badS_shw _ mz) (fun E5 Q6 hR => ?_) hQ5) fun H6 s => ?_
    · walk_at "z"
      exact ⟨_, _, .int g, dz, rfl, _, by rw [Pl], (c5.odd _ mZ).1, .inr (.inl ⟨gs7_ok hg, badS_no mz (c5.odd _ mZ).1, hR⟩)⟩
    refine app_any s (by simp) (gW_ok (badG_shw _ mb)) (fun H6 Q5 c5 hQ5 => met_ground (c5.odd _ mB).1 (badG_shw _ mb) (fun E5 Q6 hR => ?_) hQ5) fun H6 s => ?_
    · walk_at "z"
      exact ⟨_, _, db, .none, _, rfl, (c5.odd _ mB).1, by rw [Pl], fun _ => hR, fun g' e hg' => absurd hg' (badG_no mb (c5.odd _ mB).1)⟩
    have t1 := t.kn s.c.kn hM s0.lists
    obtain ⟨xs, hM6, r⟩ := t1
    have lx : xs.length = 21 := by rw [r.len]; simp
    have pB : Pl H6 _ db bad := (s.c.odd _ mB).1
    have pZ : Pl H6 _ dz size := (s.c.odd _ mZ).1
    have shB := badG_shw _ mb
    have shZ := badS_shw _ mz
    unfold shwOk at shB shZ
    rw [Bool.and_eq_true, Bool.and_eq_true, decide_eq_true_eq] at shB shZ
    refine ⟨by decide, fun q1 h1 => ⟨by decide, fun q2 h2 => ?_⟩⟩
    have f1 := same_upd (o := .tup [V.str "raised", V.str "operation"]) h1
    have e1 : upd H6 q1 (.tup [V.str "raised", V.str "operation"]) q1 = some (.tup [V.str "raised", V.str "operation"]) := upd_same
    generalize upd H6 q1 (.tup [V.str "raised", V.str "operation"]) = G1 at *
    have f2 := same_upd (o := .lst [V.ref q1]) h2
    have e2 : upd G1 q2 (.lst [V.ref q1]) q2 = some (.lst [V.ref q1]) := upd_same
    generalize upd G1 q2 (.lst [V.ref q1]) = G2 at *
    refine ⟨q2, 2, [V.ref q1], rfl, rfl, e2, by decide, by decide, (show 1 * 2 ≤ sizeLine by decide), fun q3 h3 => ?_⟩
    rw [show (List.replicate (2 : Int).toNat [V.ref q1]).flatten = [V.ref q1, V.ref q1] from rfl] at *
    have f3 := same_upd (o := .lst [V.ref q1, V.ref q1]) h3
    have e3 : upd G2 q3 (.lst [V.ref q1, V.ref q1]) q3 = some (.lst [V.ref q1, V.ref q1]) := upd_same
    generalize upd G2 q3 (.lst [V.ref q1, V.ref q1]) = G3 at *
    refine ⟨M, q3, xs, [V.ref q1, V.ref q1], rfl, rfl, (by walk_at "ss" : Same H6 G3) _ _ hM6, e3, by rw [lx]; exact (by decide : 21 + 2 ≤ sizeLine), fun q4 h4 => ?_⟩
    have f4 := same_upd (o := .lst (xs ++ [V.ref q1, V.ref q1])) h4
    have e4 : upd G3 q4 (.lst (xs ++ [V.ref q1, V.ref q1])) q4 = some (.lst (xs ++ [V.ref q1, V.ref q1])) := upd_same
    generalize upd G3 q4 (.lst (xs ++ [V.ref q1, V.ref q1])) = G4 at *
    refine ⟨by decide, fun q5 h5 => ?_⟩
    have f5 := same_upd (o := .tup [V.str "raised", V.str "refused ('flat',)"]) h5
    have e5 : upd G4 q5 (.tup [V.str "raised", V.str "refused ('flat',)"]) q5 = some (.tup [V.str "raised", V.str "refused ('flat',)"]) := upd_same
    generalize upd G4 q5 (.tup [V.str "raised", V.str "refused ('flat',)"]) = G5 at *
    refine ⟨bad, _, rfl, (pB.same (by walk_at "ss")).rep (badG_rep _ mb), _, _, rfl, rfl, shB.1.2, by decide, fun q6 h6 => ⟨by decide, fun q7 h7 => ?_⟩⟩
    have f6 := same_upd (o := .tup [V.str "raised", V.str (("ground " : Str) ++ db.shown)]) h6
    have e6 : upd G5 q6 (.tup [V.str "raised", V.str (("ground " : Str) ++ db.shown)]) q6 = some (.tup [V.str "raised", V.str (("ground " : Str) ++ db.shown)]) := upd_same
    generalize upd G5 q6 (.tup [V.str "raised", V.str (("ground " : Str) ++ db.shown)]) = G6 at *
    have f7 := same_upd (o := .lst [V.ref q5, V.ref q6]) h7
    have e7 : upd G6 q7 (.lst [V.ref q5, V.ref q6]) q7 = some (.lst [V.ref q5, V.ref q6]) := upd_same
    generalize upd G6 q7 (.lst [V.ref q5, V.ref q6]) = G7 at *
    refine ⟨q4, q7, xs ++ [V.ref q1, V.ref q1], [V.ref q5, V.ref q6], rfl, rfl, (by walk_at "ss" : Same G4 G7) _ _ e4, e7, by rw [List.length_append, lx]; exact (by decide : 21 + 2 + 2 ≤ sizeLine), fun q8 h8 => ?_⟩
    have f8 := same_upd (o := .lst (xs ++ [V.ref q1, V.ref q1] ++ [V.ref q5, V.ref q6])) h8
    have e8 : upd G7 q8 (.lst (xs ++ [V.ref q1, V.ref q1] ++ [V.ref q5, V.ref q6])) q8 = some (.lst (xs ++ [V.ref q1, V.ref q1] ++ [V.ref q5, V.ref q6])) := upd_same
    generalize upd G7 q8 (.lst (xs ++ [V.ref q1, V.ref q1] ++ [V.ref q5, V.ref q6])) = G8 at *
    refine ⟨size, _, rfl, (pZ.same (by walk_at "ss")).rep (badS_rep _ mz), _, _, rfl, rfl, shZ.1.2, by decide, fun q9 h9 => ?_⟩
    have f9 := same_upd (o := .tup [V.str "raised", V.str (("number " : Str) ++ dz.shown)]) h9
    have e9 : upd G8 q9 (.tup [V.str "raised", V.str (("number " : Str) ++ dz.shown)]) q9 = some (.tup [V.str "raised", V.str (("number " : Str) ++ dz.shown)]) := upd_same
    generalize upd G8 q9 (.tup [V.str "raised", V.str (("number " : Str) ++ dz.shown)]) = G9 at *
    refine ⟨bad, _, rfl, (pB.same (by walk_at "ss")).rep (badG_rep _ mb), _, _, rfl, rfl, shB.1.2, by decide, fun q10 h10 => ⟨by decide, fun q11 h11 => ?_⟩⟩
    have f10 := same_upd (o := .tup [V.str "raised", V.str (("ground " : Str) ++ db.shown)]) h10
    have e10 : upd G9 q10 (.tup [V.str "raised", V.str (("ground " : Str) ++ db.shown)]) q10 = some (.tup [V.str "raised", V.str (("ground " : Str) ++ db.shown)]) := upd_same
    generalize upd G9 q10 (.tup [V.str "raised", V.str (("ground " : Str) ++ db.shown)]) = G10 at *
    have f11 := same_upd (o := .lst [V.ref q9, V.ref q10]) h11
    have e11 : upd G10 q11 (.lst [V.ref q9, V.ref q10]) q11 = some (.lst [V.ref q9, V.ref q10]) := upd_same
    generalize upd G10 q11 (.lst [V.ref q9, V.ref q10]) = G11 at *
    refine ⟨q8, q11, xs ++ [V.ref q1, V.ref q1] ++ [V.ref q5, V.ref q6], [V.ref q9, V.ref q10], rfl, rfl, (by walk_at "ss" : Same G8 G11) _ _ e8, e11, by rw [List.length_append, List.length_append, lx]; exact (by decide : 21 + 2 + 2 + 2 ≤ sizeLine), fun q12 h12 => ?_⟩
    have f12 := same_upd (o := .lst (xs ++ [V.ref q1, V.ref q1] ++ [V.ref q5, V.ref q6] ++ [V.ref q9, V.ref q10])) h12
    have e12 : upd G11 q12 (.lst (xs ++ [V.ref q1, V.ref q1] ++ [V.ref q5, V.ref q6] ++ [V.ref q9, V.ref q10])) q12 = some (.lst (xs ++ [V.ref q1, V.ref q1] ++ [V.ref q5, V.ref q6] ++ [V.ref q9, V.ref q10])) := upd_same
    generalize upd G11 q12 (.lst (xs ++ [V.ref q1, V.ref q1] ++ [V.ref q5, V.ref q6] ++ [V.ref q9, V.ref q10])) = G12 at *
    have o1 := ts_one ((by walk_at "ss" : Same G1 G12) _ _ e1) (w := oW) (by decide +kernel)
    have o5 := ts_one ((by walk_at "ss" : Same G5 G12) _ _ e5) (w := fW) (by decide +kernel)
    have o6 := ts_one ((by walk_at "ss" : Same G6 G12) _ _ e6) (gW_ok (badG_shw _ mb))
    have o9 := ts_one ((by walk_at "ss" : Same G9 G12) _ _ e9) (nW_ok (badS_shw _ mz))
    have o10' := ts_one ((by walk_at "ss" : Same G10 G12) _ _ e10) (gW_ok (badG_shw _ mb))
    have fA : Same H6 G12 := by walk_at "ss"
    have rF := (((r.same fA).app (o1.app o1)).app (o5.app o6)).app (o9.app o10')
    have tF : Told G12 q12 ((List.replicate 9 [gW db, tW]).flatten ++ [tW, oW, tW] ++ [oW] ++ [oW] ++ [fW] ++ [gW db] ++ [nW dz] ++ [gW db]) := by
      refine ⟨_, e12, ?_⟩
      have : (List.replicate 9 [gW db, tW]).flatten ++ [tW, oW, tW] ++ [oW] ++ [oW] ++ [fW] ++ [gW db] ++ [nW dz] ++ [gW db] = (List.replicate 9 [gW db, tW]).flatten ++ [tW, oW, tW] ++ ([oW] ++ [oW]) ++ ([fW] ++ [gW db]) ++ ([nW dz] ++ [gW db]) := by simp
      rw [this]
      exact rF
    have sF := s.same fA
    refine eq_told sF.t tF ⟨true, rfl, ?_⟩
    rw [if_pos rfl]
    walk_at "z"
    have gg := gs7_ok hg
    refine ⟨_, _, .int g, dod, _, rfl, by rw [Pl], (sF.c.odd (odd, dod) (by simp)).1, fun a => absurd gg a, fun g' eg _ G13 s13 => ?_⟩
    obtain rfl : g = g' := by injection eg
    refine ⟨_, rfl, ?_⟩
    rw [show tabB g 12 12 (10 ^ 20) dod = false from badT_no g hg _ mo, if_pos rfl]
    refine ⟨_, _, .int g, flatD g, _, rfl, by rw [Pl], Pl.same (sF.c.odd (flat, flatD g) (by simp)).1 s13, fun a => absurd gg a, fun g' eg _ G14 s14 => ?_⟩
    obtain rfl : g = g' := by injection eg
    rw [show tabB g 12 12 (10 ^ 20) (flatD g) = true from (flat_ok g hg).1]
    have sG := sF.same (s13.trans s14)
    exact hq _ (hfin _ sG.c.kn) sG.c.dice sG.c.tb
  have part4 : ∀ (bad : V) (db : PyData) (odd : V) (dod : PyData) (z1 flat wide vector : V) (dv : PyData) (size : V) (dz : PyData) (g : Int) (L M : Addr) (o10 : Option V) (H1 : Hp), ((g ∈ gs7 ∧ db ∈ badG ∧ dod ∈ badT g) ∧ dv ∈ badV g ∧ dz ∈ badS) → Wds K D H1 [L] (vs12 g bad odd flat wide vector size db dod dv dz) L (List.replicate 7 [gW db, tW]).flatten H1 →
      Told H1 M (List.replicate 7 [gW db, tW]).flatten → M ∉ [D, L] → (∀ Hf, KN [D, L] H1 Hf → KN [D] H Hf) →
      t__law_right_k4_b K { nx := fun _ H' => Q V.non H', rt := Q } [some (V.ref D), some bad, some (V.int g), some odd, some z1, some flat, some wide, some vector, some size, some (V.ref L), o10, some (V.ref M)] H1 := by
    intro bad db odd dod z1 flat wide vector dv size dz g L M o10 H1 hd s t hM hfin
    unfold t__law_right_k4_b
    walk_at "z"
    obtain ⟨⟨hg, mb, mo⟩, mv, mz⟩ := id hd
    refine ⟨by decide, fun p hp => ⟨p, rfl, ⟨_, sqT_of upd_same⟩, ?_⟩⟩
    have np := s.new hp
    obtain ⟨fs, hfs⟩ : ∃ fs : List V, [V.ref (He.ga K "table_product"), V.ref (He.ga K "solve_answer")] = fs := ⟨_, rfl⟩
    have hF : fs.length = 2 ∧ ∀ x ∈ fs, ∃ f sp, x = .ref f ∧ F2 K f sp := by
      subst hfs
      refine ⟨rfl, fun x hx => ?_⟩
      simp only [List.mem_cons, List.not_mem_nil, or_false] at hx
      rcases hx with rfl | rfl
      · exact ⟨_, _, rfl, .inl ⟨rfl, rfl⟩⟩
      · exact ⟨_, _, rfl, .inr ⟨rfl, rfl⟩⟩
    rw [hfs]
    clear hfs
    have sp := same_upd (o := .tup fs) hp
    have ep : upd H1 p (.tup fs) p = some (.tup fs) := upd_same
    generalize upd H1 p (.tup fs) = H3 at *
    have s1 := (s.same sp).restart
    refine for_T (xs := fs) (fun i σ H' => ∃ o10, σ = [some (V.ref D), some bad, some (V.int g), some odd, some z1, some flat, some wide, some vector, some size, some (V.ref L), o10, some (V.ref M)] ∧ Wds K D H3 [L] (vs12 g bad odd flat wide vector size db dod dv dz) L (List.replicate (7 + i) [gW db, tW]).flatten H') ⟨o10, rfl, s1⟩ (fun i σ H' _ h => by
      obtain ⟨_, _, s⟩ := h
      exact sqT_of (s.c.kn p _ np ep (fun _ z => by cases z))) (fun i x σ H' hx h N hN => ?_) (fun σ H' h => ?_)
    · obtain ⟨o10, rfl, s⟩ := h
      obtain ⟨f, sp, rfl, hS⟩ := hF.2 x (List.mem_of_getElem? hx)
      have i7 : i < 2 := by rw [← hF.1]; exact (List.getElem?_eq_some_iff.mp hx).1
      unfold t__law_right_f2_b
      walk_at "z"
      refine app_any s (by rw [rep_len]; omega) (gW_ok (badG_shw _ mb)) (fun H5 Q5 c5 hQ5 => met_ground (c5.odd (bad, db) (by simp)).1 (badG_shw _ mb) (fun E5 Q6 hR => ?_) hQ5) fun H5 s5 => ?_
      · walk_at "z"
        exact ⟨f, sp, rfl, hS, bad2f hS ⟨db, dod, _, (c5.odd (bad, db) (by simp)).1, (c5.odd (odd, dod) (by simp)).1, .inl ⟨badG_no mb (c5.odd (bad, db) (by simp)).1, hR⟩⟩⟩
      refine app_any (w := tW) s5 (by rw [List.length_append, rep_len]; simp; omega) (by decide +kernel) (fun H6 Q5 c5 hQ5 => met_table (fun E5 Q6 hR => ?_) hQ5) fun H6 s6 => ?_
      · walk_at "z"
        exact ⟨f, sp, rfl, hS, bad2f hS ⟨.int g, dod, _, by rw [Pl], (c5.odd (odd, dod) (by simp)).1, .inr ⟨g, rfl, gs7_ok hg, badT_no g hg _ mo, hR⟩⟩⟩
      rw [rep_more] at s6
      exact hN _ _ ⟨_, rfl, s6⟩
    · obtain ⟨o10, rfl, s⟩ := h
      rw [hF.1] at s
      walk_at "z"
      refine app_any (w := tW) s (by rw [rep_len]; omega) (by decide +kernel) (fun H6 Q5 c5 hQ5 => met_table (fun E5 Q6 hR => ?_) hQ5) fun H6 s => ?_
      · walk_at "z"
        exact ⟨_, _, _, rfl, .inr ⟨_, ⟨g, _, rfl, gs7_ok hg, (c5.odd (flat, flatD g) (by simp)).1, (flat_ok g hg).1⟩, .inl ⟨.int g, dod, _, by rw [Pl], (c5.odd (odd, dod) (by simp)).1, .inr ⟨g, rfl, gs7_ok hg, badT_no g hg _ mo, hR⟩⟩⟩⟩
      refine app_any (w := oW) s (by simp) (by decide +kernel) (fun H6 Q5 c5 hQ5 => met_oper (fun E5 Q6 hR => ?_) hQ5) fun H6 s => ?_
      · walk_at "z"
        exact ⟨_, _, _, rfl, .inr ⟨_, ⟨g, _, rfl, gs7_ok hg, (c5.odd (flat, flatD g) (by simp)).1, (flat_ok g hg).1⟩, .inr ⟨_, ⟨g, _, rfl, gs7_ok hg, (c5.odd (wide, wideD g) (by simp)).1, (wide_ok g hg).1⟩, (show (2 : Nat) ≠ 1 by decide), hR⟩⟩⟩
      refine app_any (w := tW) s (by simp) (by decide +kernel) (fun H6 Q5 c5 hQ5 => met_table (fun E5 Q6 hR => ?_) hQ5) fun H6 s => ?_
      · walk_at "z"
        exact ⟨_, _, _, rfl, .inr ⟨_, ⟨g, _, rfl, gs7_ok hg, (c5.odd (flat, flatD g) (by simp)).1, (flat_ok g hg).1⟩, .inl ⟨g, dv, _, rfl, (c5.odd (vector, dv) (by simp)).1, (badV_ok g hg _ mv).1, hR⟩⟩⟩
      have t1 := (t.same sp).kn s.c.kn hM s1.lists
      obtain ⟨xs, hM6, r⟩ := t1
      have lx : xs.length = 14 := by rw [r.len]; simp
      refine ⟨M, xs, rfl, sqL_of hM6, fun q h1 => ?_⟩
      rw [show cutV xs none (some 4) = xs.take 4 from cut_to (n := 4) (by omega)]
      have f1 := same_upd (o := .lst (xs.take 4)) h1
      have e1 : upd H6 q (.lst (xs.take 4)) q = some (.lst (xs.take 4)) := upd_same
      generalize upd H6 q (.lst (xs.take 4)) = G1 at *
      refine ⟨M, q, xs, _, rfl, rfl, f1 _ _ hM6, e1, by rw [List.length_take, lx]; exact (by decide : 14 + min 4 14 ≤ sizeLine), fun M2 h2 => ?_⟩
      have f2 := same_upd (o := .lst (xs ++ xs.take 4)) h2
      have e2 : upd G1 M2 (.lst (xs ++ xs.take 4)) M2 = some (.lst (xs ++ xs.take 4)) := upd_same
      generalize upd G1 M2 (.lst (xs ++ xs.take 4)) = G2 at *
      refine ⟨by decide, fun q3 h3 => ⟨by decide, fun q4 h4 => ⟨by decide, fun q5 h5 => ⟨by decide, fun q6 h6 => ?_⟩⟩⟩⟩
      have f3 := same_upd (o := .tup (tW.map V.str)) h3
      have f4 := same_upd (o := .tup (oW.map V.str)) h4
      have f5 := same_upd (o := .tup (tW.map V.str)) h5
      have f6 := same_upd (o := .lst [V.ref q3, V.ref q4, V.ref q5]) h6
      have r3 : TS1 _ [V.ref q3, V.ref q4, V.ref q5] [tW, oW, tW] := .cons ⟨q3, rfl, f6 _ _ (f5 _ _ (f4 _ _ (upd_same (H := G2) (a := q3) (o := .tup (tW.map V.str))))), by decide +kernel⟩ (.cons ⟨q4, rfl, f6 _ _ (f5 _ _ upd_same), by decide +kernel⟩ (.cons ⟨q5, rfl, f6 _ _ upd_same, by decide +kernel⟩ .nil))
      have f36 := ((f3.trans f4).trans f5).trans f6
      refine ⟨M2, q6, _, _, rfl, rfl, f36 _ _ e2, upd_same, by rw [List.length_append, List.length_take, lx]; exact (by decide : 14 + min 4 14 + 3 ≤ sizeLine), fun M3 h7 => ?_⟩
      have f7 := same_upd (o := .lst (xs ++ xs.take 4 ++ [V.ref q3, V.ref q4, V.ref q5])) h7
      walk_at "z"
      have f16 := (f1.trans f2).trans f36
      have nM := (s.same f16).new h7
      have r9 := ((r.app (r.take 4)).same f16).app r3
      rw [show (List.replicate (7 + 2) [gW db, tW]).flatten ++ [tW] ++ [oW] ++ [tW] = (List.replicate 9 [gW db, tW]).flatten ++ [tW, oW, tW] by simp] at s
      exact part3 bad db odd dod z1 flat wide vector dv size dz g L M3 o10 _ hd (s.same (f16.trans f7)).restart ⟨_, upd_same, r9.same f7⟩ nM fun Hf kf => hfin Hf fun b o hb e t => kf b o hb ((f16.trans f7) _ _ (s.c.kn b o hb (sp _ _ e) t)) t
  have part5 : ∀ (bad : V) (db : PyData) (odd : V) (dod : PyData) (z1 flat wide vector : V) (dv : PyData) (size : V) (dz : PyData) (g : Int) (H1 : Hp), ((g ∈ gs7 ∧ db ∈ badG ∧ dod ∈ badT g) ∧ dv ∈ badV g ∧ dz ∈ badS) → Cxt K D H [] (vs12 g bad odd flat wide vector size db dod dv dz) H1 →
      t__law_right_k5_b K { nx := fun _ H' => Q V.non H', rt := Q } [some (V.ref D), some bad, some (V.int g), some odd, some z1, some flat, some wide, some vector, some size, none, none, none] H1 := by
    intro bad db odd dod z1 flat wide vector dv size dz g H1 hd c
    obtain ⟨⟨hg, mb, mo⟩, mv, mz⟩ := id hd
    unfold t__law_right_k5_b
    walk_at "z"
    refine ⟨by decide, fun L hL => ⟨by decide, fun p hp => ⟨p, rfl, ⟨_, sqT_of upd_same⟩, ?_⟩⟩⟩
    have c1 := (c.list (xs := []) hL)
    have sL := same_upd (o := .lst []) hL
    have e1 : upd H1 L (.lst []) L = some (.lst []) := upd_same
    generalize upd H1 L (.lst []) = H2 at *
    have s0 : Wds K D H2 [L] (vs12 g bad odd flat wide vector size db dod dv dz) L [] H2 := ⟨c1.restart, by simp, [], e1, .nil⟩
    have np := s0.new hp
    obtain ⟨fs, hfs⟩ : ∃ fs : List V, [V.ref (He.ga K "reduced_rows"), V.ref (He.ga K "leads"), V.ref (He.ga K "rank"), V.ref (He.ga K "kernel"), V.ref (He.ga K "determinant"), V.ref (He.ga K "undoing"), V.ref (He.ga K "rank_answer")] = fs := ⟨_, rfl⟩
    have hF : fs.length = 7 ∧ ∀ x ∈ fs, ∃ f sp, x = .ref f ∧ F7 K f sp := by
      subst hfs
      refine ⟨rfl, fun x hx => ?_⟩
      simp only [List.mem_cons, List.not_mem_nil, or_false] at hx
      rcases hx with rfl | rfl | rfl | rfl | rfl | rfl | rfl
      · exact ⟨_, _, rfl, .inl ⟨rfl, rfl⟩⟩
      · exact ⟨_, _, rfl, .inr (.inl ⟨rfl, rfl⟩)⟩
      · exact ⟨_, _, rfl, .inr (.inr (.inl ⟨rfl, rfl⟩))⟩
      · exact ⟨_, _, rfl, .inr (.inr (.inr (.inl ⟨rfl, rfl⟩)))⟩
      · exact ⟨_, _, rfl, .inr (.inr (.inr (.inr (.inl ⟨rfl, rfl⟩))))⟩
      · exact ⟨_, _, rfl, .inr (.inr (.inr (.inr (.inr (.inl ⟨rfl, rfl⟩)))))⟩
      · exact ⟨_, _, rfl, .inr (.inr (.inr (.inr (.inr (.inr ⟨rfl, rfl⟩)))))⟩
    rw [hfs]
    clear hfs
    have sp := same_upd (o := .tup fs) hp
    have ep : upd H2 p (.tup fs) p = some (.tup fs) := upd_same
    generalize upd H2 p (.tup fs) = H3 at *
    have s1 := (s0.same sp).restart
    refine for_T (xs := fs) (fun i σ H' => ∃ o10, σ = [some (V.ref D), some bad, some (V.int g), some odd, some z1, some flat, some wide, some vector, some size, some (V.ref L), o10, none] ∧ Wds K D H3 [L] (vs12 g bad odd flat wide vector size db dod dv dz) L (List.replicate i [gW db, tW]).flatten H') ⟨none, rfl, s1⟩ (fun i σ H' _ h => by
      obtain ⟨_, _, s⟩ := h
      exact sqT_of (s.c.kn p _ np ep (fun _ z => by cases z))) (fun i x σ H' hx h N hN => ?_) (fun σ H' h => ?_)
    · obtain ⟨o10, rfl, s⟩ := h
      obtain ⟨f, sp, rfl, hS⟩ := hF.2 x (List.mem_of_getElem? hx)
      have i7 : i < 7 := by rw [← hF.1]; exact (List.getElem?_eq_some_iff.mp hx).1
      unfold t__law_right_f1_b
      walk_at "z"
      refine app_any s (by rw [rep_len]; omega) (gW_ok (badG_shw _ mb)) (fun H5 Q5 c5 hQ5 => met_ground (c5.odd (bad, db) (by simp)).1 (badG_shw _ mb) (fun E5 Q6 hR => ?_) hQ5) fun H5 s5 => ?_
      · walk_at "z"
        exact ⟨f, sp, rfl, hS, bad7 hS ⟨db, dod, _, (c5.odd (bad, db) (by simp)).1, (c5.odd (odd, dod) (by simp)).1, .inl ⟨badG_no mb (c5.odd (bad, db) (by simp)).1, hR⟩⟩⟩
      refine app_any (w := tW) s5 (by rw [List.length_append, rep_len]; simp; omega) (by decide +kernel) (fun H6 Q5 c5 hQ5 => met_table (fun E5 Q6 hR => ?_) hQ5) fun H6 s6 => ?_
      · walk_at "z"
        exact ⟨f, sp, rfl, hS, bad7 hS ⟨.int g, dod, _, by rw [Pl], (c5.odd (odd, dod) (by simp)).1, .inr ⟨g, rfl, gs7_ok hg, badT_no g hg _ mo, hR⟩⟩⟩
      rw [rep_more] at s6
      exact hN _ _ ⟨_, rfl, s6⟩
    · obtain ⟨o10, rfl, s⟩ := h
      rw [hF.1] at s
      walk_at "z"
      have mB : (bad, db) ∈ vs12 g bad odd flat wide vector size db dod dv dz := by simp
      have sh := badG_shw _ mb
      unfold shwOk at sh
      rw [Bool.and_eq_true, Bool.and_eq_true, decide_eq_true_eq] at sh
      refine ⟨bad, _, rfl, (s.c.odd _ mB).1.rep (badG_rep _ mb), _, _, rfl, rfl, sh.1.2, by decide, fun q1 h1 => ⟨by decide, fun q2 h2 => ⟨by decide, fun M1 h3 => ?_⟩⟩⟩
      have f1 := same_upd (o := .tup ((gW db).map V.str)) h1
      have f2 := same_upd (o := .tup (tW.map V.str)) h2
      have f3 := same_upd (o := .lst [V.ref q1, V.ref q2]) h3
      have t1 : TS1 _ [V.ref q1, V.ref q2] [gW db, tW] := .cons ⟨q1, rfl, f3 _ _ (f2 _ _ (upd_same (H := H') (a := q1) (o := .tup ((gW db).map V.str)))), gW_ok (badG_shw _ mb)⟩ (.cons ⟨q2, rfl, f3 _ _ upd_same, by decide +kernel⟩ .nil)
      refine ⟨M1, 7, [V.ref q1, V.ref q2], rfl, rfl, upd_same, by decide, by decide, (show 2 * 7 ≤ sizeLine by decide), fun M hM => ?_⟩
      have f4 := same_upd (o := .lst (List.replicate (7 : Int).toNat [V.ref q1, V.ref q2]).flatten) hM
      walk_at "z"
      have fA := ((f1.trans f2).trans f3).trans f4
      have nM := (s.same ((f1.trans f2).trans f3)).new hM
      exact part4 bad db odd dod z1 flat wide vector dv size dz g L M o10 _ hd (s.same fA).restart ⟨_, upd_same, (TS1.rep t1 7).same f4⟩ nM fun Hf kf => fin12 c.kn hL (sL.trans sp) s.c.kn fA kf
  have part6 : ∀ (bad : V) (db : PyData) (odd : V) (dod : PyData) (z1 flat wide : V) (g : Int) (H1 : Hp), (g ∈ gs7 ∧ db ∈ badG ∧ dod ∈ badT g) → Pl H1 [D] (oneD g) z1 → Pl H1 [D] db bad → Pl H1 [D] dod odd → Pl H1 [D] (flatD g) flat → Pl H1 [D] (wideD g) wide → Keep D H H1 → Dice H1 D →
      t__law_right_k6_b K { nx := fun _ H' => Q V.non H', rt := Q } [some (V.ref D), some bad, some (V.int g), some odd, some z1, some flat, some wide, none, none, none, none, none] H1 := by
    intro bad db odd dod z1 flat wide g H1 hd p1 pb po pf pw kH hDf
    unfold t__law_right_k6_b
    walk_at "z"
    refine ⟨by decide, fun af1 hf1 => ?_⟩
    have nf1 : D ≠ af1 := hDf.ne hf1
    have sf1 := same_upd (o := .tup []) hf1
    have ef1 : upd H1 af1 (.tup []) af1 = some (.tup []) := upd_same
    generalize upd H1 af1 (.tup []) = Gf1 at *
    replace hDf := hDf.same sf1
    have pf1 : Pl Gf1 [D] (.tuple []) (.ref af1) := plT hDf ef1 plN
    refine ⟨by decide, fun af2 hf2 => ?_⟩
    have nf2 : D ≠ af2 := hDf.ne hf2
    have sf2 := same_upd (o := .tup [z1]) hf2
    have ef2 : upd Gf1 af2 (.tup [z1]) af2 = some (.tup [z1]) := upd_same
    generalize upd Gf1 af2 (.tup [z1]) = Gf2 at *
    replace hDf := hDf.same sf2
    have pf2 : Pl Gf2 [D] (.tuple [oneD g]) (.ref af2) := plT hDf ef2 (plC (p1.same (by walk_at "ss")) plN)
    refine ⟨by decide, fun af3 hf3 => ?_⟩
    have nf3 : D ≠ af3 := hDf.ne hf3
    have sf3 := same_upd (o := .lst [z1, z1]) hf3
    have ef3 : upd Gf2 af3 (.lst [z1, z1]) af3 = some (.lst [z1, z1]) := upd_same
    generalize upd Gf2 af3 (.lst [z1, z1]) = Gf3 at *
    replace hDf := hDf.same sf3
    have pf3 : Pl Gf3 [D] (.list [oneD g, oneD g]) (.ref af3) := plL hDf ef3 (by simp) (plC (p1.same (by walk_at "ss")) (plC (p1.same (by walk_at "ss")) plN))
    refine ⟨by decide, fun af4 hf4 => ?_⟩
    have nf4 : D ≠ af4 := hDf.ne hf4
    have sf4 := same_upd (o := .tup [z1, z1, z1]) hf4
    have ef4 : upd Gf3 af4 (.tup [z1, z1, z1]) af4 = some (.tup [z1, z1, z1]) := upd_same
    generalize upd Gf3 af4 (.tup [z1, z1, z1]) = Gf4 at *
    replace hDf := hDf.same sf4
    have pf4 : Pl Gf4 [D] (.tuple [oneD g, oneD g, oneD g]) (.ref af4) := plT hDf ef4 (plC (p1.same (by walk_at "ss")) (plC (p1.same (by walk_at "ss")) (plC (p1.same (by walk_at "ss")) plN)))
    refine ⟨by decide, fun af5 hf5 => ?_⟩
    have nf5 : D ≠ af5 := hDf.ne hf5
    have sf5 := same_upd (o := .tup [z1, .non]) hf5
    have ef5 : upd Gf4 af5 (.tup [z1, .non]) af5 = some (.tup [z1, .non]) := upd_same
    generalize upd Gf4 af5 (.tup [z1, .non]) = Gf5 at *
    replace hDf := hDf.same sf5
    have pf5 : Pl Gf5 [D] (.tuple [oneD g, .none]) (.ref af5) := plT hDf ef5 (plC (p1.same (by walk_at "ss")) (plC (by rw [Pl]) plN))
    refine ⟨by decide, fun af6 hf6 => ?_⟩
    have nf6 : D ≠ af6 := hDf.ne hf6
    have sf6 := same_upd (o := .tup [z1, .bl true]) hf6
    have ef6 : upd Gf5 af6 (.tup [z1, .bl true]) af6 = some (.tup [z1, .bl true]) := upd_same
    generalize upd Gf5 af6 (.tup [z1, .bl true]) = Gf6 at *
    replace hDf := hDf.same sf6
    have pf6 : Pl Gf6 [D] (.tuple [oneD g, .bool true]) (.ref af6) := plT hDf ef6 (plC (p1.same (by walk_at "ss")) (plC (by rw [Pl]) plN))
    refine ⟨by decide, fun af7 hf7 => ?_⟩
    have nf7 : D ≠ af7 := hDf.ne hf7
    have sf7 := same_upd (o := .tup [z1, z1]) hf7
    have ef7 : upd Gf6 af7 (.tup [z1, z1]) af7 = some (.tup [z1, z1]) := upd_same
    generalize upd Gf6 af7 (.tup [z1, z1]) = Gf7 at *
    replace hDf := hDf.same sf7
    have pf7 : Pl Gf7 [D] (.tuple [oneD g, oneD g]) (.ref af7) := plT hDf ef7 (plC (p1.same (by walk_at "ss")) (plC (p1.same (by walk_at "ss")) plN))
    refine ⟨by decide, fun af8 hf8 => ?_⟩
    have nf8 : D ≠ af8 := hDf.ne hf8
    have sf8 := same_upd (o := .tup [V.ref af7]) hf8
    have ef8 : upd Gf7 af8 (.tup [V.ref af7]) af8 = some (.tup [V.ref af7]) := upd_same
    generalize upd Gf7 af8 (.tup [V.ref af7]) = Gf8 at *
    replace hDf := hDf.same sf8
    have pf8 : Pl Gf8 [D] (.tuple [(.tuple [oneD g, oneD g])]) (.ref af8) := plT hDf ef8 (plC (pf7.same (by walk_at "ss")) plN)
    refine ⟨by decide, fun af9 hf9 => ?_⟩
    have nf9 : D ≠ af9 := hDf.ne hf9
    have sf9 := same_upd (o := .tup [.int (2), .int (4)]) hf9
    have ef9 : upd Gf8 af9 (.tup [.int (2), .int (4)]) af9 = some (.tup [.int (2), .int (4)]) := upd_same
    generalize upd Gf8 af9 (.tup [.int (2), .int (4)]) = Gf9 at *
    replace hDf := hDf.same sf9
    have pf9 : Pl Gf9 [D] (.tuple [.int (2), .int (4)]) (.ref af9) := plT hDf ef9 (plC (by rw [Pl]) (plC (by rw [Pl]) plN))
    refine ⟨by decide, fun af10 hf10 => ?_⟩
    have nf10 : D ≠ af10 := hDf.ne hf10
    have sf10 := same_upd (o := .tup [z1, V.ref af9]) hf10
    have ef10 : upd Gf9 af10 (.tup [z1, V.ref af9]) af10 = some (.tup [z1, V.ref af9]) := upd_same
    generalize upd Gf9 af10 (.tup [z1, V.ref af9]) = Gf10 at *
    replace hDf := hDf.same sf10
    have pf10 : Pl Gf10 [D] (.tuple [oneD g, (.tuple [.int (2), .int (4)])]) (.ref af10) := plT hDf ef10 (plC (p1.same (by walk_at "ss")) (plC (pf9.same (by walk_at "ss")) plN))
    refine ⟨by decide, fun af11 hf11 => ?_⟩
    have nf11 : D ≠ af11 := hDf.ne hf11
    have sf11 := same_upd (o := .lst [.non, V.ref af1, V.ref af2, V.ref af3, V.ref af4, V.ref af5, V.ref af6, V.ref af8, .str "11", V.ref af10]) hf11
    have ef11 : upd Gf10 af11 (.lst [.non, V.ref af1, V.ref af2, V.ref af3, V.ref af4, V.ref af5, V.ref af6, V.ref af8, .str "11", V.ref af10]) af11 = some (.lst [.non, V.ref af1, V.ref af2, V.ref af3, V.ref af4, V.ref af5, V.ref af6, V.ref af8, .str "11", V.ref af10]) := upd_same
    generalize upd Gf10 af11 (.lst [.non, V.ref af1, V.ref af2, V.ref af3, V.ref af4, V.ref af5, V.ref af6, V.ref af8, .str "11", V.ref af10]) = Gf11 at *
    replace hDf := hDf.same sf11
    refine ⟨D, af11, _, rfl, hDf, nf11, ef11, by simp, by simp, fun vector H2 hv k2 d2 => ?_⟩
    obtain ⟨dv, mv, pv⟩ : ∃ d ∈ badV g, Pl H2 [D] d vector := by
      simp only [List.mem_cons, List.not_mem_nil, or_false] at hv
      rcases hv with rfl | rfl | rfl | rfl | rfl | rfl | rfl | rfl | rfl | rfl
      · exact ⟨.none, List.mem_of_getElem? (i := 0) rfl, Pl.mono k2.kn _ _ (by rw [Pl])⟩
      · exact ⟨(.tuple []), List.mem_of_getElem? (i := 1) rfl, Pl.mono k2.kn _ _ (pf1.same (by walk_at "ss"))⟩
      · exact ⟨(.tuple [oneD g]), List.mem_of_getElem? (i := 2) rfl, Pl.mono k2.kn _ _ (pf2.same (by walk_at "ss"))⟩
      · exact ⟨(.list [oneD g, oneD g]), List.mem_of_getElem? (i := 3) rfl, Pl.mono k2.kn _ _ (pf3.same (by walk_at "ss"))⟩
      · exact ⟨(.tuple [oneD g, oneD g, oneD g]), List.mem_of_getElem? (i := 4) rfl, Pl.mono k2.kn _ _ (pf4.same (by walk_at "ss"))⟩
      · exact ⟨(.tuple [oneD g, .none]), List.mem_of_getElem? (i := 5) rfl, Pl.mono k2.kn _ _ (pf5.same (by walk_at "ss"))⟩
      · exact ⟨(.tuple [oneD g, .bool true]), List.mem_of_getElem? (i := 6) rfl, Pl.mono k2.kn _ _ (pf6.same (by walk_at "ss"))⟩
      · exact ⟨(.tuple [(.tuple [oneD g, oneD g])]), List.mem_of_getElem? (i := 7) rfl, Pl.mono k2.kn _ _ (pf8.same (by walk_at "ss"))⟩
      · exact ⟨.str "11", List.mem_of_getElem? (i := 8) rfl, Pl.mono k2.kn _ _ (by rw [Pl])⟩
      · exact ⟨(.tuple [oneD g, (.tuple [.int (2), .int (4)])]), List.mem_of_getElem? (i := 9) rfl, Pl.mono k2.kn _ _ (pf10.same (by walk_at "ss"))⟩
    have kv : Keep D H1 H2 := ((Keep.refl D H1).same (by walk_at "ss")).trans k2
    have hDf := d2
    refine ⟨by decide, fun ag1 hg1 => ?_⟩
    have ng1 : D ≠ ag1 := hDf.ne hg1
    have sg1 := same_upd (o := .tup [.int (1)]) hg1
    have eg1 : upd H2 ag1 (.tup [.int (1)]) ag1 = some (.tup [.int (1)]) := upd_same
    generalize upd H2 ag1 (.tup [.int (1)]) = Gg1 at *
    replace hDf := hDf.same sg1
    have pg1 : Pl Gg1 [D] (.tuple [.int (1)]) (.ref ag1) := plT hDf eg1 (plC (by rw [Pl]) plN)
    refine ⟨cpow (by decide), ?_⟩
    refine ⟨by decide, fun ag2 hg2 => ?_⟩
    have ng2 : D ≠ ag2 := hDf.ne hg2
    have sg2 := same_upd (o := .lst [.non, .int (0), .int (13), .int (-1), .bl true, .str "1", V.ref ag1, .int (10 ^ Int.toNat 60)]) hg2
    have eg2 : upd Gg1 ag2 (.lst [.non, .int (0), .int (13), .int (-1), .bl true, .str "1", V.ref ag1, .int (10 ^ Int.toNat 60)]) ag2 = some (.lst [.non, .int (0), .int (13), .int (-1), .bl true, .str "1", V.ref ag1, .int (10 ^ Int.toNat 60)]) := upd_same
    generalize upd Gg1 ag2 (.lst [.non, .int (0), .int (13), .int (-1), .bl true, .str "1", V.ref ag1, .int (10 ^ Int.toNat 60)]) = Gg2 at *
    replace hDf := hDf.same sg2
    refine ⟨D, ag2, _, rfl, hDf, ng2, eg2, by simp, by simp, fun size H3 hv k3 d3 => ?_⟩
    obtain ⟨dz, mz, pz⟩ : ∃ d ∈ badS, Pl H3 [D] d size := by
      simp only [List.mem_cons, List.not_mem_nil, or_false] at hv
      rcases hv with rfl | rfl | rfl | rfl | rfl | rfl | rfl | rfl
      · exact ⟨.none, List.mem_of_getElem? (i := 0) rfl, Pl.mono k3.kn _ _ (by rw [Pl])⟩
      · exact ⟨.int (0), List.mem_of_getElem? (i := 1) rfl, Pl.mono k3.kn _ _ (by rw [Pl])⟩
      · exact ⟨.int (13), List.mem_of_getElem? (i := 2) rfl, Pl.mono k3.kn _ _ (by rw [Pl])⟩
      · exact ⟨.int (-1), List.mem_of_getElem? (i := 3) rfl, Pl.mono k3.kn _ _ (by rw [Pl])⟩
      · exact ⟨.bool true, List.mem_of_getElem? (i := 4) rfl, Pl.mono k3.kn _ _ (by rw [Pl])⟩
      · exact ⟨.str "1", List.mem_of_getElem? (i := 5) rfl, Pl.mono k3.kn _ _ (by rw [Pl])⟩
      · exact ⟨(.tuple [.int (1)]), List.mem_of_getElem? (i := 6) rfl, Pl.mono k3.kn _ _ (pg1.same (by walk_at "ss"))⟩
      · exact ⟨.int (10 ^ Int.toNat 60), List.mem_of_getElem? (i := 7) rfl, Pl.mono k3.kn _ _ (by rw [Pl])⟩
    have kz : Keep D H2 H3 := ((Keep.refl D H2).same (by walk_at "ss")).trans k3
    have ks := kv.trans kz
    have up : ∀ {v : V} {d : PyData}, Pl H1 [D] d v → Pl H3 [D] d v := fun p => Pl.mono ks.kn _ _ p
    have tb : LamX.Tabs (Ts K) H3 := by
      obtain ⟨x, y, z, hz⟩ := hD
      exact Tabs.keep hT hz (kH.trans ks)
    refine part5 bad db odd dod z1 flat wide vector dv size dz g H3 ⟨hd, mv, mz⟩ ⟨(kH.trans ks).kn, tb, d3, by simp, fun q hq => ?_⟩
    simp only [List.mem_cons, List.not_mem_nil, or_false] at hq
    rcases hq with rfl | rfl | rfl | rfl | rfl | rfl
    · exact ⟨up pb, trivial⟩
    · exact ⟨up po, trivial⟩
    · exact ⟨up pf, trivial⟩
    · exact ⟨up pw, trivial⟩
    · exact ⟨Pl.mono kz.kn _ _ pv, trivial⟩
    · exact ⟨pz, trivial⟩
  unfold t__law_right
  walk_at "z"
  have hDf := hD
  refine ⟨by decide, fun ad1 hd1 => ?_⟩
  have nd1 : D ≠ ad1 := hDf.ne hd1
  have sd1 := same_upd (o := .tup [.int (2)]) hd1
  have ed1 : upd H ad1 (.tup [.int (2)]) ad1 = some (.tup [.int (2)]) := upd_same
  generalize upd H ad1 (.tup [.int (2)]) = Gd1 at *
  replace hDf := hDf.same sd1
  have pd1 : Pl Gd1 [D] (.tuple [.int (2)]) (.ref ad1) := plT hDf ed1 (plC (by rw [Pl]) plN)
  refine ⟨cpow (by decide), cpow (by decide), mulS (by decide), ?_⟩
  refine ⟨by decide, fun ad2 hd2 => ?_⟩
  have nd2 : D ≠ ad2 := hDf.ne hd2
  have sd2 := same_upd (o := .lst [.non, .int (-1), .int (1), .int (4), .int (9999), .int (10007), .bl true, .str "2", V.ref ad1, .int (10 ^ Int.toNat 60), .int (2 * 10 ^ Int.toNat 60)]) hd2
  have ed2 : upd Gd1 ad2 (.lst [.non, .int (-1), .int (1), .int (4), .int (9999), .int (10007), .bl true, .str "2", V.ref ad1, .int (10 ^ Int.toNat 60), .int (2 * 10 ^ Int.toNat 60)]) ad2 = some (.lst [.non, .int (-1), .int (1), .int (4), .int (9999), .int (10007), .bl true, .str "2", V.ref ad1, .int (10 ^ Int.toNat 60), .int (2 * 10 ^ Int.toNat 60)]) := upd_same
  generalize upd Gd1 ad2 (.lst [.non, .int (-1), .int (1), .int (4), .int (9999), .int (10007), .bl true, .str "2", V.ref ad1, .int (10 ^ Int.toNat 60), .int (2 * 10 ^ Int.toNat 60)]) = Gd2 at *
  replace hDf := hDf.same sd2
  refine ⟨D, ad2, _, rfl, hDf, nd2, ed2, by simp, by simp, fun bad H1 hv k1 d1 => ?_⟩
  obtain ⟨db, mb, pb⟩ : ∃ d ∈ badG, Pl H1 [D] d bad := by
    simp only [List.mem_cons, List.not_mem_nil, or_false] at hv
    rcases hv with rfl | rfl | rfl | rfl | rfl | rfl | rfl | rfl | rfl | rfl | rfl
    · exact ⟨.none, List.mem_of_getElem? (i := 0) rfl, Pl.mono k1.kn _ _ (by rw [Pl])⟩
    · exact ⟨.int (-1), List.mem_of_getElem? (i := 1) rfl, Pl.mono k1.kn _ _ (by rw [Pl])⟩
    · exact ⟨.int (1), List.mem_of_getElem? (i := 2) rfl, Pl.mono k1.kn _ _ (by rw [Pl])⟩
    · exact ⟨.int (4), List.mem_of_getElem? (i := 3) rfl, Pl.mono k1.kn _ _ (by rw [Pl])⟩
    · exact ⟨.int (9999), List.mem_of_getElem? (i := 4) rfl, Pl.mono k1.kn _ _ (by rw [Pl])⟩
    · exact ⟨.int (10007), List.mem_of_getElem? (i := 5) rfl, Pl.mono k1.kn _ _ (by rw [Pl])⟩
    · exact ⟨.bool true, List.mem_of_getElem? (i := 6) rfl, Pl.mono k1.kn _ _ (by rw [Pl])⟩
    · exact ⟨.str "2", List.mem_of_getElem? (i := 7) rfl, Pl.mono k1.kn _ _ (by rw [Pl])⟩
    · exact ⟨(.tuple [.int (2)]), List.mem_of_getElem? (i := 8) rfl, Pl.mono k1.kn _ _ (pd1.same (by walk_at "ss"))⟩
    · exact ⟨.int (10 ^ Int.toNat 60), List.mem_of_getElem? (i := 9) rfl, Pl.mono k1.kn _ _ (by rw [Pl])⟩
    · exact ⟨.int (2 * 10 ^ Int.toNat 60), List.mem_of_getElem? (i := 10) rfl, Pl.mono k1.kn _ _ (by rw [Pl])⟩
  have ka : Keep D H H1 := ((Keep.refl D H).same (by walk_at "ss")).trans k1
  refine ⟨D, rfl, d1, fun g H2 hg k2 d2 => ?_⟩
  refine ⟨D, g, rfl, d2, hg, fun odd dod H3 mo po k3 d3 => ?_⟩
  refine ⟨g, rfl, (g9 g hg).1, (g9 g hg).2, fun z1 H4 s4 n4 => ?_⟩
  have p1 := pl_of_num (d3.same s4) n4
  have hDf := d3.same s4
  refine ⟨by decide, fun ae1 he1 => ?_⟩
  have ne1 : D ≠ ae1 := hDf.ne he1
  have se1 := same_upd (o := .tup [odd, z1]) he1
  have ee1 : upd H4 ae1 (.tup [odd, z1]) ae1 = some (.tup [odd, z1]) := upd_same
  generalize upd H4 ae1 (.tup [odd, z1]) = Ge1 at *
  replace hDf := hDf.same se1
  have pe1 : Pl Ge1 [D] (.tuple [dod, oneD g]) (.ref ae1) := plT hDf ee1 (plC ((Pl.same po s4).same (by walk_at "ss")) (plC (p1.same (by walk_at "ss")) plN))
  refine ⟨_, sqT_of ee1, rfl, ?_⟩
  walk_at "z"
  refine ⟨by decide, fun ae2 he2 => ?_⟩
  have ne2 : D ≠ ae2 := hDf.ne he2
  have se2 := same_upd (o := .tup [z1, z1]) he2
  have ee2 : upd Ge1 ae2 (.tup [z1, z1]) ae2 = some (.tup [z1, z1]) := upd_same
  generalize upd Ge1 ae2 (.tup [z1, z1]) = Ge2 at *
  replace hDf := hDf.same se2
  have pe2 : Pl Ge2 [D] (.tuple [oneD g, oneD g]) (.ref ae2) := plT hDf ee2 (plC (p1.same (by walk_at "ss")) (plC (p1.same (by walk_at "ss")) plN))
  refine ⟨by decide, fun ae3 he3 => ?_⟩
  have ne3 : D ≠ ae3 := hDf.ne he3
  have se3 := same_upd (o := .tup [z1, z1]) he3
  have ee3 : upd Ge2 ae3 (.tup [z1, z1]) ae3 = some (.tup [z1, z1]) := upd_same
  generalize upd Ge2 ae3 (.tup [z1, z1]) = Ge3 at *
  replace hDf := hDf.same se3
  have pe3 : Pl Ge3 [D] (.tuple [oneD g, oneD g]) (.ref ae3) := plT hDf ee3 (plC (p1.same (by walk_at "ss")) (plC (p1.same (by walk_at "ss")) plN))
  refine ⟨by decide, fun ae4 he4 => ?_⟩
  have ne4 : D ≠ ae4 := hDf.ne he4
  have se4 := same_upd (o := .tup [V.ref ae2, V.ref ae3]) he4
  have ee4 : upd Ge3 ae4 (.tup [V.ref ae2, V.ref ae3]) ae4 = some (.tup [V.ref ae2, V.ref ae3]) := upd_same
  generalize upd Ge3 ae4 (.tup [V.ref ae2, V.ref ae3]) = Ge4 at *
  replace hDf := hDf.same se4
  have pe4 : Pl Ge4 [D] (.tuple [(.tuple [oneD g, oneD g]), (.tuple [oneD g, oneD g])]) (.ref ae4) := plT hDf ee4 (plC (pe2.same (by walk_at "ss")) (plC (pe3.same (by walk_at "ss")) plN))
  refine ⟨by decide, fun ae5 he5 => ?_⟩
  have ne5 : D ≠ ae5 := hDf.ne he5
  have se5 := same_upd (o := .tup [z1, z1]) he5
  have ee5 : upd Ge4 ae5 (.tup [z1, z1]) ae5 = some (.tup [z1, z1]) := upd_same
  generalize upd Ge4 ae5 (.tup [z1, z1]) = Ge5 at *
  replace hDf := hDf.same se5
  have pe5 : Pl Ge5 [D] (.tuple [oneD g, oneD g]) (.ref ae5) := plT hDf ee5 (plC (p1.same (by walk_at "ss")) (plC (p1.same (by walk_at "ss")) plN))
  refine ⟨by decide, fun ae6 he6 => ?_⟩
  have ne6 : D ≠ ae6 := hDf.ne he6
  have se6 := same_upd (o := .tup [V.ref ae5]) he6
  have ee6 : upd Ge5 ae6 (.tup [V.ref ae5]) ae6 = some (.tup [V.ref ae5]) := upd_same
  generalize upd Ge5 ae6 (.tup [V.ref ae5]) = Ge6 at *
  replace hDf := hDf.same se6
  have pe6 : Pl Ge6 [D] (.tuple [(.tuple [oneD g, oneD g])]) (.ref ae6) := plT hDf ee6 (plC (pe5.same (by walk_at "ss")) plN)
  refine ⟨by decide, fun ae7 he7 => ?_⟩
  have ne7 : D ≠ ae7 := hDf.ne he7
  have se7 := same_upd (o := .tup [V.ref ae4, V.ref ae6]) he7
  have ee7 : upd Ge6 ae7 (.tup [V.ref ae4, V.ref ae6]) ae7 = some (.tup [V.ref ae4, V.ref ae6]) := upd_same
  generalize upd Ge6 ae7 (.tup [V.ref ae4, V.ref ae6]) = Ge7 at *
  replace hDf := hDf.same se7
  refine ⟨_, sqT_of ee7, rfl, ?_⟩
  walk_at "z"
  have kf : Keep D H Ge7 := ((ka.trans k2).trans k3).same (by walk_at "ss")
  exact part6 bad db odd dod z1 _ _ g Ge7 ⟨hg, mb, mo⟩ (p1.same (by walk_at "ss")) (((Pl.mono (k2.kn.trans k3.kn) _ _ pb)).same (by walk_at "ss")) (po.same (by walk_at "ss")) (pe4.same (by walk_at "ss")) (pe6.same (by walk_at "ss")) kf hDf
theorem ok__law_right {P : Program} {w : World} {K : PySem.W.Frag} {mg : Str → Option Value} {base : Heap} (T : Tx K mg) (TB : ∀ p ∈ tfs, LamX.TabB base mg (He.cT K p).1 (He.cT K p).2) : OkkG P w K mg base 12 "_law_right" ["dice"] (sp__law_right K) := by
  obtain ⟨fd_is_table, F_is_table, b_is_table, g_is_table, k_is_table⟩ := ok_is_table (P := P) (w := w) (base := base) T
  obtain ⟨fd_unit_table, F_unit_table, b_unit_table, g_unit_table, k_unit_table⟩ := ok_unit_table (P := P) (w := w) (base := base) T
  obtain ⟨fd_table_product, F_table_product, b_table_product, g_table_product, k_table_product⟩ := ok_table_product (P := P) (w := w) (base := base) T
  obtain ⟨fd_reduced_rows, F_reduced_rows, b_reduced_rows, g_reduced_rows, k_reduced_rows⟩ := ok_reduced_rows (P := P) (w := w) (base := base) T
  obtain ⟨fd_leads, F_leads, b_leads, g_leads, k_leads⟩ := ok_leads (P := P) (w := w) (base := base) T
  obtain ⟨fd_rank, F_rank, b_rank, g_rank, k_rank⟩ := ok_rank (P := P) (w := w) (base := base) T
  obtain ⟨fd_kernel, F_kernel, b_kernel, g_kernel, k_kernel⟩ := ok_kernel (P := P) (w := w) (base := base) T
  obtain ⟨fd_determinant, F_determinant, b_determinant, g_determinant, k_determinant⟩ := ok_determinant (P := P) (w := w) (base := base) T
  obtain ⟨fd_undoing, F_undoing, b_undoing, g_undoing, k_undoing⟩ := ok_undoing (P := P) (w := w) (base := base) T
  obtain ⟨fd_solve_answer, F_solve_answer, b_solve_answer, g_solve_answer, k_solve_answer⟩ := ok_solve_answer (P := P) (w := w) (base := base) T
  obtain ⟨fd_rank_answer, F_rank_answer, b_rank_answer, g_rank_answer, k_rank_answer⟩ := ok_rank_answer (P := P) (w := w) (base := base) T
  obtain ⟨fd__law_pick, F__law_pick, b__law_pick, g__law_pick, k__law_pick⟩ := ok__law_pick (P := P) (w := w) (base := base) T
  obtain ⟨fd__law_unit, F__law_unit, b__law_unit, g__law_unit, k__law_unit⟩ := ok__law_unit (P := P) (w := w) (base := base) T
  obtain ⟨fd__law_eq_ground, F__law_eq_ground, b__law_eq_ground, g__law_eq_ground, k__law_eq_ground⟩ := ok__law_eq_ground (P := P) (w := w) (base := base) T
  obtain ⟨fd__law_bad_table, F__law_bad_table, b__law_bad_table, g__law_bad_table, k__law_bad_table⟩ := ok__law_bad_table (P := P) (w := w) (base := base) T
  have hf_repr := T.n_repr
  have dis := T.dis
  obtain ⟨fd__law_fault, F__law_fault⟩ := T.f__law_fault
  have gg__law_fault := T.g__law_fault
  have hb__law_fault := F__law_fault.bindsN (ps := ["call"]) (fun _ _ _ _ _ _ us hl => match us, hl with | [_], _ => rfl)
  obtain ⟨fd, F⟩ := T.f__law_right
  refine ⟨fd, okG F sc__law_right (fun vs H Q E h => len__law_right h) (fun c A outer s H vs Q E hc hgd hr h => ⟨t__law_right K, PSs.nox ?_, pure__law_right K vs H Q E h⟩), F.bindsN (fun _ _ _ _ _ _ us hl => match us, hl with | [_], _ => rfl), T.g__law_right, F.kp⟩
  have tb := TB ("_law_right", none) (by simp [tfs])
  have ec : (He.cT K ("_law_right", none)).1 = c := codeOf_fd F hc
  rw [ec] at tb
  have hu80 := hu80_of hr
  have hu64 := hu64_of hr
  exact (pss_cons (ps_set (i := 1) sc__law_right.nd rfl (by first | exact Or.inl rfl | exact Or.inr rfl) (pe_call F__law_pick (hr.mono (by decide)) rfl g__law_pick k__law_pick b__law_pick .nil pass0 (pa_cons (pv 0) (pa_cons (pe_lst (pa_cons pe_non (pa_cons (pe_un un_neg pe_int) (pa_cons pe_int (pa_cons pe_int (pa_cons pe_int (pa_cons pe_int (pa_cons pe_bl (pa_cons pe_str (pa_cons (pe_tup (pa_cons pe_int pa_nil)) (pa_cons (pe_op op_pow pe_int pe_int) (pa_cons (pe_op op_mulU pe_int (pe_op op_pow pe_int pe_int)) pa_nil)))))))))))) pa_nil))))
      (pss_cons (ps_set (i := 2) sc__law_right.nd rfl (by first | exact Or.inl rfl | exact Or.inr rfl) (pe_call F__law_eq_ground (hr.mono (by decide)) rfl g__law_eq_ground k__law_eq_ground b__law_eq_ground .nil pass0 (pa_cons (pv 0) pa_nil)))
      (pss_cons (ps_asg (pe_tup (pa_cons (pe_call F__law_bad_table (hr.mono (by decide)) rfl g__law_bad_table k__law_bad_table b__law_bad_table .nil pass0 (pa_cons (pv 0) (pa_cons (pv 2) pa_nil))) (pa_cons (pe_call F__law_unit (hr.mono (by decide)) rfl g__law_unit k__law_unit b__law_unit .nil pass0 (pa_cons (pv 2) pa_nil)) pa_nil))) (pg_tup rfl (pgs_cons (pg_name (i := 3) sc__law_right.nd rfl (by first | exact Or.inl rfl | exact Or.inr rfl)) (pgs_cons (pg_name (i := 4) sc__law_right.nd rfl (by first | exact Or.inl rfl | exact Or.inr rfl)) pgs_nil))))
      (pss_cons (ps_asg (pe_tup (pa_cons (pe_tup (pa_cons (pe_tup (pa_cons (pv 4) (pa_cons (pv 4) pa_nil))) (pa_cons (pe_tup (pa_cons (pv 4) (pa_cons (pv 4) pa_nil))) pa_nil))) (pa_cons (pe_tup (pa_cons (pe_tup (pa_cons (pv 4) (pa_cons (pv 4) pa_nil))) pa_nil)) pa_nil))) (pg_tup rfl (pgs_cons (pg_name (i := 5) sc__law_right.nd rfl (by first | exact Or.inl rfl | exact Or.inr rfl)) (pgs_cons (pg_name (i := 6) sc__law_right.nd rfl (by first | exact Or.inl rfl | exact Or.inr rfl)) pgs_nil))))
      (pss_cons (ps_set (i := 7) sc__law_right.nd rfl (by first | exact Or.inl rfl | exact Or.inr rfl) (pe_call F__law_pick (hr.mono (by decide)) rfl g__law_pick k__law_pick b__law_pick .nil pass0 (pa_cons (pv 0) (pa_cons (pe_lst (pa_cons pe_non (pa_cons (pe_tup pa_nil) (pa_cons (pe_tup (pa_cons (pv 4) pa_nil)) (pa_cons (pe_lst (pa_cons (pv 4) (pa_cons (pv 4) pa_nil))) (pa_cons (pe_tup (pa_cons (pv 4) (pa_cons (pv 4) (pa_cons (pv 4) pa_nil)))) (pa_cons (pe_tup (pa_cons (pv 4) (pa_cons pe_non pa_nil))) (pa_cons (pe_tup (pa_cons (pv 4) (pa_cons pe_bl pa_nil))) (pa_cons (pe_tup (pa_cons (pe_tup (pa_cons (pv 4) (pa_cons (pv 4) pa_nil))) pa_nil)) (pa_cons pe_str (pa_cons (pe_tup (pa_cons (pv 4) (pa_cons (pe_tup (pa_cons pe_int (pa_cons pe_int pa_nil))) pa_nil))) pa_nil))))))))))) pa_nil))))
      (pss_cons (ps_set (i := 8) sc__law_right.nd rfl (by first | exact Or.inl rfl | exact Or.inr rfl) (pe_call F__law_pick (hr.mono (by decide)) rfl g__law_pick k__law_pick b__law_pick .nil pass0 (pa_cons (pv 0) (pa_cons (pe_lst (pa_cons pe_non (pa_cons pe_int (pa_cons pe_int (pa_cons (pe_un un_neg pe_int) (pa_cons pe_bl (pa_cons pe_str (pa_cons (pe_tup (pa_cons pe_int pa_nil)) (pa_cons (pe_op op_pow pe_int pe_int) pa_nil))))))))) pa_nil))))
      (pss_cons (ps_set (i := 9) sc__law_right.nd rfl (by first | exact Or.inl rfl | exact Or.inr rfl) (pe_lst pa_nil))
      (pss_cons (ps_for PassesOwn.never rfl (pi_tup (pe_tup (pa_cons (pe_glob (v := .ref (He.ga K "reduced_rows")) rfl g_reduced_rows rfl) (pa_cons (pe_glob (v := .ref (He.ga K "leads")) rfl g_leads rfl) (pa_cons (pe_glob (v := .ref (He.ga K "rank")) rfl g_rank rfl) (pa_cons (pe_glob (v := .ref (He.ga K "kernel")) rfl g_kernel rfl) (pa_cons (pe_glob (v := .ref (He.ga K "determinant")) rfl g_determinant rfl) (pa_cons (pe_glob (v := .ref (He.ga K "undoing")) rfl g_undoing rfl) (pa_cons (pe_glob (v := .ref (He.ga K "rank_answer")) rfl g_rank_answer rfl) pa_nil))))))))) (pg_name (i := 10) sc__law_right.nd rfl (by first | exact Or.inl rfl | exact Or.inr rfl)) (pss_cons (ps_expr (pe_bm PySem.F.plainAttrs_list PySem.F.slot_list_append PySem.F.type_list_append mt_append (pv 9) (pa_cons (pe_met (k := 9) F__law_fault gg__law_fault hb__law_fault sc__law_fault rfl (.inl rfl) (hr.mono (by decide)) (fun cdv hr2 => met_gives T hgd hr2) rfl tb rfl (.head _) (hu__law_right dis) (LamX.lamS_by (sc := defScope s__law_right) (by decide +kernel)) rfl (fun _ _ _ _ _ => rfl) (fun _ _ _ _ E _ _ hr => (pe_callS (i := 10) (S := (fun f sp => (f = He.ga K "reduced_rows" ∧ sp = sp_reduced_rows K) ∨ (f = He.ga K "leads" ∧ sp = sp_leads K) ∨ (f = He.ga K "rank" ∧ sp = sp_rank K) ∨ (f = He.ga K "kernel" ∧ sp = sp_kernel K) ∨ (f = He.ga K "determinant" ∧ sp = sp_determinant K) ∨ (f = He.ga K "undoing" ∧ sp = sp_undoing K) ∨ (f = He.ga K "rank_answer" ∧ sp = sp_rank_answer K))) (fun f sp h => by
    rcases h with ⟨rfl, rfl⟩ | ⟨rfl, rfl⟩ | ⟨rfl, rfl⟩ | ⟨rfl, rfl⟩ | ⟨rfl, rfl⟩ | ⟨rfl, rfl⟩ | ⟨rfl, rfl⟩
    · exact ⟨_, _, _, hr.mono (by decide), F_reduced_rows, k_reduced_rows, b_reduced_rows⟩
    · exact ⟨_, _, _, hr.mono (by decide), F_leads, k_leads, b_leads⟩
    · exact ⟨_, _, _, hr.mono (by decide), F_rank, k_rank, b_rank⟩
    · exact ⟨_, _, _, hr.mono (by decide), F_kernel, k_kernel, b_kernel⟩
    · exact ⟨_, _, _, hr.mono (by decide), F_determinant, k_determinant, b_determinant⟩
    · exact ⟨_, _, _, hr.mono (by decide), F_undoing, k_undoing, b_undoing⟩
    · exact ⟨_, _, _, hr.mono (by decide), F_rank_answer, k_rank_answer, b_rank_answer⟩) rfl (by first | exact Or.inl rfl | exact Or.inr (Or.inl rfl) | exact Or.inr (Or.inr rfl)) (passes_call (takes_of rfl rfl rfl rfl) (fun _ _ _ _ h => h)) (pa_cons (pv 1) (pa_cons (pv 3) pa_nil))))) pa_nil)))
      (pss_one (ps_expr (pe_bm PySem.F.plainAttrs_list PySem.F.slot_list_append PySem.F.type_list_append mt_append (pv 9) (pa_cons (pe_met (k := 9) F__law_fault gg__law_fault hb__law_fault sc__law_fault rfl (.inl rfl) (hr.mono (by decide)) (fun cdv hr2 => met_gives T hgd hr2) rfl tb rfl (.head _) (hu__law_right dis) (LamX.lamS_by (sc := defScope s__law_right) (by decide +kernel)) rfl (fun _ _ _ _ _ => rfl) (fun _ _ _ _ E _ _ hr => (pe_callS (i := 10) (S := (fun f sp => (f = He.ga K "reduced_rows" ∧ sp = sp_reduced_rows K) ∨ (f = He.ga K "leads" ∧ sp = sp_leads K) ∨ (f = He.ga K "rank" ∧ sp = sp_rank K) ∨ (f = He.ga K "kernel" ∧ sp = sp_kernel K) ∨ (f = He.ga K "determinant" ∧ sp = sp_determinant K) ∨ (f = He.ga K "undoing" ∧ sp = sp_undoing K) ∨ (f = He.ga K "rank_answer" ∧ sp = sp_rank_answer K))) (fun f sp h => by
    rcases h with ⟨rfl, rfl⟩ | ⟨rfl, rfl⟩ | ⟨rfl, rfl⟩ | ⟨rfl, rfl⟩ | ⟨rfl, rfl⟩ | ⟨rfl, rfl⟩ | ⟨rfl, rfl⟩
    · exact ⟨_, _, _, hr.mono (by decide), F_reduced_rows, k_reduced_rows, b_reduced_rows⟩
    · exact ⟨_, _, _, hr.mono (by decide), F_leads, k_leads, b_leads⟩
    · exact ⟨_, _, _, hr.mono (by decide), F_rank, k_rank, b_rank⟩
    · exact ⟨_, _, _, hr.mono (by decide), F_kernel, k_kernel, b_kernel⟩
    · exact ⟨_, _, _, hr.mono (by decide), F_determinant, k_determinant, b_determinant⟩
    · exact ⟨_, _, _, hr.mono (by decide), F_undoing, k_undoing, b_undoing⟩
    · exact ⟨_, _, _, hr.mono (by decide), F_rank_answer, k_rank_answer, b_rank_answer⟩) rfl (by first | exact Or.inl rfl | exact Or.inr (Or.inl rfl) | exact Or.inr (Or.inr rfl)) (passes_call (takes_of rfl rfl rfl rfl) (fun _ _ _ _ h => h)) (pa_cons (pv 2) (pa_cons (pv 3) pa_nil))))) pa_nil))))))
      (pss_cons (ps_set (i := 11) sc__law_right.nd rfl (by first | exact Or.inl rfl | exact Or.inr rfl) (pe_op op_rep (pe_lst (pa_cons (pe_tup (pa_cons pe_str (pa_cons (pe_op op_add_str pe_str (pe_callB (call_repV2 (K := K) rfl hgd hu80) (by rfl) hf_repr (by decide +kernel) (pa_cons (pv 1) pa_nil))) pa_nil))) (pa_cons (pe_tup (pa_cons pe_str (pa_cons pe_str pa_nil))) pa_nil))) pe_int))
      (pss_cons (ps_for PassesOwn.never rfl (pi_tup (pe_tup (pa_cons (pe_glob (v := .ref (He.ga K "table_product")) rfl g_table_product rfl) (pa_cons (pe_glob (v := .ref (He.ga K "solve_answer")) rfl g_solve_answer rfl) pa_nil)))) (pg_name (i := 10) sc__law_right.nd rfl (by first | exact Or.inl rfl | exact Or.inr rfl)) (pss_cons (ps_expr (pe_bm PySem.F.plainAttrs_list PySem.F.slot_list_append PySem.F.type_list_append mt_append (pv 9) (pa_cons (pe_met (k := 9) F__law_fault gg__law_fault hb__law_fault sc__law_fault rfl (.inl rfl) (hr.mono (by decide)) (fun cdv hr2 => met_gives T hgd hr2) rfl tb rfl (.head _) (hu__law_right dis) (LamX.lamS_by (sc := defScope s__law_right) (by decide +kernel)) rfl (fun _ _ _ _ _ => rfl) (fun _ _ _ _ E _ _ hr => (pe_callS (i := 10) (S := (fun f sp => (f = He.ga K "table_product" ∧ sp = sp_table_product K) ∨ (f = He.ga K "solve_answer" ∧ sp = sp_solve_answer K))) (fun f sp h => by
    rcases h with ⟨rfl, rfl⟩ | ⟨rfl, rfl⟩
    · exact ⟨_, _, _, hr.mono (by decide), F_table_product, k_table_product, b_table_product⟩
    · exact ⟨_, _, _, hr.mono (by decide), F_solve_answer, k_solve_answer, b_solve_answer⟩) rfl (by first | exact Or.inl rfl | exact Or.inr (Or.inl rfl) | exact Or.inr (Or.inr rfl)) (passes_call (takes_of rfl rfl rfl rfl) (fun _ _ _ _ h => h)) (pa_cons (pv 1) (pa_cons (pv 3) (pa_cons pe_non pa_nil)))))) pa_nil)))
      (pss_one (ps_expr (pe_bm PySem.F.plainAttrs_list PySem.F.slot_list_append PySem.F.type_list_append mt_append (pv 9) (pa_cons (pe_met (k := 9) F__law_fault gg__law_fault hb__law_fault sc__law_fault rfl (.inl rfl) (hr.mono (by decide)) (fun cdv hr2 => met_gives T hgd hr2) rfl tb rfl (.head _) (hu__law_right dis) (LamX.lamS_by (sc := defScope s__law_right) (by decide +kernel)) rfl (fun _ _ _ _ _ => rfl) (fun _ _ _ _ E _ _ hr => (pe_callS (i := 10) (S := (fun f sp => (f = He.ga K "table_product" ∧ sp = sp_table_product K) ∨ (f = He.ga K "solve_answer" ∧ sp = sp_solve_answer K))) (fun f sp h => by
    rcases h with ⟨rfl, rfl⟩ | ⟨rfl, rfl⟩
    · exact ⟨_, _, _, hr.mono (by decide), F_table_product, k_table_product, b_table_product⟩
    · exact ⟨_, _, _, hr.mono (by decide), F_solve_answer, k_solve_answer, b_solve_answer⟩) rfl (by first | exact Or.inl rfl | exact Or.inr (Or.inl rfl) | exact Or.inr (Or.inr rfl)) (passes_call (takes_of rfl rfl rfl rfl) (fun _ _ _ _ h => h)) (pa_cons (pv 2) (pa_cons (pv 3) (pa_cons pe_non pa_nil)))))) pa_nil))))))
      (pss_cons (ps_expr (pe_bm PySem.F.plainAttrs_list PySem.F.slot_list_append PySem.F.type_list_append mt_append (pv 9) (pa_cons (pe_met (k := 9) F__law_fault gg__law_fault hb__law_fault sc__law_fault rfl (.inl rfl) (hr.mono (by decide)) (fun cdv hr2 => met_gives T hgd hr2) rfl tb rfl (.head _) (hu__law_right dis) (LamX.lamS_by (sc := defScope s__law_right) (by decide +kernel)) rfl (fun _ _ _ _ _ => rfl) (fun _ _ _ _ E _ _ hr => (pe_call F_table_product (hr.mono (by decide)) rfl g_table_product k_table_product b_table_product .nil (passes_call (takes_of rfl rfl rfl rfl) (fun _ _ _ _ h => h)) (pa_cons (pv 2) (pa_cons (pv 5) (pa_cons (pv 3) pa_nil)))))) pa_nil)))
      (pss_cons (ps_expr (pe_bm PySem.F.plainAttrs_list PySem.F.slot_list_append PySem.F.type_list_append mt_append (pv 9) (pa_cons (pe_met (k := 9) F__law_fault gg__law_fault hb__law_fault sc__law_fault rfl (.inl rfl) (hr.mono (by decide)) (fun cdv hr2 => met_gives T hgd hr2) rfl tb rfl (.head _) (hu__law_right dis) (LamX.lamS_by (sc := defScope s__law_right) (by decide +kernel)) rfl (fun _ _ _ _ _ => rfl) (fun _ _ _ _ E _ _ hr => (pe_call F_table_product (hr.mono (by decide)) rfl g_table_product k_table_product b_table_product .nil (passes_call (takes_of rfl rfl rfl rfl) (fun _ _ _ _ h => h)) (pa_cons (pv 2) (pa_cons (pv 5) (pa_cons (pv 6) pa_nil)))))) pa_nil)))
      (pss_cons (ps_expr (pe_bm PySem.F.plainAttrs_list PySem.F.slot_list_append PySem.F.type_list_append mt_append (pv 9) (pa_cons (pe_met (k := 9) F__law_fault gg__law_fault hb__law_fault sc__law_fault rfl (.inl rfl) (hr.mono (by decide)) (fun cdv hr2 => met_gives T hgd hr2) rfl tb rfl (.head _) (hu__law_right dis) (LamX.lamS_by (sc := defScope s__law_right) (by decide +kernel)) rfl (fun _ _ _ _ _ => rfl) (fun _ _ _ _ E _ _ hr => (pe_call F_solve_answer (hr.mono (by decide)) rfl g_solve_answer k_solve_answer b_solve_answer .nil (passes_call (takes_of rfl rfl rfl rfl) (fun _ _ _ _ h => h)) (pa_cons (pv 2) (pa_cons (pv 5) (pa_cons (pv 7) pa_nil)))))) pa_nil)))
      (pss_cons (ps_set (i := 11) sc__law_right.nd rfl (by first | exact Or.inl rfl | exact Or.inr rfl) (pe_op op_cat (pe_op op_cat (pv 11) (pe_slice sl_list (pv 11) po_none (po_some pe_int))) (pe_lst (pa_cons (pe_tup (pa_cons pe_str (pa_cons pe_str pa_nil))) (pa_cons (pe_tup (pa_cons pe_str (pa_cons pe_str pa_nil))) (pa_cons (pe_tup (pa_cons pe_str (pa_cons pe_str pa_nil))) pa_nil))))))
      (pss_cons (ps_expr (pe_bm PySem.F.plainAttrs_list PySem.F.slot_list_append PySem.F.type_list_append mt_append (pv 9) (pa_cons (pe_met (k := 9) F__law_fault gg__law_fault hb__law_fault sc__law_fault rfl (.inl rfl) (hr.mono (by decide)) (fun cdv hr2 => met_gives T hgd hr2) rfl tb rfl (.head _) (hu__law_right dis) (LamX.lamS_by (sc := defScope s__law_right) (by decide +kernel)) rfl (fun _ _ _ _ _ => rfl) (fun _ _ _ _ E _ _ hr => (pe_call F_determinant (hr.mono (by decide)) rfl g_determinant k_determinant b_determinant .nil (passes_call (takes_of rfl rfl rfl rfl) (fun _ _ _ _ h => h)) (pa_cons (pv 2) (pa_cons (pv 6) pa_nil))))) pa_nil)))
      (pss_cons (ps_expr (pe_bm PySem.F.plainAttrs_list PySem.F.slot_list_append PySem.F.type_list_append mt_append (pv 9) (pa_cons (pe_met (k := 9) F__law_fault gg__law_fault hb__law_fault sc__law_fault rfl (.inl rfl) (hr.mono (by decide)) (fun cdv hr2 => met_gives T hgd hr2) rfl tb rfl (.head _) (hu__law_right dis) (LamX.lamS_by (sc := defScope s__law_right) (by decide +kernel)) rfl (fun _ _ _ _ _ => rfl) (fun _ _ _ _ E _ _ hr => (pe_call F_undoing (hr.mono (by decide)) rfl g_undoing k_undoing b_undoing .nil (passes_call (takes_of rfl rfl rfl rfl) (fun _ _ _ _ h => h)) (pa_cons (pv 2) (pa_cons (pv 6) pa_nil))))) pa_nil)))
      (pss_cons (ps_expr (pe_bm PySem.F.plainAttrs_list PySem.F.slot_list_append PySem.F.type_list_append mt_append (pv 9) (pa_cons (pe_met (k := 9) F__law_fault gg__law_fault hb__law_fault sc__law_fault rfl (.inl rfl) (hr.mono (by decide)) (fun cdv hr2 => met_gives T hgd hr2) rfl tb rfl (.head _) (hu__law_right dis) (LamX.lamS_by (sc := defScope s__law_right) (by decide +kernel)) rfl (fun _ _ _ _ _ => rfl) (fun _ _ _ _ E _ _ hr => (pe_call F_undoing (hr.mono (by decide)) rfl g_undoing k_undoing b_undoing .nil (passes_call (takes_of rfl rfl rfl rfl) (fun _ _ _ _ h => h)) (pa_cons (pv 2) (pa_cons (pv 5) pa_nil))))) pa_nil)))
      (pss_cons (ps_expr (pe_bm PySem.F.plainAttrs_list PySem.F.slot_list_append PySem.F.type_list_append mt_append (pv 9) (pa_cons (pe_met (k := 9) F__law_fault gg__law_fault hb__law_fault sc__law_fault rfl (.inl rfl) (hr.mono (by decide)) (fun cdv hr2 => met_gives T hgd hr2) rfl tb rfl (.head _) (hu__law_right dis) (LamX.lamS_by (sc := defScope s__law_right) (by decide +kernel)) rfl (fun _ _ _ _ _ => rfl) (fun _ _ _ _ E _ _ hr => (pe_call F_unit_table (hr.mono (by decide)) rfl g_unit_table k_unit_table b_unit_table .nil (passes_call (takes_of rfl rfl rfl rfl) (fun _ _ _ _ h => h)) (pa_cons (pv 1) (pa_cons (pv 8) pa_nil))))) pa_nil)))
      (pss_cons (ps_expr (pe_bm PySem.F.plainAttrs_list PySem.F.slot_list_append PySem.F.type_list_append mt_append (pv 9) (pa_cons (pe_met (k := 9) F__law_fault gg__law_fault hb__law_fault sc__law_fault rfl (.inl rfl) (hr.mono (by decide)) (fun cdv hr2 => met_gives T hgd hr2) rfl tb rfl (.head _) (hu__law_right dis) (LamX.lamS_by (sc := defScope s__law_right) (by decide +kernel)) rfl (fun _ _ _ _ _ => rfl) (fun _ _ _ _ E _ _ hr => (pe_call F_unit_table (hr.mono (by decide)) rfl g_unit_table k_unit_table b_unit_table .nil (passes_call (takes_of rfl rfl rfl rfl) (fun _ _ _ _ h => h)) (pa_cons (pv 2) (pa_cons (pv 8) pa_nil))))) pa_nil)))
      (pss_cons (ps_expr (pe_bm PySem.F.plainAttrs_list PySem.F.slot_list_append PySem.F.type_list_append mt_append (pv 9) (pa_cons (pe_met (k := 9) F__law_fault gg__law_fault hb__law_fault sc__law_fault rfl (.inl rfl) (hr.mono (by decide)) (fun cdv hr2 => met_gives T hgd hr2) rfl tb rfl (.head _) (hu__law_right dis) (LamX.lamS_by (sc := defScope s__law_right) (by decide +kernel)) rfl (fun _ _ _ _ _ => rfl) (fun _ _ _ _ E _ _ hr => (pe_call F_is_table (hr.mono (by decide)) rfl g_is_table k_is_table b_is_table .nil (passes_call (takes_of rfl rfl rfl rfl) (fun _ _ _ _ h => h)) (pa_cons (pv 1) (pa_cons pe_non pa_nil))))) pa_nil)))
      (pss_cons (ps_set (i := 11) sc__law_right.nd rfl (by first | exact Or.inl rfl | exact Or.inr rfl) (pe_op op_cat (pe_op op_cat (pv 11) (pe_op op_rep (pe_lst (pa_cons (pe_tup (pa_cons pe_str (pa_cons pe_str pa_nil))) pa_nil)) pe_int)) (pe_lst (pa_cons (pe_tup (pa_cons pe_str (pa_cons pe_str pa_nil))) (pa_cons (pe_tup (pa_cons pe_str (pa_cons (pe_op op_add_str pe_str (pe_callB (call_repV2 (K := K) rfl hgd hu80) (by rfl) hf_repr (by decide +kernel) (pa_cons (pv 1) pa_nil))) pa_nil))) pa_nil)))))
      (pss_cons (ps_set (i := 11) sc__law_right.nd rfl (by first | exact Or.inl rfl | exact Or.inr rfl) (pe_op op_cat (pv 11) (pe_lst (pa_cons (pe_tup (pa_cons pe_str (pa_cons (pe_op op_add_str pe_str (pe_callB (call_repV2 (K := K) rfl hgd hu80) (by rfl) hf_repr (by decide +kernel) (pa_cons (pv 8) pa_nil))) pa_nil))) (pa_cons (pe_tup (pa_cons pe_str (pa_cons (pe_op op_add_str pe_str (pe_callB (call_repV2 (K := K) rfl hgd hu80) (by rfl) hf_repr (by decide +kernel) (pa_cons (pv 1) pa_nil))) pa_nil))) pa_nil)))))
      (pss_one (ps_ret (pe_and (pe_cmpR (op_eqD hu64) (pv 9) (pv 11) (nomark _)) (pe_and (pe_not (pe_call F_is_table (hr.mono (by decide)) rfl g_is_table k_is_table b_is_table .nil passE0 (pa_cons (pv 2) (pa_cons (pv 3) pa_nil)))) (pe_one (pe_call F_is_table (hr.mono (by decide)) rfl g_is_table k_is_table b_is_table .nil passE0 (pa_cons (pv 2) (pa_cons (pv 5) pa_nil))))))))))))))))))))))))))))))
/-! ### law -/
theorem sc_law : FnScope ["script", "spot", "dice", "great", "told"] ["script"] (defScope s_law) := ⟨rfl, rfl, rfl, by decide +kernel, rfl, by decide +kernel, by decide +kernel⟩
def sp_law (K : PySem.W.Frag) : Sp := fun vs H Q _ => ∃ (a : Addr) (ns : List Int), vs = [.ref a] ∧ SqL K H a (ns.map V.int) ∧ ns.length ≤ 63 ∧ LamX.Tabs (Ts K) H ∧ ∀ H', Q (.bl true) H'
theorem len_law {K : PySem.W.Frag} {vs : List V} {H : Hp} {Q : VK} {E : XK} (h : sp_law K vs H Q E) : vs.length = ["script"].length := by
  obtain ⟨_, _, rfl, _⟩ := h
  rfl
def t_law_f1_b (K : PySem.W.Frag) : TS := (tSeq (tAsg (tCall (sp__law_dice K) [] E0 (tCons (tVar 0) (tCons (tVar 1) tNil))) (gName 2))
  (tIfS (tOr (tNot (tB (tCall (sp__law_right K) [] E0 (tCons (tVar 2) tNil)))) (tNot (tB (tCall (sp__law_right K) [] E0 (tCons (tVar 2) tNil))))) (tRet (tC (.bl false))) tNext))
def t_law_k2_b (K : PySem.W.Frag) : TS := (tSeq (tAsg (tCB (rTupOf K) (tCons (tOp rRep (tLst (tCons (tCB (rTupOf K) (tCons (tOp rRep (tLst (tCons (tTup (tCons (tOp rSub (tOp rPowU (tC (.int 10)) (tC (.int 20))) (tC (.int 1))) (tCons (tC (.int 1)) tNil))) tNil)) (tC (.int 12))) tNil)) tNil)) (tC (.int 12))) tNil)) (gName 3))
  (tSeq (tAsg (tLst (tCons (LamX.tLam (Ts K) (TMet K) (fun E => (tCall (sp_rank_answer K) [] E (tCons (tC (.int 0)) (tCons (tVar 3) tNil))))) tNil)) (gName 4))
  (tSeq (tDrop (tBM K "list" rAppend (tVar 4) (tCons (LamX.tLam (Ts K) (TMet K) (fun E => (tCall (sp_unit_table K) [] E (tCons (tC (.int 9973)) (tCons (tC (.int 12)) tNil))))) tNil)))
  (tSeq (tDrop (tBM K "list" rAppend (tVar 4) (tCons (LamX.tLam (Ts K) (TMet K) (fun E => (tCall (sp_solve_answer K) [] E (tCons (tC (.int 2)) (tCons (tOp (rRepT K) (tTup (tCons (tOp (rRepT K) (tTup (tCons (tC (.int 1)) tNil)) (tC (.int 12))) tNil)) (tC (.int 12))) (tCons (tOp (rRepT K) (tTup (tCons (tC (.int 1)) tNil)) (tC (.int 12))) tNil)))))) tNil)))
  (tRet (tAndV (tOp (rEqD K) (tVar 4) (tOp rRep (tLst (tCons (tTup (tCons (tC (.str "let")) (tCons (tC (.str "")) tNil))) tNil)) (tC (.int 3)))) (tAndV (tOp rEq (tC (.int 12)) (tC (.int 12))) (tAndV (tCall (sp_is_table K) [] E0 (tCons (tC (.int 0)) (tCons (tVar 3) tNil))) (tNotV (tCall (sp_is_table K) [] E0 (tCons (tC (.int 0)) (tCons (tTup (tCons (tTup (tCons (tTup (tCons (tOp rPowU (tC (.int 10)) (tC (.int 20))) (tCons (tC (.int 1)) tNil))) tNil)) tNil)) tNil))))))))))))
def t_law (K : PySem.W.Frag) : TS := (tSeq (tFor (iRng1 (tCons (tCB (rMax2) (tCons (tC (.int 1)) (tCons (tCB (rMin2) (tCons (tC (.int 3)) (tCons (tCB (rLenU K) (tCons (tVar 0) tNil)) tNil))) tNil))) tNil)) (gName 1) (t_law_f1_b K))
  (t_law_k2_b K))
theorem sqL_kn {K : PySem.W.Frag} {H H' : Hp} {D a : Addr} {xs : List V} (h : SqL K H a xs) (n : H D = none) (k : KN [D] H H') : SqL K H' a xs := by
  have step : ∀ o, H a = some o → (∀ ps, o ≠ .tbl ps) → H' a = some o := fun o e t => k a o (fun z => by
    have : a = D := by simpa using z
    subst this
    rw [n] at e
    cases e) e t
  rcases h with (h | ⟨o, h⟩) | h
  · exact .inl (.inl (step _ h (fun _ z => by cases z)))
  · exact .inl (.inr ⟨o, step _ h (fun _ z => by cases z)⟩)
  · exact .inr h
/-- the words so far, where there are no dice -/
structure Wd0 (K : PySem.W.Frag) (L : Addr) (ws : List (List Str)) (H : Hp) : Prop where
  tb : LamX.Tabs (Ts K) H
  t : Told H L ws
theorem app0 {K : PySem.W.Frag} {L : Addr} {H : Hp} {ws : List (List Str)} {w : List Str} {tl : XK → Hp → VK → Prop} {R : V → Hp → Prop} (s : Wd0 K L ws H) (hl : ws.length < 1000) (hw : w.all PyData.strOk = true)
    (h : ∀ H1 Q, (∀ q H2, Same H1 H2 → H2 q = some (.tup (w.map V.str)) → Q (V.ref q) H2) → TMet K tl H1 Q) (hr : ∀ H3, Wd0 K L (ws ++ [w]) H3 → R .non H3) :
    tyV K "list" (V.ref L) H ∧ LamX.Tabs (Ts K) H ∧ ∀ H1, LamX.ExtN H H1 → LamX.Tabs (Ts K) H1 → TMet K tl H1 fun x H2 => rAppend (V.ref L) [x] H2 R := by
  obtain ⟨xs, hL, hx⟩ := s.t
  refine ⟨.inl ⟨rfl, xs, sqL_of hL⟩, s.tb, fun H1 e1 t1 => h H1 _ fun q H2 s2 hq => ?_⟩
  obtain ⟨xs2, hL2, hx2⟩ := s.t.ext (e1.trans (ExtN.same s2))
  refine ⟨L, xs2, .ref q, rfl, rfl, hL2, ?_, hr _ ⟨Tabs.keep (t1.ext fun b o e => s2 b o e) hL2 (fun b o n e => by rw [upd_ne n]; exact e), Told.put hL2 hx2 hq hw⟩⟩
  have := hx2.len
  rw [sizeLine_eq]
  omega
theorem first0 {K : PySem.W.Frag} {H : Hp} {w : List Str} {tl : XK → Hp → VK → Prop} {R : V → Hp → Addr → Prop} (tb : LamX.Tabs (Ts K) H) (hw : w.all PyData.strOk = true)
    (h : ∀ H1 Q, (∀ q H2, Same H1 H2 → H2 q = some (.tup (w.map V.str)) → Q (V.ref q) H2) → TMet K tl H1 Q) (hr : ∀ L q H3, Wd0 K L [w] (upd H3 L (.lst [.ref q])) → R (.ref q) H3 L) :
    LamX.Tabs (Ts K) H ∧ ∀ H1, LamX.ExtN H H1 → LamX.Tabs (Ts K) H1 → TMet K tl H1 fun x H2 => 1 ≤ sizeLine ∧ ∀ p, H2 p = none → R x H2 p := by
  refine ⟨tb, fun H1 e1 t1 => h H1 _ fun q H2 s2 hq => ⟨by decide, fun L hn => hr L q _ ⟨(t1.ext fun b o e => s2 b o e).ext fun b o e => same_upd hn b o e, [.ref q], upd_same, ?_⟩⟩⟩
  exact .cons ⟨q, rfl, same_upd hn _ _ hq, hw⟩ .nil
abbrev lW : List Str := ["let", ""]
/-- the words so far, and a value that stands -/
structure Wd1 (K : PySem.W.Frag) (L : Addr) (ws : List (List Str)) (d : PyData) (v : V) (H : Hp) : Prop where
  tb : LamX.Tabs (Ts K) H
  t : Told H L ws
  p : Pl H [L] d v
theorem app1 {K : PySem.W.Frag} {L : Addr} {H : Hp} {ws : List (List Str)} {w : List Str} {d : PyData} {v : V} {tl : XK → Hp → VK → Prop} {R : V → Hp → Prop} (s : Wd1 K L ws d v H) (hl : ws.length < 1000) (hw : w.all PyData.strOk = true)
    (h : ∀ H1 Q, LamX.ExtN H H1 → (∀ q H2, Same H1 H2 → H2 q = some (.tup (w.map V.str)) → Q (V.ref q) H2) → TMet K tl H1 Q) (hr : ∀ H3, Wd1 K L (ws ++ [w]) d v H3 → R .non H3) :
    tyV K "list" (V.ref L) H ∧ LamX.Tabs (Ts K) H ∧ ∀ H1, LamX.ExtN H H1 → LamX.Tabs (Ts K) H1 → TMet K tl H1 fun x H2 => rAppend (V.ref L) [x] H2 R := by
  obtain ⟨xs, hL, hx⟩ := s.t
  refine ⟨.inl ⟨rfl, xs, sqL_of hL⟩, s.tb, fun H1 e1 t1 => h H1 _ e1 fun q H2 s2 hq => ?_⟩
  obtain ⟨xs2, hL2, hx2⟩ := s.t.ext (e1.trans (ExtN.same s2))
  refine ⟨L, xs2, .ref q, rfl, rfl, hL2, ?_, hr _ ⟨Tabs.keep (t1.ext fun b o e => s2 b o e) hL2 (fun b o n e => by rw [upd_ne n]; exact e), Told.put hL2 hx2 hq hw, ?_⟩⟩
  · have := hx2.len
    rw [sizeLine_eq]
    omega
  · exact Pl.mono (KN.put (by simp)) _ _ (Pl.mono (KN.ext (e1.trans (ExtN.same s2))) _ _ s.p)
theorem first1 {K : PySem.W.Frag} {H : Hp} {w : List Str} {d : PyData} {v : V} {tl : XK → Hp → VK → Prop} {R : V → Hp → Addr → Prop} (tb : LamX.Tabs (Ts K) H) (p : Pl H [] d v) (hw : w.all PyData.strOk = true)
    (h : ∀ H1 Q, LamX.ExtN H H1 → (∀ q H2, Same H1 H2 → H2 q = some (.tup (w.map V.str)) → Q (V.ref q) H2) → TMet K tl H1 Q) (hr : ∀ L q H3, Wd1 K L [w] d v (upd H3 L (.lst [.ref q])) → R (.ref q) H3 L) :
    LamX.Tabs (Ts K) H ∧ ∀ H1, LamX.ExtN H H1 → LamX.Tabs (Ts K) H1 → TMet K tl H1 fun x H2 => 1 ≤ sizeLine ∧ ∀ p, H2 p = none → R x H2 p := by
  refine ⟨tb, fun H1 e1 t1 => h H1 _ e1 fun q H2 s2 hq => ⟨by decide, fun L hn => hr L q _ ⟨(t1.ext fun b o e => s2 b o e).ext fun b o e => same_upd hn b o e, ⟨[.ref q], upd_same, ?_⟩, ?_⟩⟩⟩
  · exact .cons ⟨q, rfl, same_upd hn _ _ hq, hw⟩ .nil
  · exact (Pl.fresh hn _ _ (Pl.mono (KN.ext (e1.trans (ExtN.same s2))) _ _ p)).same (same_upd hn)
def cD : PyData := .tuple [.int (10 ^ Int.toNat 20 - 1), .int 1]
def greatD : PyData := .tuple (List.replicate 12 (.tuple (List.replicate 12 cD)))
theorem great_ok : tabB 0 12 12 (10 ^ 20) greatD = true := by decide +kernel
theorem far_ok : tabB 0 12 12 (10 ^ 20) (.tuple [.tuple [.tuple [.int (10 ^ Int.toNat 20), .int 1]]]) = false := by decide +kernel
theorem rep_all2 {α β : Type} {R : α → β → Prop} {x : α} {q : β} (h : R x q) (n : Nat) : All2 R (List.replicate n x) (List.replicate n q) := by
  refine ⟨by simp, fun i v r hv hr => ?_⟩
  rw [List.getElem?_replicate] at hv hr
  split at hv
  · rw [if_pos (by assumption)] at hr
    cases hv; cases hr; exact h
  · cases hv
theorem great_tab {H : Hp} {no : List Addr} {v : V} (p : Pl H no greatD v) : TabN H 0 v (List.replicate 12 (List.replicate 12 (10 ^ Int.toNat 20 - 1, 1))) := by
  have one : ∀ x, Pl H no cD x → NumR H 0 x (10 ^ Int.toNat 20 - 1) 1 := fun x px => by
    obtain ⟨a, xs, rfl, hT, hA⟩ := pl_tup (ds := [.int (10 ^ Int.toNat 20 - 1), .int 1]) px
    match xs, hA with
    | [u, w], hA =>
      have e1 : Pl H no (.int (10 ^ Int.toNat 20 - 1)) u := hA.2 0 _ _ rfl rfl
      have e2 : Pl H no (.int 1) w := hA.2 1 _ _ rfl rfl
      rw [Pl] at e1 e2
      subst e1; subst e2
      exact .inl ⟨rfl, ⟨a, rfl, hT⟩, by decide, by decide +kernel⟩
    | [], hA => exact absurd hA.1 (by simp)
    | [_], hA => exact absurd hA.1 (by simp)
    | _ :: _ :: _ :: _, hA => exact absurd hA.1 (by simp)
  have row : ∀ x, Pl H no (.tuple (List.replicate 12 cD)) x → RowN H 0 x (List.replicate 12 (10 ^ Int.toNat 20 - 1, 1)) := fun x px => by
    obtain ⟨a, xs, rfl, hT, hA⟩ := pl_tup px
    refine ⟨a, xs, rfl, hT, by rw [hA.1]; simp, fun i v q hv hq => ?_⟩
    have hi := (List.getElem?_eq_some_iff.mp hq).1
    rw [List.length_replicate] at hi
    rw [List.getElem?_replicate, if_pos hi] at hq
    cases hq
    exact one v (hA.2 i v cD hv (by rw [List.getElem?_replicate, if_pos hi]))
  obtain ⟨a, xs, rfl, hT, hA⟩ := pl_tup (ds := List.replicate 12 (.tuple (List.replicate 12 cD))) p
  refine ⟨a, xs, rfl, hT, by rw [hA.1]; simp, fun i v q hv hq => ?_⟩
  have hi := (List.getElem?_eq_some_iff.mp hq).1
  rw [List.length_replicate] at hi
  rw [List.getElem?_replicate, if_pos hi] at hq
  cases hq
  exact row v (hA.2 i v _ hv (by rw [List.getElem?_replicate, if_pos hi]))
theorem plT0 {H : Hp} {p : Addr} {ds : List PyData} {xs : List V} (h : H p = some (.tup xs)) (q : PlAll H [] ds xs) : Pl H [] (.tuple ds) (.ref p) := by
  rw [Pl]
  exact ⟨p, xs, rfl, by simp, h, q⟩
theorem pure_law (K : PySem.W.Frag) (vs : List V) (H : Hp) (Q : VK) (E : XK) (h : sp_law K vs H Q E) : t_law K { nx := fun _ H' => Q .non H', rt := Q } (start ["script", "spot", "dice", "great", "told"] vs) H := by
  obtain ⟨a, ns, rfl, hS, hl, hT, hq⟩ := h
  have tail : ∀ (H1 : Hp) (o1 o2 : Option V), LamX.Tabs (Ts K) H1 → t_law_k2_b K { nx := fun x H' => Q V.non H', rt := Q } [some (V.ref a), o1, o2, none, none] H1 := by
    intro H1 o1 o2 hT1
    unfold t_law_k2_b
    walk_at "z"
    refine ⟨cpow (by decide), by decide, fun q1 h1 => ⟨by decide, fun q2 h2 => ?_⟩⟩
    have f1 := same_upd (o := .tup [V.int (10 ^ Int.toNat 20 - 1), V.int 1]) h1
    have e1 : upd H1 q1 (.tup [V.int (10 ^ Int.toNat 20 - 1), V.int 1]) q1 = some (.tup [V.int (10 ^ Int.toNat 20 - 1), V.int 1]) := upd_same
    generalize upd H1 q1 (.tup [V.int (10 ^ Int.toNat 20 - 1), V.int 1]) = G1 at *
    have f2 := same_upd (o := .lst [V.ref q1]) h2
    have e2 : upd G1 q2 (.lst [V.ref q1]) q2 = some (.lst [V.ref q1]) := upd_same
    generalize upd G1 q2 (.lst [V.ref q1]) = G2 at *
    refine ⟨q2, 12, [V.ref q1], rfl, rfl, e2, by decide, by decide, (show 1 * 12 ≤ sizeLine by decide), fun q3 h3 => ?_⟩
    rw [show (List.replicate (12 : Int).toNat [V.ref q1]).flatten = List.replicate 12 (V.ref q1) from rfl] at *
    have f3 := same_upd (o := .lst (List.replicate 12 (V.ref q1))) h3
    have e3 : upd G2 q3 (.lst (List.replicate 12 (V.ref q1))) q3 = some (.lst (List.replicate 12 (V.ref q1))) := upd_same
    generalize upd G2 q3 (.lst (List.replicate 12 (V.ref q1))) = G3 at *
    refine ⟨q3, _, rfl, .inl ⟨sqL_of e3, fun q4 h4 => ?_⟩⟩
    have f4 := same_upd (o := .tup (List.replicate 12 (V.ref q1))) h4
    have e4 : upd G3 q4 (.tup (List.replicate 12 (V.ref q1))) q4 = some (.tup (List.replicate 12 (V.ref q1))) := upd_same
    generalize upd G3 q4 (.tup (List.replicate 12 (V.ref q1))) = G4 at *
    refine ⟨by decide, fun q5 h5 => ?_⟩
    have f5 := same_upd (o := .lst [V.ref q4]) h5
    have e5 : upd G4 q5 (.lst [V.ref q4]) q5 = some (.lst [V.ref q4]) := upd_same
    generalize upd G4 q5 (.lst [V.ref q4]) = G5 at *
    refine ⟨q5, 12, [V.ref q4], rfl, rfl, e5, by decide, by decide, (show 1 * 12 ≤ sizeLine by decide), fun q6 h6 => ?_⟩
    rw [show (List.replicate (12 : Int).toNat [V.ref q4]).flatten = List.replicate 12 (V.ref q4) from rfl] at *
    have f6 := same_upd (o := .lst (List.replicate 12 (V.ref q4))) h6
    have e6 : upd G5 q6 (.lst (List.replicate 12 (V.ref q4))) q6 = some (.lst (List.replicate 12 (V.ref q4))) := upd_same
    generalize upd G5 q6 (.lst (List.replicate 12 (V.ref q4))) = G6 at *
    refine ⟨q6, _, rfl, .inl ⟨sqL_of e6, fun q7 h7 => ?_⟩⟩
    have f7 := same_upd (o := .tup (List.replicate 12 (V.ref q4))) h7
    have e7 : upd G6 q7 (.tup (List.replicate 12 (V.ref q4))) q7 = some (.tup (List.replicate 12 (V.ref q4))) := upd_same
    generalize upd G6 q7 (.tup (List.replicate 12 (V.ref q4))) = G7 at *
    have fA : Same H1 G7 := by walk_at "ss"
    have p1 : Pl G7 [] cD (.ref q1) := (plT0 e1 (plC (by rw [Pl]) (plC (by rw [Pl]) plN))).same ((((((f2.trans f3).trans f4).trans f5).trans f6).trans f7))
    have p4 : Pl G7 [] (.tuple (List.replicate 12 cD)) (.ref q4) := plT0 (((f5.trans f6).trans f7) _ _ e4) (plRep p1 12)
    have pG : Pl G7 [] greatD (.ref q7) := plT0 e7 (plRep p4 12)
    walk_at "z"
    refine first1 (w := lW) (hT1.ext fun b o e => fA b o e) pG (by decide +kernel) (fun H2 Q2 x2 hQ2 => met_let (fun E Q' hQ' => ?_) hQ2) fun L q H3 s => ?_
    · walk_at "z"
      have pG2 : Pl H2 [] greatD (.ref q7) := Pl.mono (KN.ext x2) _ _ pG
      exact ⟨_, _, rfl, .inr ⟨_, ⟨0, [], rfl, grd8 (by simp), pG2, great_ok⟩, rfl, 12, 12, 10 ^ Int.toNat 20 - 1, great_tab pG2, by decide, ⟨by decide, (by decide : (10 ^ Int.toNat 20 - 1 : Int).natAbs < 2 ^ 100)⟩, fun z H' s' => hQ' z H' s'⟩⟩
    refine app1 s (w := lW) (by simp) (by decide +kernel) (fun H2 Q2 x2 hQ2 => met_let (fun E Q' hQ' => ?_) hQ2) fun H3 s => ?_
    · walk_at "z"
      exact ⟨_, _, .int 9973, .int 12, rfl, [], by rw [Pl], by rw [Pl], .inr (.inr ⟨9973, 12, rfl, grd8 (by simp), rfl, by decide, by decide, fun z H' s' => hQ' z H' s'⟩)⟩
    refine app1 s (w := lW) (by simp) (by decide +kernel) (fun H2 Q2 x2 hQ2 => met_let (fun E Q' hQ' => ?_) hQ2) fun H3 s => ?_
    · walk_at "z"
      refine ⟨by decide, fun a1 b1 => ?_⟩
      have k1 := same_upd (o := .tup [V.int 1]) b1
      have j1 : upd H2 a1 (.tup [V.int 1]) a1 = some (.tup [V.int 1]) := upd_same
      generalize upd H2 a1 (.tup [V.int 1]) = J1 at *
      refine ⟨a1, 12, [V.int 1], rfl, rfl, sqT_of j1, by simp, by decide, by decide, by simp, fun a2 b2 => ?_⟩
      rw [show (List.replicate (12 : Int).toNat [V.int 1]).flatten = List.replicate 12 (V.int 1) from rfl] at *
      have k2 := same_upd (o := .tup (List.replicate 12 (V.int 1))) b2
      have j2 : upd J1 a2 (.tup (List.replicate 12 (V.int 1))) a2 = some (.tup (List.replicate 12 (V.int 1))) := upd_same
      generalize upd J1 a2 (.tup (List.replicate 12 (V.int 1))) = J2 at *
      refine ⟨by decide, fun a3 b3 => ?_⟩
      have k3 := same_upd (o := .tup [V.ref a2]) b3
      have j3 : upd J2 a3 (.tup [V.ref a2]) a3 = some (.tup [V.ref a2]) := upd_same
      generalize upd J2 a3 (.tup [V.ref a2]) = J3 at *
      refine ⟨a3, 12, [V.ref a2], rfl, rfl, sqT_of j3, by simp, by decide, by decide, by simp, fun a4 b4 => ?_⟩
      rw [show (List.replicate (12 : Int).toNat [V.ref a2]).flatten = List.replicate 12 (V.ref a2) from rfl] at *
      have k4 := same_upd (o := .tup (List.replicate 12 (V.ref a2))) b4
      have j4 : upd J3 a4 (.tup (List.replicate 12 (V.ref a2))) a4 = some (.tup (List.replicate 12 (V.ref a2))) := upd_same
      generalize upd J3 a4 (.tup (List.replicate 12 (V.ref a2))) = J4 at *
      refine ⟨by decide, fun a5 b5 => ?_⟩
      have k5 := same_upd (o := .tup [V.int 1]) b5
      have j5 : upd J4 a5 (.tup [V.int 1]) a5 = some (.tup [V.int 1]) := upd_same
      generalize upd J4 a5 (.tup [V.int 1]) = J5 at *
      refine ⟨a5, 12, [V.int 1], rfl, rfl, sqT_of j5, by simp, by decide, by decide, by simp, fun a6 b6 => ?_⟩
      rw [show (List.replicate (12 : Int).toNat [V.int 1]).flatten = List.replicate 12 (V.int 1) from rfl] at *
      have k6 := same_upd (o := .tup (List.replicate 12 (V.int 1))) b6
      have j6 : upd J5 a6 (.tup (List.replicate 12 (V.int 1))) a6 = some (.tup (List.replicate 12 (V.int 1))) := upd_same
      generalize upd J5 a6 (.tup (List.replicate 12 (V.int 1))) = J6 at *
      have k26 := ((k3.trans k4).trans k5).trans k6
      have pR : Pl J6 [] (.tuple (List.replicate 12 (.int 1))) (.ref a2) := plT0 (k26 _ _ j2) (plRep (by rw [Pl]) 12)
      have pT : Pl J6 [] (.tuple (List.replicate 12 (.tuple (List.replicate 12 (.int 1))))) (.ref a4) := plT0 ((k5.trans k6) _ _ j4) (plRep pR 12)
      have pV : Pl J6 [] (.tuple (List.replicate 12 (.int 1))) (.ref a6) := plT0 j6 (plRep (by rw [Pl]) 12)
      have n1 : NumR J6 ((2 : Nat) : Int) (.int 1) 1 1 := .inr ⟨by decide, rfl, rfl, by decide, by decide⟩
      have rR : ∀ {p : Addr}, J6 p = some (.tup (List.replicate 12 (V.int 1))) → RowN J6 ((2 : Nat) : Int) (.ref p) (List.replicate 12 (1, 1)) := fun {p} h => ⟨p, _, rfl, h, rep_all2 (R := fun v (q : Int × Int) => NumR J6 ((2 : Nat) : Int) v q.1 q.2) (x := V.int 1) (q := (1, 1)) n1 12⟩
      have tT : TabN J6 ((2 : Nat) : Int) (.ref a4) (List.replicate 12 (List.replicate 12 (1, 1))) := ⟨a4, _, rfl, (k5.trans k6) _ _ j4, rep_all2 (rR (k26 _ _ j2)) 12⟩
      exact ⟨_, _, _, rfl, .inr ⟨_, ⟨2, [], rfl, grd8 (by simp), pT, by decide +kernel⟩, .inr ⟨2, 12, 12, _, _, _, [], rfl, grd8 (by simp), by decide, tT, rR j6, pV, by decide +kernel, ⟨rfl, rfl, rfl, fun qs h => by rw [(List.mem_replicate.mp h).2]; rfl, by decide, by decide, by decide, by decide⟩, fun z H' s' => hQ' z H' (((((((k1.trans k2).trans k3).trans k4).trans k5).trans k6)).trans s')⟩⟩⟩
    walk_at "z"
    refine ⟨by decide, fun q8 h8 => ⟨by decide, fun q9 h9 => ?_⟩⟩
    have k8 := same_upd (o := .tup [V.str "let", V.str ""]) h8
    have j8 : upd H3 q8 (.tup [V.str "let", V.str ""]) q8 = some (.tup [V.str "let", V.str ""]) := upd_same
    generalize upd H3 q8 (.tup [V.str "let", V.str ""]) = G8 at *
    have f9 := same_upd (o := .lst [V.ref q8]) h9
    have e9 : upd G8 q9 (.lst [V.ref q8]) q9 = some (.lst [V.ref q8]) := upd_same
    generalize upd G8 q9 (.lst [V.ref q8]) = G9 at *
    refine ⟨q9, 3, [V.ref q8], rfl, rfl, e9, by decide, by decide, (show 1 * 3 ≤ sizeLine by decide), fun q10 h10 => ?_⟩
    rw [show (List.replicate (3 : Int).toNat [V.ref q8]).flatten = [V.ref q8, V.ref q8, V.ref q8] from rfl] at *
    have f10 := same_upd (o := .lst [V.ref q8, V.ref q8, V.ref q8]) h10
    have e10 : upd G9 q10 (.lst [V.ref q8, V.ref q8, V.ref q8]) q10 = some (.lst [V.ref q8, V.ref q8, V.ref q8]) := upd_same
    generalize upd G9 q10 (.lst [V.ref q8, V.ref q8, V.ref q8]) = G10 at *
    have s10 := (k8.trans f9).trans f10
    have o8 := ts_one ((f9.trans f10) _ _ j8) (w := lW) (by decide +kernel)
    refine eq_told (s.t.same s10) ⟨_, e10, (o8.app o8).app o8⟩ ⟨true, rfl, ?_⟩
    rw [if_pos rfl]
    have pF := s.p.same s10
    walk_at "z"
    refine ⟨_, _, .int 0, greatD, _, rfl, by rw [Pl], pF, fun a => absurd (grd8 (by simp)) a, fun g' eg _ H5 s5 => ?_⟩
    obtain rfl : (0 : Int) = g' := by injection eg
    rw [great_ok]
    refine ⟨_, rfl, ?_⟩
    rw [if_pos rfl]
    refine ⟨cpow (by decide), by decide, fun a1 b1 => ?_⟩
    have k1 := same_upd (o := .tup [V.int (10 ^ Int.toNat 20), V.int 1]) b1
    have j1 : upd H5 a1 (.tup [V.int (10 ^ Int.toNat 20), V.int 1]) a1 = some (.tup [V.int (10 ^ Int.toNat 20), V.int 1]) := upd_same
    generalize upd H5 a1 (.tup [V.int (10 ^ Int.toNat 20), V.int 1]) = J1 at *
    refine ⟨by decide, fun a2 b2 => ?_⟩
    have k2 := same_upd (o := .tup [V.ref a1]) b2
    have j2 : upd J1 a2 (.tup [V.ref a1]) a2 = some (.tup [V.ref a1]) := upd_same
    generalize upd J1 a2 (.tup [V.ref a1]) = J2 at *
    refine ⟨by decide, fun a3 b3 => ?_⟩
    have k3 := same_upd (o := .tup [V.ref a2]) b3
    have j3 : upd J2 a3 (.tup [V.ref a2]) a3 = some (.tup [V.ref a2]) := upd_same
    generalize upd J2 a3 (.tup [V.ref a2]) = J3 at *
    have p3 : Pl J3 [] (.tuple [.tuple [.tuple [.int (10 ^ Int.toNat 20), .int 1]]]) (.ref a3) := plT0 j3 (plC (plT0 (k3 _ _ j2) (plC (plT0 ((k2.trans k3) _ _ j1) (plC (by rw [Pl]) (plC (by rw [Pl]) plN))) plN)) plN)
    refine ⟨_, _, .int 0, _, _, rfl, by rw [Pl], p3, fun a => absurd (grd8 (by simp)) a, fun g' eg _ H6 s6 => ?_⟩
    obtain rfl : (0 : Int) = g' := by injection eg
    rw [far_ok]
    exact ⟨_, rfl, hq _⟩
  unfold t_law
  walk_at "z"
  refine lenL hS ?_
  walk_at "z"
  have hb : ∃ n : Nat, (if (if ((ns.map V.int).length : Int) < 3 then ((ns.map V.int).length : Int) else 3) > 1 then (if ((ns.map V.int).length : Int) < 3 then ((ns.map V.int).length : Int) else 3) else 1) = (n : Int) ∧ n ≤ 3 := by
    rw [List.length_map]
    refine ⟨(if (if (ns.length : Int) < 3 then (ns.length : Int) else 3) > 1 then (if (ns.length : Int) < 3 then (ns.length : Int) else 3) else 1).toNat, ?_, ?_⟩
    · split <;> split <;> omega
    · split <;> split <;> omega
  obtain ⟨n, hn, hn3⟩ := hb
  rw [hn]
  refine ⟨_, rfl, by omega, by omega, for_R (fun i σ H' => ∃ o1 o2, σ = [some (.ref a), o1, o2, none, none] ∧ SqL K H' a (ns.map V.int) ∧ LamX.Tabs (Ts K) H') ⟨_, _, rfl, hS, hT⟩ (fun i σ H' hi h N hN => ?_) (fun σ H' h => ?_)⟩
  · obtain ⟨o1, o2, rfl, hS1, hT1⟩ := h
    unfold t_law_f1_b
    walk_at "z"
    refine ⟨a, ns, i, by rw [Int.zero_add], hS1, fun D H2 hD s2 d2 => ?_⟩
    walk_at "z"
    refine ⟨D, rfl, d2, hT1.ext fun b o e => s2 b o e, fun H4 k4 d4 t4 => ?_⟩
    walk_at "z"
    refine ⟨D, rfl, d4, t4, fun H5 k5 d5 t5 => ?_⟩
    walk_at "z"
    exact hN _ _ ⟨_, _, rfl, sqL_kn hS1 hD ((KN.same s2).trans (k4.trans k5)), t5⟩
  · obtain ⟨o1, o2, rfl, hS1, hT1⟩ := h
    exact tail _ _ _ hT1

theorem okF_law {P : Program} {w : World} {K : PySem.W.Frag} {mg : Str → Option Value} {base : Heap} {fd : FuncData} (T : Tx K mg) (F : FunD K "law" "law" (defArgs s_law) (defBody s_law) (defScope s_law) [] [] (He.ga K "law") fd) (TB : ∀ p ∈ tfs, LamX.TabB base mg (He.cT K p).1 (He.cT K p).2) : FnOkG P w K mg base CX0 13 (He.ga K "law") fd ["script"] (sp_law K) := by
  obtain ⟨fd_is_table, F_is_table, b_is_table, g_is_table, k_is_table⟩ := ok_is_table (P := P) (w := w) (base := base) T
  obtain ⟨fd_unit_table, F_unit_table, b_unit_table, g_unit_table, k_unit_table⟩ := ok_unit_table (P := P) (w := w) (base := base) T
  obtain ⟨fd_solve_answer, F_solve_answer, b_solve_answer, g_solve_answer, k_solve_answer⟩ := ok_solve_answer (P := P) (w := w) (base := base) T
  obtain ⟨fd_rank_answer, F_rank_answer, b_rank_answer, g_rank_answer, k_rank_answer⟩ := ok_rank_answer (P := P) (w := w) (base := base) T
  obtain ⟨fd__law_dice, F__law_dice, b__law_dice, g__law_dice, k__law_dice⟩ := ok__law_dice (P := P) (w := w) (base := base) T
  obtain ⟨fd__law_right, F__law_right, b__law_right, g__law_right, k__law_right⟩ := ok__law_right (P := P) (w := w) (base := base) T TB
  obtain ⟨_, hc_MAX_SIDE⟩ := T.c_MAX_SIDE
  have hf_len := T.n_len
  have hf_max := T.n_max
  have hf_min := T.n_min
  have hf_range := T.n_range
  have hf_tuple := T.n_tuple
  have dis := T.dis
  obtain ⟨fd__law_fault, F__law_fault⟩ := T.f__law_fault
  have gg__law_fault := T.g__law_fault
  have hb__law_fault := F__law_fault.bindsN (ps := ["call"]) (fun _ _ _ _ _ _ us hl => match us, hl with | [_], _ => rfl)
  refine okG F sc_law (fun vs H Q E h => len_law h) (fun c A outer s H vs Q E hc hgd hr h => ⟨t_law K, PSs.nox ?_, pure_law K vs H Q E h⟩)
  have tb := TB ("law", none) (by simp [tfs])
  have ec : (He.cT K ("law", none)).1 = c := codeOf_fd F hc
  rw [ec] at tb
  have hu80 := hu80_of hr
  have hu64 := hu64_of hr
  exact (pss_cons (ps_for PassesOwn.never rfl (pi_range1 rfl hf_range (pa_cons (pe_callB (call_max2 rfl) (by rfl) hf_max (by decide +kernel) (pa_cons pe_int (pa_cons (pe_callB (call_min2 rfl) (by rfl) hf_min (by decide +kernel) (pa_cons pe_int (pa_cons (pe_callB call_len_seq (by rfl) hf_len (by decide +kernel) (pa_cons (pv 0) pa_nil)) pa_nil))) pa_nil))) pa_nil)) (pg_name (i := 1) sc_law.nd rfl (by first | exact Or.inl rfl | exact Or.inr rfl)) (pss_cons (ps_set (i := 2) sc_law.nd rfl (by first | exact Or.inl rfl | exact Or.inr rfl) (pe_call F__law_dice (hr.mono (by decide)) rfl g__law_dice k__law_dice b__law_dice .nil pass0 (pa_cons (pv 0) (pa_cons (pv 1) pa_nil))))
      (pss_one (ps_if (PW.pt (pw_or (pt_not (pt_val (pe_callG F__law_right hgd (hr.mono (by decide)) rfl g__law_right k__law_right b__law_right pass0 (pa_cons (pv 2) pa_nil)))) (pw_or1 (pt_not (pt_val (pe_callG F__law_right hgd (hr.mono (by decide)) rfl g__law_right k__law_right b__law_right pass0 (pa_cons (pv 2) pa_nil))))))) (pss_one (ps_ret pe_bl)) pss_nil))))
      (pss_cons (ps_set (i := 3) sc_law.nd rfl (by first | exact Or.inl rfl | exact Or.inr rfl) (pe_callTy call_tuple_of (by rfl) hf_tuple (by decide +kernel) (pa_cons (pe_op op_rep (pe_lst (pa_cons (pe_callTy call_tuple_of (by rfl) hf_tuple (by decide +kernel) (pa_cons (pe_op op_rep (pe_lst (pa_cons (pe_tup (pa_cons (pe_op op_sub (pe_op op_pow pe_int pe_int) pe_int) (pa_cons pe_int pa_nil))) pa_nil)) pe_int) pa_nil)) pa_nil)) pe_int) pa_nil)))
      (pss_cons (ps_set (i := 4) sc_law.nd rfl (by first | exact Or.inl rfl | exact Or.inr rfl) (pe_lst (pa_cons (pe_met (k := 8) F__law_fault gg__law_fault hb__law_fault sc__law_fault rfl (.inl rfl) (hr.mono (by decide)) (fun cdv hr2 => met_gives T hgd hr2) rfl tb rfl (.tail _ (.head _)) (hu_law dis) (LamX.lamS_by (sc := defScope s_law) (by decide +kernel)) rfl (fun _ _ _ _ _ => rfl) (fun _ _ _ _ E _ _ hr => (pe_call F_rank_answer (hr.mono (by decide)) rfl g_rank_answer k_rank_answer b_rank_answer .nil (passes_call (takes_of rfl rfl rfl rfl) (fun _ _ _ _ h => h)) (pa_cons pe_int (pa_cons (pv 3) pa_nil))))) pa_nil)))
      (pss_cons (ps_expr (pe_bm PySem.F.plainAttrs_list PySem.F.slot_list_append PySem.F.type_list_append mt_append (pv 4) (pa_cons (pe_met (k := 8) F__law_fault gg__law_fault hb__law_fault sc__law_fault rfl (.inl rfl) (hr.mono (by decide)) (fun cdv hr2 => met_gives T hgd hr2) rfl tb rfl (.tail _ (.head _)) (hu_law dis) (LamX.lamS_by (sc := defScope s_law) (by decide +kernel)) rfl (fun _ _ _ _ _ => rfl) (fun _ _ _ _ E _ _ hr => (pe_call F_unit_table (hr.mono (by decide)) rfl g_unit_table k_unit_table b_unit_table .nil (passes_call (takes_of rfl rfl rfl rfl) (fun _ _ _ _ h => h)) (pa_cons pe_int (pa_cons pe_int pa_nil))))) pa_nil)))
      (pss_cons (ps_expr (pe_bm PySem.F.plainAttrs_list PySem.F.slot_list_append PySem.F.type_list_append mt_append (pv 4) (pa_cons (pe_met (k := 8) F__law_fault gg__law_fault hb__law_fault sc__law_fault rfl (.inl rfl) (hr.mono (by decide)) (fun cdv hr2 => met_gives T hgd hr2) rfl tb rfl (.tail _ (.head _)) (hu_law dis) (LamX.lamS_by (sc := defScope s_law) (by decide +kernel)) rfl (fun _ _ _ _ _ => rfl) (fun _ _ _ _ E _ _ hr => (pe_call F_solve_answer (hr.mono (by decide)) rfl g_solve_answer k_solve_answer b_solve_answer .nil (passes_call (takes_of rfl rfl rfl rfl) (fun _ _ _ _ h => h)) (pa_cons pe_int (pa_cons (pe_op op_repT (pe_tup (pa_cons (pe_op op_repT (pe_tup (pa_cons pe_int pa_nil)) pe_int) pa_nil)) pe_int) (pa_cons (pe_op op_repT (pe_tup (pa_cons pe_int pa_nil)) pe_int) pa_nil)))))) pa_nil)))
      (pss_one (ps_ret (pe_and (pe_cmpR (op_eqD hu64) (pv 4) (pe_op op_rep (pe_lst (pa_cons (pe_tup (pa_cons pe_str (pa_cons pe_str pa_nil))) pa_nil)) pe_int) (nomark _)) (pe_and (pe_cmpR op_eq (pe_glob rfl hc_MAX_SIDE ⟨_, rfl⟩) pe_int (nomark _)) (pe_and (pe_call F_is_table (hr.mono (by decide)) rfl g_is_table k_is_table b_is_table .nil passE0 (pa_cons pe_int (pa_cons (pv 3) pa_nil))) (pe_one (pe_not (pe_call F_is_table (hr.mono (by decide)) rfl g_is_table k_is_table b_is_table .nil passE0 (pa_cons pe_int (pa_cons (pe_tup (pa_cons (pe_tup (pa_cons (pe_tup (pa_cons (pe_op op_pow pe_int pe_int) (pa_cons pe_int pa_nil))) pa_nil)) pa_nil)) pa_nil)))))))))))))))
theorem tx_of {K : PySem.W.Frag} {h : Heap} {mg : Str → Option Value} {w : World} (X : K.In h) (G : h.Ns mainGlobals mg) (S : He.SaysX fal fnl [] tfs exX w h K) : Tx K mg := by
  have c := S.t.d
  have e := S.more
  unfold exX at e
  simp only [Bool.and_eq_true, decide_eq_true_eq] at e
  obtain ⟨⟨⟨⟨x0, x1⟩, x2⟩, x3⟩, x4⟩ := e
  exact {
    f_is_int := c.def_ 0 (d := d_is_int) rfl
    g_is_int := He.glo_ok X G (c.fact 0 (f := .glo "is_int") rfl)
    f_has_no_parts := c.def_ 1 (d := d_has_no_parts) rfl
    g_has_no_parts := He.glo_ok X G (c.fact 1 (f := .glo "has_no_parts") rfl)
    f_bezout := c.def_ 2 (d := d_bezout) rfl
    g_bezout := He.glo_ok X G (c.fact 2 (f := .glo "bezout") rfl)
    f_common_multiple := c.def_ 3 (d := d_common_multiple) rfl
    g_common_multiple := He.glo_ok X G (c.fact 3 (f := .glo "common_multiple") rfl)
    f_top_of := c.def_ 4 (d := d_top_of) rfl
    g_top_of := He.glo_ok X G (c.fact 4 (f := .glo "top_of") rfl)
    f_bottom_of := c.def_ 5 (d := d_bottom_of) rfl
    g_bottom_of := He.glo_ok X G (c.fact 5 (f := .glo "bottom_of") rfl)
    f_number_of := c.def_ 6 (d := d_number_of) rfl
    g_number_of := He.glo_ok X G (c.fact 6 (f := .glo "number_of") rfl)
    f_integer_dot := c.def_ 7 (d := d_integer_dot) rfl
    g_integer_dot := He.glo_ok X G (c.fact 7 (f := .glo "integer_dot") rfl)
    f_length_fits := c.def_ 8 (d := d_length_fits) rfl
    g_length_fits := He.glo_ok X G (c.fact 8 (f := .glo "length_fits") rfl)
    f_turned := c.def_ 9 (d := d_turned) rfl
    g_turned := He.glo_ok X G (c.fact 9 (f := .glo "turned") rfl)
    f_beside := c.def_ 10 (d := d_beside) rfl
    g_beside := He.glo_ok X G (c.fact 10 (f := .glo "beside") rfl)
    f_find_lead := c.def_ 11 (d := d_find_lead) rfl
    g_find_lead := He.glo_ok X G (c.fact 11 (f := .glo "find_lead") rfl)
    f_is_below := c.def_ 12 (d := d_is_below) rfl
    g_is_below := He.glo_ok X G (c.fact 12 (f := .glo "is_below") rfl)
    f_is_between := c.def_ 13 (d := d_is_between) rfl
    g_is_between := He.glo_ok X G (c.fact 13 (f := .glo "is_between") rfl)
    f_undone_modulo := c.def_ 14 (d := d_undone_modulo) rfl
    g_undone_modulo := He.glo_ok X G (c.fact 14 (f := .glo "undone_modulo") rfl)
    f_whole_row := c.def_ 15 (d := d_whole_row) rfl
    g_whole_row := He.glo_ok X G (c.fact 15 (f := .glo "whole_row") rfl)
    f_check_between := c.def_ 16 (d := d_check_between) rfl
    g_check_between := He.glo_ok X G (c.fact 16 (f := .glo "check_between") rfl)
    f_rows_fit := c.def_ 17 (d := d_rows_fit) rfl
    g_rows_fit := He.glo_ok X G (c.fact 17 (f := .glo "rows_fit") rfl)
    f_unit_rows := c.def_ 18 (d := d_unit_rows) rfl
    g_unit_rows := He.glo_ok X G (c.fact 18 (f := .glo "unit_rows") rfl)
    f_prime_fits := c.def_ 19 (d := d_prime_fits) rfl
    g_prime_fits := He.glo_ok X G (c.fact 19 (f := .glo "prime_fits") rfl)
    f_number_fits := c.def_ 20 (d := d_number_fits) rfl
    g_number_fits := He.glo_ok X G (c.fact 20 (f := .glo "number_fits") rfl)
    f_quotient := c.def_ 21 (d := d_quotient) rfl
    g_quotient := He.glo_ok X G (c.fact 21 (f := .glo "quotient") rfl)
    f_lowered := c.def_ 22 (d := d_lowered) rfl
    g_lowered := He.glo_ok X G (c.fact 22 (f := .glo "lowered") rfl)
    f_ground_fits := c.def_ 23 (d := d_ground_fits) rfl
    g_ground_fits := He.glo_ok X G (c.fact 23 (f := .glo "ground_fits") rfl)
    f_vector_fits := c.def_ 24 (d := d_vector_fits) rfl
    g_vector_fits := He.glo_ok X G (c.fact 24 (f := .glo "vector_fits") rfl)
    f_product_rows := c.def_ 25 (d := d_product_rows) rfl
    g_product_rows := He.glo_ok X G (c.fact 25 (f := .glo "product_rows") rfl)
    f_cleared := c.def_ 26 (d := d_cleared) rfl
    g_cleared := He.glo_ok X G (c.fact 26 (f := .glo "cleared") rfl)
    f_numbers_over := c.def_ 27 (d := d_numbers_over) rfl
    g_numbers_over := He.glo_ok X G (c.fact 27 (f := .glo "numbers_over") rfl)
    f_solution := c.def_ 28 (d := d_solution) rfl
    g_solution := He.glo_ok X G (c.fact 28 (f := .glo "solution") rfl)
    f_check_ground := c.def_ 29 (d := d_check_ground) rfl
    g_check_ground := He.glo_ok X G (c.fact 29 (f := .glo "check_ground") rfl)
    f_table_fits := c.def_ 30 (d := d_table_fits) rfl
    g_table_fits := He.glo_ok X G (c.fact 30 (f := .glo "table_fits") rfl)
    f_cleared_table := c.def_ 31 (d := d_cleared_table) rfl
    g_cleared_table := He.glo_ok X G (c.fact 31 (f := .glo "cleared_table") rfl)
    f_undone_rows := c.def_ 32 (d := d_undone_rows) rfl
    g_undone_rows := He.glo_ok X G (c.fact 32 (f := .glo "undone_rows") rfl)
    f_kernel_rows := c.def_ 33 (d := d_kernel_rows) rfl
    g_kernel_rows := He.glo_ok X G (c.fact 33 (f := .glo "kernel_rows") rfl)
    f_is_table := c.def_ 34 (d := d_is_table) rfl
    g_is_table := He.glo_ok X G (c.fact 34 (f := .glo "is_table") rfl)
    f_unit_table := c.def_ 35 (d := d_unit_table) rfl
    g_unit_table := He.glo_ok X G (c.fact 35 (f := .glo "unit_table") rfl)
    f_rank_paper := c.def_ 36 (d := d_rank_paper) rfl
    g_rank_paper := He.glo_ok X G (c.fact 36 (f := .glo "rank_paper") rfl)
    f_check_table := c.def_ 37 (d := d_check_table) rfl
    g_check_table := He.glo_ok X G (c.fact 37 (f := .glo "check_table") rfl)
    f_table_product := c.def_ 38 (d := d_table_product) rfl
    g_table_product := He.glo_ok X G (c.fact 38 (f := .glo "table_product") rfl)
    f_reduced_rows := c.def_ 39 (d := d_reduced_rows) rfl
    g_reduced_rows := He.glo_ok X G (c.fact 39 (f := .glo "reduced_rows") rfl)
    f_leads := c.def_ 40 (d := d_leads) rfl
    g_leads := He.glo_ok X G (c.fact 40 (f := .glo "leads") rfl)
    f_kernel := c.def_ 41 (d := d_kernel) rfl
    g_kernel := He.glo_ok X G (c.fact 41 (f := .glo "kernel") rfl)
    f_check_square := c.def_ 42 (d := d_check_square) rfl
    g_check_square := He.glo_ok X G (c.fact 42 (f := .glo "check_square") rfl)
    f_solve_answer := c.def_ 43 (d := d_solve_answer) rfl
    g_solve_answer := He.glo_ok X G (c.fact 43 (f := .glo "solve_answer") rfl)
    f_rank_answer := c.def_ 44 (d := d_rank_answer) rfl
    g_rank_answer := He.glo_ok X G (c.fact 44 (f := .glo "rank_answer") rfl)
    f_rank := c.def_ 45 (d := d_rank) rfl
    g_rank := He.glo_ok X G (c.fact 45 (f := .glo "rank") rfl)
    f_determinant := c.def_ 46 (d := d_determinant) rfl
    g_determinant := He.glo_ok X G (c.fact 46 (f := .glo "determinant") rfl)
    f_undoing := c.def_ 47 (d := d_undoing) rfl
    g_undoing := He.glo_ok X G (c.fact 47 (f := .glo "undoing") rfl)
    f__law_dice := c.def_ 48 (d := d__law_dice) rfl
    g__law_dice := He.glo_ok X G (c.fact 48 (f := .glo "_law_dice") rfl)
    f__law_roll := c.def_ 49 (d := d__law_roll) rfl
    g__law_roll := He.glo_ok X G (c.fact 49 (f := .glo "_law_roll") rfl)
    f__law_unit := c.def_ 50 (d := d__law_unit) rfl
    g__law_unit := He.glo_ok X G (c.fact 50 (f := .glo "_law_unit") rfl)
    f__law_pick := c.def_ 51 (d := d__law_pick) rfl
    g__law_pick := He.glo_ok X G (c.fact 51 (f := .glo "_law_pick") rfl)
    f__law_eq_ground := c.def_ 52 (d := d__law_eq_ground) rfl
    g__law_eq_ground := He.glo_ok X G (c.fact 52 (f := .glo "_law_eq_ground") rfl)
    f__law_bad_table := c.def_ 53 (d := d__law_bad_table) rfl
    g__law_bad_table := He.glo_ok X G (c.fact 53 (f := .glo "_law_bad_table") rfl)
    f__law_right := c.def_ 54 (d := d__law_right) rfl
    g__law_right := He.glo_ok X G (c.fact 54 (f := .glo "_law_right") rfl)
    f_law := c.def_ 55 (d := d_law) rfl
    g_law := He.glo_ok X G (c.fact 55 (f := .glo "law") rfl)
    f__law_fault := c.def_ 56 (d := d__law_fault) rfl
    g__law_fault := He.glo_ok X G (c.fact 56 (f := .glo "_law_fault") rfl)
    c_LAST_GROUND := He.int_ok X G (c.fact 62 (f := .int "LAST_GROUND" 9999) rfl)
    c_MAX_SIDE := He.int_ok X G (c.fact 63 (f := .int "MAX_SIDE" 12) rfl)
    c_TWENTY_DIGITS := He.int_ok X G (c.fact 64 (f := .int "TWENTY_DIGITS" 100000000000000000000) rfl)
    n_abs := He.free_ok X G (c.fact 65 (f := .free "abs") rfl)
    n_all := He.free_ok X G (c.fact 66 (f := .free "all") rfl)
    n_bool := He.free_ok X G (c.fact 67 (f := .free "bool") rfl)
    n_enumerate := He.free_ok X G (c.fact 68 (f := .free "enumerate") rfl)
    n_int := He.free_ok X G (c.fact 69 (f := .free "int") rfl)
    n_isinstance := He.free_ok X G (c.fact 70 (f := .free "isinstance") rfl)
    n_len := He.free_ok X G (c.fact 71 (f := .free "len") rfl)
    n_list := He.free_ok X G (c.fact 72 (f := .free "list") rfl)
    n_max := He.free_ok X G (c.fact 73 (f := .free "max") rfl)
    n_min := He.free_ok X G (c.fact 74 (f := .free "min") rfl)
    n_range := He.free_ok X G (c.fact 75 (f := .free "range") rfl)
    n_repr := He.free_ok X G (c.fact 76 (f := .free "repr") rfl)
    n_sum := He.free_ok X G (c.fact 77 (f := .free "sum") rfl)
    n_tuple := He.free_ok X G (c.fact 78 (f := .free "tuple") rfl)
    n_zip := He.free_ok X G (c.fact 79 (f := .free "zip") rfl)
    b_gcd := bul_ok X G x0 0
    x_InvalidGround := exi_ok (He.glo_ok X G (c.fact 57 (f := .glo "InvalidGround") rfl)) x1 (c.def_ 57 (d := d_InvalidGround_init) rfl) rfl rfl rfl
    x_InvalidNumber := exi_ok (He.glo_ok X G (c.fact 58 (f := .glo "InvalidNumber") rfl)) x2 (c.def_ 58 (d := d_InvalidNumber_init) rfl) rfl rfl rfl
    e_InvalidTable := ⟨(He.glo_ok X G (c.fact 59 (f := .glo "InvalidTable") rfl)), He.exc_ok (c.fact 80 (f := .exc "InvalidTable") rfl)⟩
    e_InvalidOperation := ⟨(He.glo_ok X G (c.fact 60 (f := .glo "InvalidOperation") rfl)), He.exc_ok (c.fact 81 (f := .exc "InvalidOperation") rfl)⟩
    x_Refused := exi_ok (He.glo_ok X G (c.fact 61 (f := .glo "Refused") rfl)) x3 (c.def_ 59 (d := d_Refused_init) rfl) rfl rfl rfl
    m_InvalidGround_InvalidGround := He.exm_ok (c.fact 82 (f := .exm "InvalidGround" "InvalidGround" true) rfl)
    m_InvalidGround_InvalidNumber := He.exm_ok (c.fact 83 (f := .exm "InvalidGround" "InvalidNumber" false) rfl)
    m_InvalidGround_InvalidTable := He.exm_ok (c.fact 84 (f := .exm "InvalidGround" "InvalidTable" false) rfl)
    m_InvalidGround_InvalidOperation := He.exm_ok (c.fact 85 (f := .exm "InvalidGround" "InvalidOperation" false) rfl)
    m_InvalidGround_Refused := He.exm_ok (c.fact 86 (f := .exm "InvalidGround" "Refused" false) rfl)
    m_InvalidNumber_InvalidGround := He.exm_ok (c.fact 87 (f := .exm "InvalidNumber" "InvalidGround" false) rfl)
    m_InvalidNumber_InvalidNumber := He.exm_ok (c.fact 88 (f := .exm "InvalidNumber" "InvalidNumber" true) rfl)
    m_InvalidNumber_InvalidTable := He.exm_ok (c.fact 89 (f := .exm "InvalidNumber" "InvalidTable" false) rfl)
    m_InvalidNumber_InvalidOperation := He.exm_ok (c.fact 90 (f := .exm "InvalidNumber" "InvalidOperation" false) rfl)
    m_InvalidNumber_Refused := He.exm_ok (c.fact 91 (f := .exm "InvalidNumber" "Refused" false) rfl)
    m_InvalidTable_InvalidGround := He.exm_ok (c.fact 92 (f := .exm "InvalidTable" "InvalidGround" false) rfl)
    m_InvalidTable_InvalidNumber := He.exm_ok (c.fact 93 (f := .exm "InvalidTable" "InvalidNumber" false) rfl)
    m_InvalidTable_InvalidTable := He.exm_ok (c.fact 94 (f := .exm "InvalidTable" "InvalidTable" true) rfl)
    m_InvalidTable_InvalidOperation := He.exm_ok (c.fact 95 (f := .exm "InvalidTable" "InvalidOperation" false) rfl)
    m_InvalidTable_Refused := He.exm_ok (c.fact 96 (f := .exm "InvalidTable" "Refused" false) rfl)
    m_InvalidOperation_InvalidGround := He.exm_ok (c.fact 97 (f := .exm "InvalidOperation" "InvalidGround" false) rfl)
    m_InvalidOperation_InvalidNumber := He.exm_ok (c.fact 98 (f := .exm "InvalidOperation" "InvalidNumber" false) rfl)
    m_InvalidOperation_InvalidTable := He.exm_ok (c.fact 99 (f := .exm "InvalidOperation" "InvalidTable" false) rfl)
    m_InvalidOperation_InvalidOperation := He.exm_ok (c.fact 100 (f := .exm "InvalidOperation" "InvalidOperation" true) rfl)
    m_InvalidOperation_Refused := He.exm_ok (c.fact 101 (f := .exm "InvalidOperation" "Refused" false) rfl)
    m_Refused_InvalidGround := He.exm_ok (c.fact 102 (f := .exm "Refused" "InvalidGround" false) rfl)
    m_Refused_InvalidNumber := He.exm_ok (c.fact 103 (f := .exm "Refused" "InvalidNumber" false) rfl)
    m_Refused_InvalidTable := He.exm_ok (c.fact 104 (f := .exm "Refused" "InvalidTable" false) rfl)
    m_Refused_InvalidOperation := He.exm_ok (c.fact 105 (f := .exm "Refused" "InvalidOperation" false) rfl)
    m_Refused_Refused := He.exm_ok (c.fact 106 (f := .exm "Refused" "Refused" true) rfl)
    dis := x4 }
theorem tabs0 {K : PySem.W.Frag} {H : Hp} (h : ∀ p ∈ tfs.map (He.cT K), H p.2 = some (.tbl #[])) : LamX.Tabs (Ts K) H := by
  intro p hp
  simp only [Ts, List.mem_cons, List.not_mem_nil, or_false] at hp
  rcases hp with rfl | rfl
  · exact LamX.TabS.nil (h _ (List.mem_map.mpr ⟨("_law_right", none), by simp [tfs], rfl⟩))
  · exact LamX.TabS.nil (h _ (List.mem_map.mpr ⟨("law", none), by simp [tfs], rfl⟩))
end L2.Z
open PySem PySem.W PySem.Calls PyProof.Rows
theorem PySem.Challenge.cw_zeroorone_k12_errors_of_tables_holds : PySem.Challenge.rw_zeroorone_k12_errors_of_tables.Holds := by
  w_on; o_law
  refine HandSHeadRun.head_imp (r := (OpenLaw.row PySem.Challenge.rw_zeroorone_k12_errors_of_tables)) (q := view (OpenLaw.row PySem.Challenge.rw_zeroorone_k12_errors_of_tables).prog [0, 73]) (H := L2.Z.hk) (ob := L2.Z.obz) (loose := L2.Z.looseL) (d := HandSHeadRun.topDef (OpenLaw.row PySem.Challenge.rw_zeroorone_k12_errors_of_tables).prog 73) (kwd := []) L2.Z.obz_eq
    L2.Z.run (by kernel_rfl) (by kernel_rfl) (by kernel_rfl) (by rfl) (by first | assumption | decide +kernel) (by decide +kernel) ⟨rfl, rfl, rfl, rfl, rfl, by decide +kernel⟩ ?hw ?hc
  case hw => w_witness2
  case hc =>
    refine L2.Z.walk_ofG (l := PySem.Challenge.rw_zeroorone_k12_errors_of_tables) (n := 63) (k := 13) (x := "script") (CX := fun _ => L2.CX0) rfl (by decide) (by kernel_rfl) ⟨rfl, by decide, by decide⟩ ?F (fun _ _ _ _ _ z => z)
    intro w mg fa h Y G hmg0
    obtain ⟨K, KX, S⟩ := Y
    have T := L2.Z.tx_of KX G S
    have hmg : mg ("law" : PySem.Str) = some (.ref fa) := by
      have e : (HandSHeadRun.topDef (OpenLaw.row PySem.Challenge.rw_zeroorone_k12_errors_of_tables).prog 73).name = ("law" : PySem.Str) := by kernel_rfl
      rw [← e]
      exact hmg0
    have e := hmg.symm.trans T.g_law
    cases e
    obtain ⟨fd, F⟩ := T.f_law
    have hb := L2.FunD.bindsA (ps := ["script"]) F fun _ _ _ _ _ _ us hl => match us, hl with | [_], _ => rfl
    refine ⟨K, KX, fd, L2.Z.tfs.map (He.cT K), L2.Z.sp_law K, fun p hp => ?_, fun p hp => ?_, fun p hp => ?_, fun s v => hb s [v] rfl, fun H a ns hl _ hT hS => ⟨a, ns, rfl, hS, hl, L2.Z.tabs0 hT, fun _ => rfl⟩, fun base _ _ TB => L2.Z.okF_law T F fun p hp => TB _ (List.mem_map_of_mem hp)⟩
    · obtain ⟨q, hq, rfl⟩ := List.mem_map.mp hp
      exact S.empty q hq
    · obtain ⟨q, hq, rfl⟩ := List.mem_map.mp hp
      exact S.out q hq
    · obtain ⟨q, hq, rfl⟩ := List.mem_map.mp hp
      exact PySem.W.codeHd_of_K KX (S.hd q hq)
