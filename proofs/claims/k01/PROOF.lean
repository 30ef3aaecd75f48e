import PyProof.Rows.All
import Wide.All
import OpenK.AllK
import Wide.FinOn
import HandS.ForMost
import HandS.Wide
import HandS.Gcd
import HandS.More
import HandS.IsInst
import HandS.Defaults
import HandS.SortInts
import HandS.Zip
import HandS.TupAny
import HandS.Conv
import HandS.Style
import HandS.RaiseMore
import HandS.Head0
import HandS.Head1
import HandS.Head2
import HandS.Head3
import HandS.HeadEnd
import HandS.HeadHook1
import HandS.HeadHook2
import HandS.Small
import KE.GoesEnum
import PySem.Challenge.RW_zeroorone_k01_whole_divisors_and_rests
set_option Elab.async false
set_option linter.all false
set_option maxRecDepth 100000
set_option maxHeartbeats 2000000
namespace L2.Z
open PySem PySem.Spec PyProof.Rows
abbrev rAdd : R2 := rI0 fun i j => .int (i + j)
abbrev rSub : R2 := rI0 fun i j => .int (i - j)
abbrev rModU : R2 := rI (fun _ j => 0 < j) fun i j => .int (i % j)
abbrev rDivU : R2 := rI CDivW fun i j => .int (i / j)
abbrev rPowU : R2 := rI CPow fun i j => .int (i ^ j.toNat)
abbrev rMulU : R2 := rI (fun i j => CMul i j ∨ CMulW i j) fun i j => .int (i * j)
abbrev rNeg : V → Hp → VK → Prop := rU fun i => .int (-i)
/-- // by any divisor but 0 below 2 ^ 9000 -/
def CDivZ (_ j : Int) : Prop := j ≠ 0 ∧ j.natAbs.log2 < 9000
abbrev rDivZ : R2 := rI CDivZ fun i j => .int (i.fdiv j)
theorem op_fdivZ {X : Cx} : OpR X (binaryOp .FloorDiv) rDivZ := opI fun i j _ _ _ _ _ hc q => floordiv_int hc.1 q (.inl (PyProof.noPylong_of_log2 hc.2))
abbrev rStrI : List V → Hp → VK → Prop := fun xs H Q => ∃ i : Int, xs = [.int i] ∧ i.natAbs.log2 < 1920 ∧ Q (.str (toString i)) H
/-- repr of plain values -/
def tTru (K : PySem.W.Frag) (te : TE) : TT := fun σ H Qt => te σ H fun x H1 => ∃ k, TruV K x H1 k ∧ Qt k H1
theorem pt_tru {X : Cx} {K : PySem.W.Frag} {a : PySem.Expr} {ta : TE} (hk : X.K = K) (h : PE X a ta) (he : ∀ whole : PySem.Sem PySem.Value, PySem.isTrue a X.env whole = do
          let v ← whole
          PySem.standAt a.pos
          PySem.holding [v] (PySem.truthy v)) : PT X a (tTru K ta) := by
  subst hk
  exact pt_truth h he
def rMinT : List V → Hp → VK → Prop := fun vs H Q => ∃ (a : Addr) (ns : List Int), vs = [.ref a] ∧ H a = some (.tup (ns.map V.int)) ∧ 0 < ns.length ∧ ∀ m, m ∈ ns → (∀ y ∈ ns, m ≤ y) → Q (.int m) H
theorem vals_ints : ∀ {ns : List Int} {its : List Value}, Vals (ns.map V.int) its → its.length = ns.length ∧ ∀ (i : Nat) (v : Value), its[i]? = some v → ∃ t, v = Value.int (ns.getD i 0) t := by
  intro ns
  induction ns with
  | nil => intro its h; cases h; exact ⟨rfl, fun i v e => by simp at e⟩
  | cons n r ih =>
    intro its h
    cases h with
    | cons h1 h2 =>
      obtain ⟨l, g⟩ := ih h2
      refine ⟨by simp [l], fun i v e => ?_⟩
      cases i with
      | zero =>
        simp only [List.getElem?_cons_zero, Option.some.injEq] at e
        subst e
        obtain ⟨t, e⟩ := h1
        exact ⟨t, by simpa using e⟩
      | succ i =>
        rw [List.getElem?_cons_succ] at e
        obtain ⟨t, e⟩ := g i v e
        exact ⟨t, by simpa using e⟩
theorem cr_minT {X : Cx} (hc : X.calm = true) : CallR X (.builtin "min") rMinT := by
  intro pins s σ H xs us Q I r h
  obtain ⟨a, ns, rfl, hT, hn, hq⟩ := h
  obtain ⟨u, rfl, r1⟩ := vals1 r
  cases (show u = Value.ref a from r1)
  obtain ⟨its, hv, hI, _⟩ := I.tuple (.inl (.inl hT))
  obtain ⟨hl, hg⟩ := vals_ints hv
  refine PySem.call_min_walk ?_
  refine PySem.wpAny_pyIter_tuple (items := its.toArray) ?_ ?_
  · exact hI
  · obtain ⟨o, ho, hcl, hdt⟩ := hI
    have hlt : a < s.heap.objs.size := by
      refine Nat.lt_of_not_le fun c => ?_
      have : s.heap.get? a = none := by
        simp [PySem.Heap.get?, c]
      rw [ho] at this
      cases this
    have hne : a ≠ s.heap.objs.size := Nat.ne_of_lt hlt
    have push_old : ∀ (b : Addr) (u x : Obj), s.heap.get? b = some u → (s.heap.push x).get? b = some u := fun b u x hb => by
      have hlb : b < s.heap.objs.size := by
        refine Nat.lt_of_not_le fun c => ?_
        have : s.heap.get? b = none := by simp [PySem.Heap.get?, c]
        rw [hb] at this
        cases this
      simp only [PySem.Heap.get?, PySem.Heap.push] at hb ⊢
      rw [Array.getElem?_push, if_neg (Nat.ne_of_lt hlb)]
      exact hb
    refine ⟨_, _, _, _, _, _, _, rfl, PySem.Walks.tuple ?_ s.heap.objs.size a hne its.toArray, ⟨⟨{ cls := Value.type "tuple_iterator", data := Data.fields #[Value.ref a, Value.int 0 0] }, ?_, rfl, rfl⟩, ⟨o, push_old a o _ ho, hcl, hdt⟩⟩, ?_, ?_, PySem.CmpOf.ints_lt (fun i => ns.getD i 0) (fun i v e => hg i v (by simpa using e)), fun v h' tk hP hk => ?_⟩
    · exact (I.ok.hd hc)
    · simp [PySem.Heap.get?, PySem.Heap.push]
    · intro b hb
      have : (s.heap.push { cls := Value.type "tuple_iterator", data := Data.fields #[Value.ref a, Value.int 0 0] }).objs.size = s.heap.objs.size + 1 := by simp [PySem.Heap.push]
      show b < (s.heap.push { cls := Value.type "tuple_iterator", data := Data.fields #[Value.ref a, Value.int 0 0] }).objs.size
      rw [this]
      simp only [List.mem_cons, List.not_mem_nil, or_false] at hb
      rcases hb with rfl | rfl
      · exact Nat.lt_succ_self _
      · exact Nat.lt_succ_of_lt hlt
    · simp only [List.size_toArray]; omega
    · obtain ⟨b1, b2⟩ := PySem.argBest_lt (fun i => ns.getD i 0) (its.toArray.size - 1)
      generalize argBest (fun i j => decide (ns.getD i 0 < ns.getD j 0)) (its.toArray.size - 1) = k at *
      simp only [List.size_toArray] at b1 b2
      obtain ⟨t, rfl⟩ := hg k v (by simpa using hP)
      have hk1 : k < ns.length := by omega
      refine ⟨.int (ns.getD k 0), H, I.kept (h' := h') (t' := tk) (fun b u hb => hk b u ?_ (push_old b u _ hb)), ⟨t, rfl⟩, hq _ ?_ fun y hy => ?_⟩
      · intro c
        rw [List.mem_singleton] at c
        subst c
        simp [PySem.Heap.get?] at hb
      · rw [List.getD_eq_getElem?_getD, List.getElem?_eq_getElem hk1]
        exact List.getElem_mem hk1
      · obtain ⟨j, hj, rfl⟩ := List.getElem_of_mem hy
        have := b2 j (by omega)
        rw [List.getD_eq_getElem?_getD (i := j), List.getElem?_eq_getElem hj] at this
        exact this
def rSortedDI : List V → Hp → VK → Prop := fun xs H Q => ∃ (a : Addr) (kvs : List (Key × V)) (ks : List Int), xs = [.ref a] ∧ Rd H a (.dK kvs) ∧ kvs.map (·.1) = ks.map Sum.inl ∧ ks.length < 64 ∧ ∀ (ys : List Int) (p : Addr), ys.Perm ks → ys.Pairwise (· ≤ ·) → H p = none → Q (.ref p) (upd H p (.lst (ys.map V.int)))
theorem cr_sortedDI {X : Cx} (hc : X.calm = true) : CallR X (.builtin "sorted") rSortedDI := call_sortedDI hc
def rReprU : List V → Hp → VK → Prop := fun xs H Q => (∃ i : Int, xs = [.int i] ∧ i.natAbs.log2 < 1920 ∧ Q (.str (toString i)) H) ∨ (∃ b : Bool, xs = [.bl b] ∧ Q (.str (if b then "True" else "False")) H) ∨ (xs = [.non] ∧ Q (.str "None") H)
theorem cr_reprU {X : Cx} : CallR X (.builtin "repr") rReprU := by
  intro pins s σ H xs us Q I r h
  rcases h with h | ⟨b, e, q⟩ | ⟨e, q⟩
  · exact SkE.call_repr_int pins s σ H xs us Q I r h
  · subst e
    obtain ⟨u, e1, r1⟩ := vals1 r
    subst e1
    cases (show u = Value.bool b from r1)
    exact PySem.P.repr_of_bool ⟨.str _, H, I.tok _, ⟨_, rfl⟩, q⟩
  · subst e
    obtain ⟨u, e1, r1⟩ := vals1 r
    subst e1
    cases (show u = Value.none from r1)
    exact PySem.P.repr_of_none ⟨.str _, H, I.tok _, ⟨_, rfl⟩, q⟩
abbrev rLtI : R2 := rI0 fun i j => .bl (decide (i < j))
abbrev rLeI : R2 := rI0 fun i j => .bl (decide (i ≤ j))
abbrev rGtI : R2 := rI0 fun i j => .bl (decide (j < i))
abbrev rGeI : R2 := rI0 fun i j => .bl (decide (j ≤ i))
abbrev rLenU (K : PySem.W.Frag) : List V → Hp → VK → Prop := fun xs H Q => ∃ p ys, xs = [.ref p] ∧ (SqL K H p ys ∨ SqT K H p ys) ∧ Q (.int ys.length) H
abbrev rAbs : List V → Hp → VK → Prop := fun xs H Q => ∃ i : Int, xs = [.int i] ∧ Q (.int (if i < 0 then -i else i)) H
abbrev rMax2 : List V → Hp → VK → Prop := fun xs H Q => ∃ i j : Int, xs = [.int i, .int j] ∧ Q (.int (if j > i then j else i)) H
abbrev rMin2 : List V → Hp → VK → Prop := fun xs H Q => ∃ i j : Int, xs = [.int i, .int j] ∧ Q (.int (if j < i then j else i)) H
abbrev rInt1 : List V → Hp → VK → Prop := fun xs H Q => (∃ i, xs = [.int i] ∧ Q (.int i) H) ∨ ∃ k, xs = [.bl k] ∧ Q (.int (if k then 1 else 0)) H
abbrev rTupOf (K : PySem.W.Frag) : List V → Hp → VK → Prop := fun xs H Q => ∃ p ys, xs = [.ref p] ∧ ((SqL K H p ys ∧ ∀ l, H l = none → Q (.ref l) (upd H l (.tup ys))) ∨ (SqT K H p ys ∧ Q (.ref p) H))
abbrev rListOf (K : PySem.W.Frag) : List V → Hp → VK → Prop := fun xs H Q => ∃ p ys, xs = [.ref p] ∧ (SqL K H p ys ∨ SqT K H p ys) ∧ ∀ l, H l = none → Q (.ref l) (upd H l (.lst ys))
abbrev rIxA (K : PySem.W.Frag) : R2 := fun x y H Q => rIxL K x y H Q ∨ rIxT K x y H Q
theorem ix_lt {X : Cx} : IxR X (rIxA X.K) := ix_list.or ix_tup
theorem op_mulU {X : Cx} : OpR X (binaryOp .Mult) rMulU := opI fun _ _ _ _ _ _ _ hc q => mul_int q (hc.elim CMul.ok CMulW.ok)
theorem hu64_of {A : Around} {k : Nat} (hr : Room k A) : A.units + 64 < cLine := by have := hr.un; omega
def Okk (P : Program) (w : World) (K : PySem.W.Frag) (mg : Str → Option Value) (base : Heap) (k : Nat) (x : Str) (ps : List Str) (sp : Sp) : Prop :=
  ∃ fd, FnOk P w K mg base CX0 k (He.ga K x) fd ps sp ∧ Binds K fd ps [] ∧ mg x = some (.ref (He.ga K x)) ∧ PySem.W.keepIn K (.ref (He.ga K x)) = true
def LcW (J : It) (H1 : Hp) (g : TG) (tt : TT) (te : TE) (vs : List Nat) (σ : St) (Q : VK) : Prop := tLc (fun _ _ R => R J H1) g tt te vs σ H1 Q
def ForW (J : It) (H1 : Hp) (g : TG) (tb : TS) (D : Ends) (σ : St) : Prop := tFor (fun _ _ R => R J H1) g tb D σ H1
section
variable {σ : St} {H : Hp} {Q : VK} {v x y : V} {ta tb tc te : TE} {r r' : R2} {t u : TT} {n : Nat} {D : Ends} {s s' : TS} {g : TG} {K : PySem.W.Frag} {tl : TA} {QA : List V → Hp → Prop} {QT : Bool → Hp → Prop}
theorem z_var0 : tVar 0 (some v :: σ) H Q = Q v H := propext ⟨fun ⟨_, h, q⟩ => by cases h; exact q, fun q => ⟨_, rfl, q⟩⟩
theorem z_varS {o : Option V} : tVar (n + 1) (o :: σ) H Q = tVar n σ H Q := rfl
theorem z_C : tC v σ H Q = Q v H := rfl
theorem z_op : tOp r ta tb σ H Q = ta σ H fun x H1 => tb σ H1 fun y H2 => r x y H2 Q := rfl
theorem z_un {f : V → Hp → VK → Prop} : tUn f ta σ H Q = ta σ H fun x H1 => f x H1 Q := rfl
theorem z_I0 {f : Int → Int → V} {i j : Int} : rI0 f (.int i) (.int j) H Q = Q (f i j) H := propext ⟨fun ⟨_, _, e1, e2, q⟩ => by cases e1; cases e2; exact q, fun q => ⟨_, _, rfl, rfl, q⟩⟩
theorem z_I {C : Int → Int → Prop} {f : Int → Int → V} {i j : Int} : rI C f (.int i) (.int j) H Q = (C i j ∧ Q (f i j) H) := propext ⟨fun ⟨_, _, e1, e2, q⟩ => by cases e1; cases e2; exact q, fun q => ⟨_, _, rfl, rfl, q⟩⟩
theorem z_U {f : Int → V} {i : Int} : rU f (.int i) H Q = Q (f i) H := propext ⟨fun ⟨_, e1, q⟩ => by cases e1; exact q, fun q => ⟨_, rfl, q⟩⟩
theorem z_eqI {i j : Int} : rEq (.int i) (.int j) H Q = Q (.bl (decide (i = j))) H := by
  have e : decide (V.int i = V.int j) = decide (i = j) := by simp
  unfold rEq; rw [e]; exact propext ⟨fun h => h.2, fun h => ⟨rfl, h⟩⟩
theorem z_neI {i j : Int} : rNe (.int i) (.int j) H Q = Q (.bl (!decide (i = j))) H := by
  have e : decide (V.int i = V.int j) = decide (i = j) := by simp
  unfold rNe; rw [e]; exact propext ⟨fun h => h.2, fun h => ⟨rfl, h⟩⟩
theorem z_bl {b : Bool} {p : Bool → Prop} : (∃ k, V.bl b = V.bl k ∧ p k) = p b := propext ⟨fun ⟨_, e, q⟩ => by cases e; exact q, fun q => ⟨_, rfl, q⟩⟩
theorem z_test : tTest te σ H QT = te σ H fun x H' => ∃ k, x = .bl k ∧ QT k H' := rfl
theorem z_B : tB te σ H QT = te σ H fun x H' => ∃ k, x = .bl k ∧ QT k H' := rfl
theorem z_and : tAnd t u σ H QT = t σ H fun c H1 => if c = true then u σ H1 QT else QT false H1 := rfl
theorem z_or : tOr t u σ H QT = t σ H fun c H1 => if c = true then QT true H1 else u σ H1 QT := rfl
theorem z_not : tNot t σ H QT = t σ H fun c H1 => QT (!c) H1 := rfl
theorem z_andV : tAndV ta tb σ H Q = ta σ H fun x H1 => ∃ c, x = .bl c ∧ if c = true then tb σ H1 Q else Q (.bl false) H1 := rfl
theorem z_orV : tOrV ta tb σ H Q = ta σ H fun x H1 => ∃ c, x = .bl c ∧ if c = true then Q (.bl true) H1 else tb σ H1 Q := rfl
theorem z_notV : tNotV ta σ H Q = ta σ H fun x H1 => ∃ c, x = .bl c ∧ Q (.bl (!c)) H1 := rfl
theorem z_if : tIf t ta tb σ H Q = t σ H fun c H1 => if c = true then ta σ H1 Q else tb σ H1 Q := rfl
theorem z_ifS : tIfS t s s' D σ H = t σ H fun b H1 => if b = true then s D σ H1 else s' D σ H1 := rfl
theorem z_seq : tSeq s s' D σ H = s { D with nx := s' D } σ H := rfl
theorem z_next : tNext D σ H = D.nx σ H := rfl
theorem z_ret : tRet te D σ H = te σ H D.rt := rfl
theorem z_retN : tRetN D σ H = D.rt .non H := rfl
theorem z_asg : tAsg te g D σ H = te σ H fun x H1 => g x σ H1 D.nx := rfl
theorem z_gname {Qg : St → Hp → Prop} : gName n v σ H Qg = Qg (σ.set n (some v)) H := rfl
theorem z_drop : tDrop te D σ H = te σ H fun _ H1 => D.nx σ H1 := rfl
theorem z_nil : tNil σ H QA = QA [] H := rfl
theorem z_cons : tCons te tl σ H QA = te σ H fun x H1 => tl σ H1 fun xs H2 => QA (x :: xs) H2 := rfl
theorem z_call {sp : Sp} {E : XK} : tCall sp [] E tl σ H Q = tl σ H fun vs H1 => sp vs H1 Q E := by unfold tCall; simp only [List.append_nil]
theorem z_CB {f : List V → Hp → VK → Prop} : tCB f tl σ H Q = tl σ H fun vs H1 => f vs H1 Q := rfl
theorem z_par {i j : Nat} : tPar i j tl D σ H = tl σ H fun vs H1 => ∃ v w, vs = [v, w] ∧ D.nx ((σ.set i (some v)).set j (some w)) H1 := rfl
theorem z_pair {v w : V} {p : V → V → Prop} : (∃ a b, [v, w] = [a, b] ∧ p a b) = p v w := propext ⟨fun ⟨_, _, e, q⟩ => by cases e; exact q, fun q => ⟨_, _, rfl, q⟩⟩
theorem z_aug0 {ti : TIp} {σ' : St} {i : Nat} : tAug i te ti D σ H = ∃ x, σ[i]? = some (some x) ∧ te σ H fun y H1 => ti x y H1 fun z H2 => D.nx (σ.set i (some z)) H2 := rfl
theorem z_ipI {f : Int → Int → Int} {i j : Int} : ipI f (.int i) (.int j) H Q = Q (.int (f i j)) H := propext ⟨fun ⟨_, _, e1, e2, q⟩ => by cases e1; cases e2; exact q, fun q => ⟨_, _, rfl, rfl, q⟩⟩
theorem z_abs {i : Int} : rAbs [.int i] H Q = Q (.int (if i < 0 then -i else i)) H := propext ⟨fun ⟨_, e1, q⟩ => by cases e1; exact q, fun q => ⟨_, rfl, q⟩⟩
theorem z_max {i j : Int} : rMax2 [.int i, .int j] H Q = Q (.int (if j > i then j else i)) H := propext ⟨fun ⟨_, _, e1, q⟩ => by cases e1; exact q, fun q => ⟨_, _, rfl, q⟩⟩
theorem z_min {i j : Int} : rMin2 [.int i, .int j] H Q = Q (.int (if j < i then j else i)) H := propext ⟨fun ⟨_, _, e1, q⟩ => by cases e1; exact q, fun q => ⟨_, _, rfl, q⟩⟩
theorem z_int {i : Int} : rInt1 [.int i] H Q = Q (.int i) H := by
  apply propext
  constructor
  · intro h
    rcases h with ⟨_, e, q⟩ | ⟨_, e, _⟩
    · cases e; exact q
    · cases e
  · intro q
    exact Or.inl ⟨_, rfl, q⟩
theorem z_intB {b : Bool} : rInt1 [.bl b] H Q = Q (.int (if b then 1 else 0)) H := by
  apply propext
  constructor
  · intro h
    rcases h with ⟨_, e, _⟩ | ⟨_, e, q⟩
    · cases e
    · cases e; exact q
  · intro q
    exact Or.inr ⟨_, rfl, q⟩
theorem z_gcd {i j : Int} : rGcd [.int i, .int j] H Q = Q (.int ((Nat.gcd i.natAbs j.natAbs : Nat) : Int)) H := propext ⟨fun ⟨_, _, e, q⟩ => by cases e; exact q, fun q => ⟨_, _, rfl, q⟩⟩
theorem z_tup : tTup tl σ H Q = tl σ H fun xs H1 => xs.length ≤ sizeLine ∧ ∀ p, H1 p = none → Q (.ref p) (upd H1 p (.tup xs)) := rfl
theorem z_lst : tLst tl σ H Q = tl σ H fun xs H1 => xs.length ≤ sizeLine ∧ ∀ p, H1 p = none → Q (.ref p) (upd H1 p (.lst xs)) := rfl
theorem z_chain : tChain r r' ta tb tc σ H Q = ta σ H fun x H1 => tb σ H1 fun y H2 => r x y H2 fun z H3 => ∃ k, z = .bl k ∧ (if k = true then tc σ H3 fun w' H4 => r' y w' H4 Q else Q (.bl false) H3) := rfl
theorem z_bm {T : String} {f : V → List V → Hp → VK → Prop} {to : TE} : tBM K T f to tl σ H Q = to σ H fun x H1 => tyV K T x H1 ∧ tl σ H1 fun xs H2 => f x xs H2 Q := rfl
theorem z_bm0 {T : String} {f : V → List V → Hp → VK → Prop} {to : TE} : tBM0 K T f to σ H Q = to σ H fun x H1 => tyV K T x H1 ∧ f x [] H1 Q := rfl
theorem tyL {p : Addr} {xs : List V} (h : H p = some (.lst xs)) : tyV K "list" (.ref p) H := .inl ⟨rfl, _, .inl (.inl h)⟩
theorem z_gtup {m : Nat} {a : Addr} {gs : TGs} {Qg : St → Hp → Prop} : gTup K m gs (.ref a) σ H Qg = ∃ xs, SqT K H a xs ∧ xs.length = m ∧ gs xs σ H Qg := propext ⟨fun ⟨_, xs, e, h⟩ => by cases e; exact ⟨xs, h⟩, fun ⟨xs, h⟩ => ⟨a, xs, rfl, h⟩⟩
theorem z_gcons {gs : TGs} {r : List V} {Qg : St → Hp → Prop} : gCons g gs (v :: r) σ H Qg = g v σ H fun σ' H' => gs r σ' H' Qg := propext ⟨fun ⟨_, _, e, h⟩ => by cases e; exact h, fun h => ⟨v, r, rfl, h⟩⟩
theorem z_gnil {Qg : St → Hp → Prop} : gNil [] σ H Qg = Qg σ H := propext ⟨fun h => h.2, fun h => ⟨rfl, h⟩⟩
theorem z_yes : tYes σ H QT = QT true H := rfl
theorem z_wipe0 : wipe σ [] = σ := rfl
theorem z_wipeS {i : Nat} {is : List Nat} : wipe σ (i :: is) = (wipe σ is).set i none := rfl
theorem z_itup {R : It → Hp → Prop} : iTup K te σ H R = te σ H fun x H1 => ∃ a, x = .ref a ∧ (∃ xs, SqT K H1 a xs) ∧ R (Itt K a) H1 := rfl
theorem z_ilist {R : It → Hp → Prop} : iList K te σ H R = te σ H fun x H1 => ∃ a, x = .ref a ∧ (∃ xs, SqL K H1 a xs) ∧ R (Itl K a) H1 := rfl
theorem z_irng1 {R : It → Hp → Prop} : iRng1 tl σ H R = tl σ H fun vs H1 => ∃ j : Int, vs = [.int j] ∧ -(2 ^ 62) ≤ j ∧ j < 2 ^ 62 ∧ R (Itr 0 j.toNat) H1 := rfl
theorem z_irng2 {R : It → Hp → Prop} : iRng2 tl σ H R = tl σ H fun vs H1 => ∃ i j : Int, vs = [.int i, .int j] ∧ (-(2 ^ 62) ≤ i ∧ i < 2 ^ 62 ∧ -(2 ^ 62) ≤ j ∧ j < 2 ^ 62) ∧ R (Itr i (j - i).toNat) H1 := rfl
theorem z_lc {wi : TI} {vs : List Nat} : tLc wi g t te vs σ H Q = wi σ H fun J H1 => LcW J H1 g t te vs σ Q := rfl
theorem z_for {wi : TI} {tb : TS} : tFor wi g tb D σ H = wi σ H fun J H1 => ForW J H1 g tb D σ := rfl
theorem z_gsub {to ti : TE} {f : TSet} {Qg : St → Hp → Prop} : gSub to ti f v σ H Qg = to σ H fun o H1 => ti σ H1 fun i H2 => f o i v H2 fun H3 => Qg σ H3 := rfl
theorem ixL {p : Addr} {xs : List V} {i : Int} (h : SqL K H p xs) (e : atI xs i = some v) (q : Q v H) : rIxA K (.ref p) (.int i) H Q := .inl ⟨p, xs, i, v, rfl, rfl, h, e, q⟩
theorem ixT {p : Addr} {xs : List V} {i : Int} (h : SqT K H p xs) (e : atI xs i = some v) (q : Q v H) : rIxA K (.ref p) (.int i) H Q := .inr ⟨p, xs, i, v, rfl, rfl, h, e, q⟩
theorem setL {p : Addr} {xs : List V} {i : Int} {j : Nat} {Qh : Hp → Prop} (h : H p = some (.lst xs)) (e : ixN xs.length i = some j) (q : Qh (upd H p (.lst (xs.set j v)))) : rSetL (.ref p) (.int i) v H Qh := ⟨p, xs, i, j, rfl, rfl, h, e, q⟩
theorem lenL {p : Addr} {xs : List V} (h : SqL K H p xs) (q : Q (.int (xs.length : Int)) H) : rLenU K [.ref p] H Q := ⟨p, xs, rfl, .inl h, q⟩
theorem lenT {p : Addr} {xs : List V} (h : SqT K H p xs) (q : Q (.int (xs.length : Int)) H) : rLenU K [.ref p] H Q := ⟨p, xs, rfl, .inr h, q⟩
theorem z_par3 {i j l : Nat} : tPar3 i j l tl D σ H = tl σ H fun vs H1 => ∃ u v w, vs = [u, v, w] ∧ D.nx (((σ.set i (some u)).set j (some v)).set l (some w)) H1 := rfl
theorem z_trip {u v w : V} {p : V → V → V → Prop} : (∃ a b c, [u, v, w] = [a, b, c] ∧ p a b c) = p u v w := propext ⟨fun ⟨_, _, _, e, q⟩ => by cases e; exact q, fun q => ⟨_, _, _, rfl, q⟩⟩
theorem z_rg1 {f : Int → Int → Hp → Prop} : tRg1 te σ H f = te σ H fun x H1 => ∃ n, x = .int n ∧ f 0 n H1 := rfl
theorem z_rg2 {f : Int → Int → Hp → Prop} : tRg2 ta tb σ H f = ta σ H fun x H1 => tb σ H1 fun y H2 => ∃ i j, x = .int i ∧ y = .int j ∧ f i j H2 := rfl
theorem z_ii {i j : Int} {p : Int → Int → Prop} : (∃ a b, V.int i = V.int a ∧ V.int j = V.int b ∧ p a b) = p i j := propext ⟨fun ⟨_, _, e1, e2, q⟩ => by cases e1; cases e2; exact q, fun q => ⟨_, _, rfl, rfl, q⟩⟩
theorem z_i1 {i : Int} {p : Int → Prop} : (∃ a, V.int i = V.int a ∧ p a) = p i := propext ⟨fun ⟨_, e1, q⟩ => by cases e1; exact q, fun q => ⟨_, rfl, q⟩⟩
theorem z_lstrg {f : St → Hp → (Int → Int → Hp → Prop) → Prop} : tLstRg f σ H Q = f σ H fun a b H1 => RgOk a b ∧ ∀ q, H1 q = none → Q (.ref q) (upd H1 q (.lst (rgV a b))) := rfl
theorem z_disp {trs : List (TE × TE)} : tDisp trs σ H Q = ∀ p, H p = none → tPairs trs σ (upd H p (.dK [])) fun ps H2 => H2 p = some (.dK []) ∧ ∃ kvs : List (Key × V), ps = kvs.map (fun kv => (kV kv.1, kv.2)) ∧ kvs.length ≤ 15 ∧ Q (.ref p) (upd H2 p (.dK (mergeK [] kvs))) := rfl
theorem z_tp0 {f : List (V × V) → Hp → Prop} : tPairs [] σ H f = f [] H := rfl
theorem z_tpS {r : List (TE × TE)} {f : List (V × V) → Hp → Prop} : tPairs ((ta, tb) :: r) σ H f = ta σ H fun x H1 => tb σ H1 fun y H2 => tPairs r σ H2 fun ps H3 => f ((x, y) :: ps) H3 := rfl
theorem z_tru : tTru K ta σ H QT = ta σ H fun x H' => ∃ k, TruV K x H' k ∧ QT k H' := rfl
theorem z_din : tDIn ta tb σ H Q = ta σ H fun y H1 => tb σ H1 fun x H2 => ∃ a o, x = V.ref a ∧ DGet H2 a y o ∧ Q (.bl o.isSome) H2 := rfl
theorem z_dget : tDGet ta tb σ H Q = ta σ H fun x H1 => tb σ H1 fun y H2 => ∃ a v, x = V.ref a ∧ DGet H2 a y (some v) ∧ Q v H2 := rfl
theorem z_dput : sDPut ta tb te D σ H = te σ H fun v H1 => ta σ H1 fun x H2 => tb σ H2 fun y H3 => ∃ a H4, x = V.ref a ∧ DPut H3 a y v H4 ∧ D.nx σ H4 := rfl
theorem z_cont : tCont D σ H = D.ct σ H := rfl
theorem z_dnew : tDNewK σ H Q = ∀ p, H p = none → Q (.ref p) (upd H p (.dK [])) := rfl
theorem z_sl {f : V → Option Int → Option Int → Hp → VK → Prop} {ul uh : TO} : tSl f te ul uh σ H Q = te σ H fun x H1 => ul σ H1 fun l H2 => uh σ H2 fun u H3 => f x l u H3 Q := rfl
theorem z_part {f : Option Int → Hp → Prop} : tPart te σ H f = te σ H fun x H1 => ∃ i, x = .int i ∧ f (some i) H1 := rfl
theorem z_nopart {f : Option Int → Hp → Prop} : tNoPart σ H f = f none H := rfl
theorem z_strI {i : Int} : rStrI [.int i] H Q = (i.natAbs.log2 < 1920 ∧ Q (.str (toString i)) H) := propext ⟨fun ⟨_, e, q⟩ => by cases e; exact q, fun q => ⟨_, rfl, q⟩⟩
theorem z_isN : tIsN ta σ H Q = ta σ H fun x H1 => Q (.bl (decide (x = .non))) H1 := rfl
theorem z_notN : tNotN ta σ H Q = ta σ H fun x H1 => Q (.bl (!decide (x = .non))) H1 := rfl
theorem z_dn1 {i : Int} : decide (V.int i = V.non) = false := rfl
theorem z_dn2 {i : Addr} : decide (V.ref i = V.non) = false := rfl
theorem z_dn3 {i : Bool} : decide (V.bl i = V.non) = false := rfl
theorem z_dn4 {i : Str} : decide (V.str i = V.non) = false := rfl
theorem z_dn5 : decide (V.non = V.non) = true := rfl
theorem z_some {a : V} {p : V → Prop} : (∃ x, some (some a) = some (some x) ∧ p x) = p a := propext ⟨fun ⟨_, e, q⟩ => by cases e; exact q, fun q => ⟨_, rfl, q⟩⟩
end
/-! comprehensions: outs i is what the i-th item gives, if anything -/
def OutOf (D : Addr) (nx : Hp → Prop) : Option V → Hp → Prop
  | some y, H4 => ∃ acc, H4 D = some (.lst acc) ∧ acc.length < sizeLine ∧ nx (upd H4 D (.lst (acc ++ [y])))
  | none, H3 => nx H3
def outL (outs : Nat → Option V) (n : Nat) : List V := (List.range n).filterMap outs
theorem outL_succ (outs : Nat → Option V) (n : Nat) : outL outs (n + 1) = outL outs n ++ (outs n).toList := by
  unfold outL
  rw [List.range_succ, List.filterMap_append]
  cases h : outs n <;> simp [h]
theorem outL_len (outs : Nat → Option V) (n : Nat) : (outL outs n).length ≤ n := by
  unfold outL
  exact Nat.le_trans (List.length_filterMap_le _ _) (by simp)
theorem same_mutD {H H' : Hp} {p : Addr} {o : HO} (s : Same H H') (hn : H p = none) : Same H (upd H' p o) := fun b u h => by
  rw [upd_ne (ne_of_none h hn)]; exact s b u h
theorem out_ok {H1 : Hp} {D : Addr} (hD : H1 D = none) (outs : Nat → Option V) {i n : Nat} (hi : i < n) (hn : n < 2 ^ 22) {H' H2 : Hp} (h : Same H1 H' ∧ H' D = some (.lst (outL outs i))) (s : Same H' H2) :
    OutOf D (fun H' => Same H1 H' ∧ H' D = some (.lst (outL outs (i + 1)))) (outs i) H2 := by
  have h2 := s _ _ h.2
  have h3 : Same H1 H2 := h.1.trans s
  cases e : outs i with
  | none =>
    refine ⟨h3, ?_⟩
    rw [outL_succ, e]
    simpa using h2
  | some y =>
    refine ⟨_, h2, Nat.lt_of_lt_of_le (Nat.lt_of_le_of_lt (Nat.le_trans (outL_len outs i) (Nat.le_of_lt hi)) hn) (by decide), same_mutD h3 hD, ?_⟩
    rw [upd_same, outL_succ, e]
    rfl
theorem comp_R {lo : Int} {n : Nat} {g : TG} {tt : TT} {te : TE} {vs : List Nat} {σ : St} {H1 : Hp} {Q : VK} (outs : Nat → Option V) (hn : n < 2 ^ 22)
    (turn : ∀ i H', i < n → Same H1 H' → ∀ Qo : Option V → Hp → Prop, (∀ H2, Same H' H2 → Qo (outs i) H2) → g (.int (lo + i)) (wipe σ vs) H' fun σ2 H2 => wipe σ2 vs = wipe σ vs ∧ tt σ2 H2 fun b H3 => if b = true then te σ2 H3 fun y H4 => Qo (some y) H4 else Qo none H3)
    (fin : ∀ D H', Same H1 H' → H' D = some (.lst (outL outs n)) → Q (.ref D) H') : LcW (Itr lo n) H1 g tt te vs σ Q := fun D hD =>
  lc_range (lo := lo) (n := n) (fun i H' => Same H1 H' ∧ H' D = some (.lst (outL outs i))) ⟨fun b u h => by rw [upd_ne (ne_of_none h hD)]; exact h, upd_same⟩
    (fun i H' hi p => turn i H' hi p.1 (OutOf D fun H' => Same H1 H' ∧ H' D = some (.lst (outL outs (i + 1)))) fun H2 s => out_ok hD outs hi hn p s) (fun H' p => fin D H' p.1 p.2)
theorem comp_T {K : PySem.W.Frag} {a : Addr} {xs : List V} {g : TG} {tt : TT} {te : TE} {vs : List Nat} {σ : St} {H1 : Hp} {Q : VK} (hT : SqT K H1 a xs) (outs : Nat → Option V) (hn : xs.length < 2 ^ 22)
    (turn : ∀ i x H', xs[i]? = some x → Same H1 H' → ∀ Qo : Option V → Hp → Prop, (∀ H2, Same H' H2 → Qo (outs i) H2) → g x (wipe σ vs) H' fun σ2 H2 => wipe σ2 vs = wipe σ vs ∧ tt σ2 H2 fun b H3 => if b = true then te σ2 H3 fun y H4 => Qo (some y) H4 else Qo none H3)
    (fin : ∀ D H', Same H1 H' → H' D = some (.lst (outL outs xs.length)) → Q (.ref D) H') : LcW (Itt K a) H1 g tt te vs σ Q := fun D hD => by
  have hsq : ∀ H', Same H1 H' → SqT K H' a xs := fun H' s => by
    rcases hT with (h | ⟨o, h⟩) | h
    · exact .inl (.inl (s _ _ h))
    · exact .inl (.inr ⟨o, s _ _ h⟩)
    · exact .inr h
  exact lc_tup (K := K) (a := a) (xs := xs) (fun i H' => Same H1 H' ∧ H' D = some (.lst (outL outs i))) ⟨fun b u h => by rw [upd_ne (ne_of_none h hD)]; exact h, upd_same⟩ (fun i H' _ p => hsq H' p.1)
    (fun i x H' hx p => turn i x H' hx p.1 (OutOf D fun H' => Same H1 H' ∧ H' D = some (.lst (outL outs (i + 1)))) fun H2 s => out_ok hD outs (by
      have := List.getElem?_eq_some_iff.mp hx
      exact this.1) hn p s) (fun H' p => fin D H' p.1 p.2)
theorem comp_L {K : PySem.W.Frag} {a : Addr} {xs : List V} {g : TG} {tt : TT} {te : TE} {vs : List Nat} {σ : St} {H1 : Hp} {Q : VK} (hT : SqL K H1 a xs) (outs : Nat → Option V) (hn : xs.length < 2 ^ 22)
    (turn : ∀ i x H', xs[i]? = some x → Same H1 H' → ∀ Qo : Option V → Hp → Prop, (∀ H2, Same H' H2 → Qo (outs i) H2) → g x (wipe σ vs) H' fun σ2 H2 => wipe σ2 vs = wipe σ vs ∧ tt σ2 H2 fun b H3 => if b = true then te σ2 H3 fun y H4 => Qo (some y) H4 else Qo none H3)
    (fin : ∀ D H', Same H1 H' → H' D = some (.lst (outL outs xs.length)) → Q (.ref D) H') : LcW (Itl K a) H1 g tt te vs σ Q := fun D hD =>
  lc_list (K := K) (a := a) (xs := xs) (fun i H' => Same H1 H' ∧ H' D = some (.lst (outL outs i))) ⟨fun b u h => by rw [upd_ne (ne_of_none h hD)]; exact h, upd_same⟩ (fun i H' _ p => p.1.seq hT)
    (fun i x H' hx p => turn i x H' hx p.1 (OutOf D fun H' => Same H1 H' ∧ H' D = some (.lst (outL outs (i + 1)))) fun H2 s => out_ok hD outs (by
      have := List.getElem?_eq_some_iff.mp hx
      exact this.1) hn p s) (fun H' p => fin D H' p.1 p.2)
theorem for_T {K : PySem.W.Frag} {a : Addr} {xs : List V} {g : TG} {tb : TS} {D : Ends} {σ : St} {H : Hp} (Pv : Nat → St → Hp → Prop) (h0 : Pv 0 σ H) (hl : ∀ i σ H, i ≤ xs.length → Pv i σ H → SqT K H a xs)
    (hs : ∀ i x σ H, xs[i]? = some x → Pv i σ H → ∀ N : St → Hp → Prop, (∀ σ' H', Pv (i + 1) σ' H' → N σ' H') → g x σ H fun σ2 H2 => tb { D with nx := N, ct := N, bk := D.nx } σ2 H2) (hd : ∀ σ H, Pv xs.length σ H → D.nx σ H) : ForW (Itt K a) H g tb D σ :=
  for_tup (xs := xs) Pv h0 hl (fun i x σ H hx p => hs i x σ H hx p _ fun _ _ h => h) hd
theorem for_L {K : PySem.W.Frag} {a : Addr} {xs : List V} {g : TG} {tb : TS} {D : Ends} {σ : St} {H : Hp} (Pv : Nat → St → Hp → Prop) (h0 : Pv 0 σ H) (hl : ∀ i σ H, i ≤ xs.length → Pv i σ H → SqL K H a xs)
    (hs : ∀ i x σ H, xs[i]? = some x → Pv i σ H → ∀ N : St → Hp → Prop, (∀ σ' H', Pv (i + 1) σ' H' → N σ' H') → g x σ H fun σ2 H2 => tb { D with nx := N, ct := N, bk := D.nx } σ2 H2) (hd : ∀ σ H, Pv xs.length σ H → D.nx σ H) : ForW (Itl K a) H g tb D σ :=
  for_list (xs := xs) Pv h0 hl (fun i x σ H hx p => hs i x σ H hx p _ fun _ _ h => h) hd
theorem for_R {lo : Int} {n : Nat} {g : TG} {tb : TS} {D : Ends} {σ : St} {H : Hp} (Pv : Nat → St → Hp → Prop) (h0 : Pv 0 σ H)
    (hs : ∀ i σ H, i < n → Pv i σ H → ∀ N : St → Hp → Prop, (∀ σ' H', Pv (i + 1) σ' H' → N σ' H') → g (.int (lo + i)) σ H fun σ2 H2 => tb { D with nx := N, ct := N, bk := D.nx } σ2 H2) (hd : ∀ σ H, Pv n σ H → D.nx σ H) : ForW (Itr lo n) H g tb D σ :=
  for_range (lo := lo) (n := n) Pv h0 (fun i σ H hx p => hs i σ H hx p _ fun _ _ h => h) hd
/-- while: the invariant W by its measure; N is what a turn is to reach -/
theorem while_of {c : TT} {tb : TS} {D : Ends} {σ : St} {H : Hp} (W : Nat → St → Hp → Prop) (m0 : Nat) (h0 : W m0 σ H)
    (hs : ∀ m σ H, W m σ H → ∀ N : St → Hp → Prop, (∀ m' σ' H', m' < m → W m' σ' H' → N σ' H') → (∀ σ' H', N σ' H' → ∃ m', m' < m ∧ W m' σ' H') →
      c σ H fun b H1 => if b = true then ∃ N : St → Hp → Prop, (∀ σ' H', N σ' H' → ∃ m', m' < m ∧ W m' σ' H') ∧ tb { D with nx := N, ct := N, bk := D.nx } σ H1 else D.nx σ H1) : tWhile c tb D σ H :=
  ⟨W, ⟨m0, h0⟩, fun m σ H w => hs m σ H w _ (fun m' _ _ a b => ⟨m', a, b⟩) (fun _ _ h => h)⟩
/-- a comprehension over zip of two tuples of one length -/
theorem comp_ZT {K : PySem.W.Frag} {a b : Addr} {xs ys : List V} {g : TG} {tt : TT} {te : TE} {vs : List Nat} {σ : St} {H1 : Hp} {Q : VK} (hl : xs.length = ys.length) (hA : SqT K H1 a xs) (hB : SqT K H1 b ys) (outs : Nat → Option V) (hn : xs.length < 2 ^ 22)
    (turn : ∀ i x y T H', xs[i]? = some x → ys[i]? = some y → Same H1 H' → H' T = none → ∀ Qo : Option V → Hp → Prop, (∀ H2, Same H' H2 → Qo (outs i) H2) → g (.ref T) (wipe σ vs) (upd H' T (.tup [x, y])) fun σ2 H2 => wipe σ2 vs = wipe σ vs ∧ tt σ2 H2 fun b H3 => if b = true then te σ2 H3 fun y H4 => Qo (some y) H4 else Qo none H3)
    (fin : ∀ D H', Same H1 H' → H' D = some (.lst (outL outs xs.length)) → Q (.ref D) H') : LcW (RZ.ItzT K a b) H1 g tt te vs σ Q := fun D hD => by
  have hsq : ∀ {a xs H'}, SqT K H1 a xs → Same H1 H' → SqT K H' a xs := fun hT s => by
    rcases hT with (h | ⟨o, h⟩) | h
    · exact .inl (.inl (s _ _ h))
    · exact .inl (.inr ⟨o, s _ _ h⟩)
    · exact .inr h
  refine ⟨fun i m H => m = xs.length - i ∧ i ≤ xs.length ∧ Same H1 H ∧ H D = some (.lst (outL outs i)), ⟨xs.length, by simp, Nat.zero_le _, fun b u h => by rw [upd_ne (ne_of_none h hD)]; exact h, upd_same⟩, ?_⟩
  rintro i m H ⟨rfl, hi, s1, hL⟩
  by_cases hlt : i < xs.length
  · have jlt : i < ys.length := by omega
    refine .inr ⟨⟨xs, ys, _, _, hsq hA s1, hsq hB s1, List.getElem?_eq_getElem hlt, List.getElem?_eq_getElem jlt⟩, fun H => Same H1 H ∧ H D = some (.lst (outL outs (i + 1))), fun H' p' => ⟨xs.length - (i + 1), by omega, rfl, hlt, p'⟩, fun v H' y => ?_⟩
    obtain ⟨T, u, v, rfl, hT, rfl, f1, f2⟩ := y
    exact turn i u v T H (f1 xs (hsq hA s1)) (f2 ys (hsq hB s1)) s1 hT (OutOf D fun H' => Same H1 H' ∧ H' D = some (.lst (outL outs (i + 1)))) fun H2 s => out_ok hD outs hlt hn ⟨s1, hL⟩ s
  · obtain rfl : i = xs.length := by omega
    exact .inl ⟨⟨xs, ys, hsq hA s1, hsq hB s1, Or.inl (Nat.le_refl _)⟩, fin D H s1 hL⟩
def Lc2W (J : It) (H1 : Hp) (g : TG) (tt : TT) (wi1 : TI) (g1 : TG) (tt1 : TT) (te : TE) (vs vs1 : List Nat) (σ : St) (Q : VK) : Prop := tLc2 (fun _ _ R => R J H1) g tt wi1 g1 tt1 te vs vs1 σ H1 Q
theorem z_lc2 {wi wi1 : TI} {g g1 : TG} {tt tt1 : TT} {te : TE} {vs vs1 : List Nat} {σ : St} {H : Hp} {Q : VK} : tLc2 wi g tt wi1 g1 tt1 te vs vs1 σ H Q = wi σ H fun J H1 => Lc2W J H1 g tt wi1 g1 tt1 te vs vs1 σ Q := rfl
/-- [f x y for x in xs for y in ys], both lists, f without a trace on the heap -/
theorem comp2_LL {K : PySem.W.Frag} {a b : Addr} {xs ys : List V} {g g1 : TG} {wi1 : TI} {te : TE} {vs vs1 : List Nat} {σ : St} {H1 : Hp} {Q : VK} (f : V → V → V) (σ1 : V → St) (σ2 : V → V → St) (hA : SqL K H1 a xs) (hB : SqL K H1 b ys) (hn : xs.length * ys.length < 2 ^ 22)
    (hg : ∀ x H' (P : St → Hp → Prop), P (σ1 x) H' → g x (wipe σ vs) H' P) (hw : ∀ x, wipe (σ1 x) vs = wipe σ vs)
    (hi : ∀ x H' R, Same H1 H' → R (Itl K b) H' → wi1 (σ1 x) H' R)
    (hg1 : ∀ x y H' (P : St → Hp → Prop), P (σ2 x y) H' → g1 y (wipe (σ1 x) vs1) H' P) (hw1 : ∀ x y, wipe (σ2 x y) vs1 = wipe (σ1 x) vs1)
    (he : ∀ x y H' Qe, x ∈ xs → y ∈ ys → Same H1 H' → Qe (f x y) H' → te (σ2 x y) H' Qe)
    (fin : ∀ D H', Same H1 H' → H' D = some (.lst (xs.flatMap fun x => ys.map (f x))) → Q (.ref D) H') :
    Lc2W (Itl K a) H1 g tYes wi1 g1 tYes te vs vs1 σ Q := fun D hD => by
  have full : ∀ i j : Nat, i < xs.length → j ≤ ys.length → (((xs.take i).flatMap fun x => ys.map (f x)) ++ ((ys.take j).map (f (xs[i]?.getD .non)))).length ≤ xs.length * ys.length := fun i j hi hj => by
    have e : ∀ l : List V, (l.flatMap fun x => ys.map (f x)).length = l.length * ys.length := fun l => by
      induction l with
      | nil => simp
      | cons x t ih => rw [List.flatMap_cons, List.length_append, ih, List.length_map, List.length_cons, Nat.add_mul, Nat.one_mul, Nat.add_comm]
    rw [List.length_append, e, List.length_map, List.length_take, List.length_take, Nat.min_eq_left (by omega), Nat.min_eq_left hj]
    have : (i + 1) * ys.length ≤ xs.length * ys.length := Nat.mul_le_mul_right _ hi
    rw [Nat.add_mul, Nat.one_mul] at this
    omega
  refine ⟨fun i m H => m = xs.length - i ∧ i ≤ xs.length ∧ Same H1 H ∧ H D = some (.lst ((xs.take i).flatMap fun x => ys.map (f x))), ⟨xs.length, by simp, Nat.zero_le _, fun b u h => by rw [upd_ne (ne_of_none h hD)]; exact h, by rw [upd_same]; simp⟩, ?_⟩
  rintro i m H ⟨rfl, hi', s1, hL⟩
  by_cases hlt : i < xs.length
  · have hx := List.getElem?_eq_getElem hlt
    refine .inr ⟨⟨xs, _, s1.seq hA, hx⟩, fun H => Same H1 H ∧ H D = some (.lst ((xs.take (i + 1)).flatMap fun x => ys.map (f x))), fun H' p' => ⟨xs.length - (i + 1), by omega, rfl, hlt, p'⟩, fun v H' y => ?_⟩
    obtain ⟨rfl, f1⟩ := y
    have hv := f1 xs (s1.seq hA)
    have ev : v = xs[i] := by rw [hx] at hv; exact (Option.some.inj hv).symm
    refine hg _ _ _ ⟨hw _, ?_⟩
    show wi1 _ _ _
    refine hi _ _ _ s1 ?_
    refine ⟨fun j k H => k = ys.length - j ∧ j ≤ ys.length ∧ Same H1 H ∧ H D = some (.lst (((xs.take i).flatMap fun x => ys.map (f x)) ++ ((ys.take j).map (f v)))), ⟨ys.length, by simp, Nat.zero_le _, s1, by simpa using hL⟩, ?_⟩
    rintro j k H ⟨rfl, hj, s2, hM⟩
    by_cases hjt : j < ys.length
    · have hy : ys[j]? = some ys[j] := List.getElem?_eq_getElem hjt
      refine .inr ⟨⟨ys, _, s2.seq hB, hy⟩, fun H => Same H1 H ∧ H D = some (.lst (((xs.take i).flatMap fun x => ys.map (f x)) ++ ((ys.take (j + 1)).map (f v)))), fun H' p' => ⟨ys.length - (j + 1), by omega, rfl, hjt, p'⟩, fun u H' y => ?_⟩
      obtain ⟨rfl, f2⟩ := y
      have hu := f2 ys (s2.seq hB)
      refine hg1 _ _ _ _ ⟨hw1 _ _, ?_⟩
      show te _ _ _
      refine he _ _ _ _ (List.mem_of_getElem? hv) (List.mem_of_getElem? hu) s2 ?_
      have fl := full i j hlt hj
      rw [hv] at fl
      refine ⟨_, hM, Nat.lt_of_le_of_lt fl (Nat.lt_of_lt_of_le hn (by decide)), same_mutD s2 hD, ?_⟩
      rw [upd_same, List.take_succ, hu, List.append_assoc]
      simp
    · have e : j = ys.length := by omega
      subst e
      refine .inl ⟨⟨ys, s2.seq hB, Nat.le_refl _⟩, s2, ?_⟩
      rw [hM, List.take_length, List.take_succ, hv]
      simp
  · obtain rfl : i = xs.length := by omega
    exact .inl ⟨⟨xs, s1.seq hA, Nat.le_refl _⟩, fin D H s1 (by rw [hL, List.take_length])⟩
theorem z_dget2 {σ : St} {H : Hp} {Q : VK} {ta tb te : TE} : tDGet2 ta tb te σ H Q = ta σ H fun x H1 => ∃ a, x = .ref a ∧ IsD H1 a ∧ tb σ H1 fun y H2 => te σ H2 fun z H3 => ∃ o, DGet H3 a y o ∧ Q (o.getD z) H3 := rfl
theorem z_izip {K : PySem.W.Frag} {σ : St} {H : Hp} {tl : TA} {R : It → Hp → Prop} : RZ.iZipA K tl σ H R = tl σ H fun vs H1 => ∃ a b xs ys, vs = [.ref a, .ref b] ∧ ((SqL K H1 a xs ∧ SqL K H1 b ys ∧ R (Itz K a b) H1) ∨ (SqT K H1 a xs ∧ SqT K H1 b ys ∧ R (RZ.ItzT K a b) H1)) := rfl
open Sem (wp)
/-! enumerate over a tuple -/
def itO (a : Addr) : Obj := { cls := .type "tuple_iterator", data := .fields #[.ref a, .int 0 0] }
def enO (it : Addr) : Obj := { cls := .type "enumerate", data := .fields #[.none, .bool false, .ref it, rawInt 0, .none, .none] }
theorem en_new (a : Addr) (its : Array Value) : Meets (Builtin.«enumerate.__new__» ⟨[.type "enumerate", .ref a], []⟩) (fun _ R s0 => s0.heap.IsTuple a its ∧ R (.ok (.ret (.ref (s0.heap.push (itO a)).objs.size))) { s0 with heap := (s0.heap.push (itO a)).push (enO s0.heap.objs.size) }) :=
  .of_wp fun prg wd AA RR s0 hs => by
    obtain ⟨hp, gg, dd, tk, os⟩ := s0
    obtain ⟨hT, hs⟩ := hs
    have hsub := PySem.sub_enumerate
    have go : ∀ {A' : Around} {E' : Value → Shared → Prop} {Q' : Value → Shared → Prop}, Q' (.ref hp.objs.size) ⟨hp.push (itO a), gg, dd, tk, os⟩ → wpAny (model prg wd) A' (pyIter (.ref a)) Q' E' ⟨hp, gg, dd, tk, os⟩ := fun q => (begins_tuple a its).iter prg wd _ _ ⟨hp, gg, dd, tk, os⟩ _ hT q
    wp_walk using go
    refine wpAny_stack_any fun stk => wpAny_pure ?_
    split
    · rename_i cc _ _ _ _ _
      cases (cc == Value.type "enumerate") <;> (wp_walk using go; exact ⟨_, rfl, hs⟩)
    · wp_walk using go
      exact ⟨_, rfl, hs⟩
theorem en_call {prg : Program} {wd : World} {AA : Around} {EE : Value → Shared → Prop} {s0 : Shared} {a : Addr} {its : Array Value} {Q : Value → Shared → Prop} (hT : s0.heap.IsTuple a its)
    (h : ∀ h1, IsEnum h1 (s0.heap.objs.size + 1) s0.heap.objs.size 0 .none → h1.IsTupleIter s0.heap.objs.size a 0 → (∀ b ob, s0.heap.get? b = some ob → h1.get? b = some ob) → Q (.ref (s0.heap.objs.size + 1)) { s0 with heap := h1 }) :
    wpAny (model prg wd) AA (call (.type "enumerate") [.ref a]) Q EE s0 := by
  refine callType_new F.called_enumerate (by decide) (F.typeCall_enumerate_1 _) (F.newCall_enumerate_1 _) (fun ob => F.args_object_init_2 ob _) F.entry_enumerate_new (en_new a its) ⟨hT, ?_⟩
  have z1 : (s0.heap.push (itO a)).objs.size = s0.heap.objs.size + 1 := Heap.size_push ..
  have z2 : IsEnum ((s0.heap.push (itO a)).push (enO s0.heap.objs.size)) (s0.heap.objs.size + 1) s0.heap.objs.size 0 .none := by
    have z3 := Heap.get?_push_size (s0.heap.push (itO a)) (o := enO s0.heap.objs.size) rfl
    rw [z1] at z3
    exact z3
  show _ ∧ _
  rw [z1]
  exact ⟨⟨_, z2, rfl⟩, h _ z2 ⟨_, Heap.get?_push_of_some _ (Heap.get?_push_size _ rfl), rfl, rfl⟩ fun b ob y => Heap.get?_push_of_some _ (Heap.get?_push_of_some _ y)⟩
/-- the tuple at a, each item in a new pair with its index -/
def IteT (K : PySem.W.Frag) (a : Addr) : It :=
  ⟨fun i H => ∃ (xs : List V) (x : V), SqT K H a xs ∧ xs[i]? = some x,
   fun i H v H' => ∃ T x, v = .ref T ∧ H T = none ∧ H' = upd H T (.tup [.int (i : Nat), x]) ∧ ∀ xs, SqT K H a xs → xs[i]? = some x,
   fun i H => ∃ xs : List V, SqT K H a xs ∧ xs.length = i⟩
theorem en_apart {h : Heap} {e it a : Addr} {n : Int} {old : Value} {its : Array Value} {i : Nat} (he : IsEnum h e it n old) (hi : h.IsTupleIter it a i) (ha : h.IsTuple a its) : a ≠ it ∧ e ∉ [it, a] ∧ e ≠ it := by
  obtain ⟨o1, g1, c1, _⟩ := hi
  obtain ⟨o2, g2, c2, _⟩ := ha
  have n1 : a ≠ it := fun q => by
    rw [q, g1] at g2
    cases g2
    rw [c1] at c2
    exact absurd c2 (by decide)
  have n2 : e ≠ it := fun q => by
    rw [q] at he
    have := g1.symm.trans he
    cases this
    exact (show (Value.type "enumerate") ≠ Value.type "tuple_iterator" by decide) c1
  have n3 : e ≠ a := fun q => by
    rw [q] at he
    have := g2.symm.trans he
    cases this
    exact (show (Value.type "enumerate") ≠ Value.type "tuple" by decide) c2
  exact ⟨n1, by simp [n2, n3], n2⟩
theorem turn_enT {prg : Program} {wd : World} {K : PySem.W.Frag} {elts : List Expr} {kk : Nat} {tpos : Pos} (a e it : Addr) : Turn prg wd K (.Tuple elts kk tpos) (IteT K a) [e, it] e (fun i h => (∃ old, IsEnum h e it ((i : Nat) : Int) old) ∧ h.IsTupleIter it a i) where
  mem := List.mem_cons_self
  obj := fun i h st b hb => by
    obtain ⟨⟨old, he⟩, o, ho, _, hd⟩ := st
    rcases List.mem_cons.mp hb with z | z
    · subst z
      exact ⟨_, he, fun v q => nomatch q⟩
    · obtain rfl := List.mem_singleton.mp z
      exact ⟨o, ho, fun v q => by rw [hd] at q; cases q⟩
  keep := fun i h h' st k => by
    obtain ⟨⟨old, he⟩, hi⟩ := st
    exact ⟨⟨old, k e List.mem_cons_self _ he⟩, hi.at fun o q => k it (List.mem_cons_of_mem _ List.mem_cons_self) o q⟩
  item := by
    intro X hP hw hK hc i pins s0 σ H EE I hf st hg
    subst hP hw hK
    obtain ⟨⟨old, he⟩, hi⟩ := st
    obtain ⟨xs, x, hq, hx⟩ := hg
    obtain ⟨its, rv, p, _⟩ := I.tuple hq
    have p : s0.heap.IsTuple a its.toArray := p
    obtain ⟨u, hu, relu⟩ := rv.get hx
    obtain ⟨n1, n2, n3⟩ := en_apart he hi p
    have hlt : i < its.toArray.size := by
      have := (List.getElem?_eq_some_iff.mp hu).1
      simpa using this
    have szE : e < s0.heap.objs.size := Heap.lt_size he
    have szI : it < s0.heap.objs.size := by
      obtain ⟨_, q, _⟩ := hi
      exact Heap.lt_size q
    refine wpAny_pyNext_enum_itemD (Draws.tuple (A := X.A.in1) (I.ok.hd hc) it a n1 its.toArray) he ⟨hi, p⟩ hlt n3 n2 fun y h1 tk hy ho hs hT _ hk => ?_
    have ey : y = u := by
      have : its[i]? = some y := by simpa using hy
      rw [hu] at this
      exact (Option.some.inj this).symm
    subst ey
    refine ⟨_, rfl, wpAny_letOwnedTupleGo_enum (s := { s0 with heap := h1, toks := tk + 1 }) ho fun h2 he2 sb => ?_⟩
    have hT2 := (sb.2 _ (Nat.ne_of_gt szE)).trans hT
    have fresh : H s0.heap.objs.size = none := I.hok.fresh (Nat.le_refl _)
    have neu : ObjOk X.prog X.w (upd H s0.heap.objs.size (.tup [.int (i : Nat), x])) h2 s0.heap.objs.size (.tup [.int (i : Nat), x]) := ⟨by show 2 ≤ sizeLine; decide, [.int i tk, y], .cons ⟨_, rfl⟩ (.cons relu .nil), ⟨_, hT2, rfl, _, rfl⟩⟩
    have kept : ∀ b ob, b ∉ [e, it] → s0.heap.get? b = some ob → h2.get? b = some ob := fun b ob hb q => by
      have hb' : b ≠ e ∧ b ≠ it := by simpa using hb
      exact (sb.2 b hb'.1).trans (hk b ob hb'.1 hb'.2 q)
    have J := I.turnedNew (t' := tk + 1) kept hf (Nat.le_refl _) neu
    refine ⟨.ref s0.heap.objs.size, _, J, rfl, ⟨_, x, rfl, fresh, rfl, fun ys hy => by rw [I.tuple_inj hy hq]; exact hx⟩, ⟨⟨y, ?_⟩, hs.1.at fun o q => (sb.2 it (Ne.symm n3)).trans q⟩, fun b hb => ?_⟩
    · rw [show ((i + 1 : Nat) : Int) = (i : Int) + 1 by omega]; exact he2
    · have hlt2 : b < s0.heap.objs.size := by
        rcases List.mem_cons.mp hb with z | z
        · rw [z]; exact szE
        · rw [List.mem_singleton.mp z]; exact szI
      rw [upd_ne (Nat.ne_of_lt hlt2)]
      exact (hf b hb).1
  done := by
    intro X hP hw hK hc i pins s0 σ H EE I hf st hg
    subst hP hw hK
    obtain ⟨⟨old, he⟩, hi⟩ := st
    obtain ⟨xs, hq, hx⟩ := hg
    obtain ⟨its, rv, p, _⟩ := I.tuple hq
    have p : s0.heap.IsTuple a its.toArray := p
    obtain ⟨n1, n2, n3⟩ := en_apart he hi p
    obtain ⟨f0, f1, f2, f3, f4, f5⟩ := hf it (List.mem_cons_of_mem _ List.mem_cons_self)
    have e1 : i = its.toArray.size := by
      have := rv.length
      simp
      omega
    subst e1
    exact wpAny_pyNext_enum_endD (Draws.tuple (A := X.A.in1) (I.ok.hd hc) it a n1 its.toArray) he ⟨hi, p⟩ fun h1 eb => ⟨rfl, I.turned (t' := s0.toks) (fun b ob hb q => eb b ob hb q) f0 f1 f3 f4 f5⟩
  self := fun AA i s0 Q EE st h => by
    obtain ⟨⟨_, he⟩, _⟩ := st
    exact wpAny_pyIter_enum he h
def iEnT (K : PySem.W.Frag) (ta : TA) : TI := fun σ H R => ta σ H fun vs H1 => ∃ a xs, vs = [.ref a] ∧ SqT K H1 a xs ∧ R (IteT K a) H1
theorem pi_enT {X : Cx} {e : Expr} {ta : TA} {p pos tpos : Pos} {elts : List Expr} {kk : Nat} (hg : Gl X "enumerate") (hm : X.mg "enumerate" = none) (ha : PA X [e] ta) (hs : starEach [e] X.env = [(false, eval e X.env)] := by rfl) : PI X (.Tuple elts kk tpos) (.Call (.Name "enumerate" p) [e] [] pos) (iEnT X.K ta) := by
  refine ⟨fun pins s0 σ H R I h => Call_ (ld_blt I hg hm boot_enumerate (PyProof.Rows.callWith_type1 (thn (ha.run pos pins s0 σ H _ I h) fun us s1 ⟨vs, H1, I1, r1, q1⟩ => ?_) hs rfl))⟩
  obtain ⟨a, xs, rfl, hq, q⟩ := q1
  cases r1 with
  | cons r rr =>
    cases rr
    cases r
    obtain ⟨its, rv, p', _⟩ := I1.tuple hq
    refine en_call (show s1.heap.IsTuple a its.toArray from p') fun h1 he hi hk => wpAny_pyIter_enum he ?_
    have J : Inv X pins σ H1 { s1 with heap := h1 } := I1.kept (t' := s1.toks) hk
    refine ⟨s1.heap.objs.size + 1, [s1.heap.objs.size + 1, s1.heap.objs.size], _, _, H1, rfl, J, turn_enT a (s1.heap.objs.size + 1) s1.heap.objs.size, ⟨⟨.none, he⟩, hi⟩, fun b hb => ?_, q⟩
    have above : s1.heap.objs.size ≤ b := (List.mem_cons.mp hb).elim (fun q => by rw [q]; exact Nat.le_succ _) (fun q => by rw [List.mem_singleton.mp q]; exact Nat.le_refl _)
    exact I1.fpOk above (I1.hok.fresh above)
/-- for i, x in enumerate(a tuple) -/
theorem for_enT {K : PySem.W.Frag} {a : Addr} {xs : List V} {g : TG} {tb : TS} {D : Ends} {σ : L2.St} {H : Hp} (Pv : Nat → L2.St → Hp → Prop) (h0 : Pv 0 σ H) (hl : ∀ i σ H, Pv i σ H → SqT K H a xs)
    (hs : ∀ (i : Nat) (x : V) (T : Addr) (σ : L2.St) (H : Hp), xs[i]? = some x → Pv i σ H → H T = none → ∀ N : L2.St → Hp → Prop, (∀ σ' H', Pv (i + 1) σ' H' → N σ' H') → g (.ref T) σ (upd H T (.tup [.int (i : Nat), x])) fun σ2 H2 => tb { D with nx := N, ct := N, bk := D.nx } σ2 H2) (hd : ∀ σ H, Pv xs.length σ H → D.nx σ H) : ForW (IteT K a) H g tb D σ := by
  refine ⟨fun k m σ H => m + k = xs.length ∧ Pv k σ H, ⟨xs.length, by omega, h0⟩, ?_⟩
  rintro i m σ H ⟨em, p⟩
  have q := hl i σ H p
  by_cases hlt : i < xs.length
  · refine .inr ⟨⟨xs, _, q, List.getElem?_eq_getElem hlt⟩, Pv (i + 1), fun σ' H' p' => ⟨xs.length - (i + 1), by omega, by omega, p'⟩, fun v H' y => ?_⟩
    obtain ⟨T, x', rfl, hT, rfl, f1⟩ := y
    exact hs i x' T σ H (f1 xs q) p hT _ fun _ _ h => h
  · obtain rfl : i = xs.length := by omega
    exact .inl ⟨⟨xs, q, rfl⟩, hd σ H p⟩
theorem z_ient {K : PySem.W.Frag} {σ : L2.St} {H : Hp} {tl : TA} {R : It → Hp → Prop} : iEnT K tl σ H R = tl σ H fun vs H1 => ∃ a xs, vs = [.ref a] ∧ SqT K H1 a xs ∧ R (IteT K a) H1 := rfl
/-! a chain of three comparisons -/
def tChain3 (r r' r'' : R2) (ta tb tc td : TE) : TE := fun σ H Q => ta σ H fun x H1 => tb σ H1 fun y H2 => r x y H2 fun z H3 => ∃ k, z = .bl k ∧ (if k = true then tc σ H3 fun u H4 => r' y u H4 fun z2 H5 => ∃ k2, z2 = .bl k2 ∧ (if k2 = true then td σ H5 fun v H6 => r'' u v H6 Q else Q (.bl false) H5) else Q (.bl false) H3)
theorem pt_chain3 {X : Cx} {pos : Pos} {a b c d : Expr} {ta tb tc td : TE} {op op' op'' : CmpOp} {r r' r'' : R2} (ho : OpR X (compareOp op) r) (ho' : OpR X (compareOp op') r') (ho'' : OpR X (compareOp op'') r'') (ha : PE X a ta) (hb : PE X b tb) (hc : PE X c tc) (hd : PE X d td)
    (hm : lastMarks [op, op', op''] [b, c, d] = false := by with_unfolding_all rfl) : PT X (.Compare a [op, op', op''] [b, c, d] pos) (tTest (tChain3 r r' r'' ta tb tc td)) := by
  refine ⟨fun pins s0 σ H Q I h => isTrue_chain (thn (ha.run pins s0 σ H _ I h) fun v s1 ⟨x, H1, I1, r1, q1⟩ => test_link (thn (hb.run pins s1 σ H1 _ I1 q1) fun u s2 ⟨y, H2, I2, r2, q2⟩ => thn (ho pins s2 σ H2 x y v u _ I2 r1 r2 q2) fun dd s3 ⟨z, H3, I3, r3, k, e, q3⟩ => ?_)) hm⟩
  subst e
  cases r3
  refine wpAny_truthy_bool ?_
  cases k with
  | false =>
    obtain ⟨k', e', q'⟩ := q3
    cases e'
    exact ite_ff ⟨H3, I3, q'⟩
  | true =>
    refine ite_tt (test_link (thn (hc.run pins s3 σ H3 _ I3 q3) fun w' s4 ⟨z', H4, I4, r4, q4⟩ => thn (ho' pins s4 σ H4 y z' u w' _ I4 r2 r4 q4) fun d' s5 ⟨z2, H5, I5, r5, k2, e2, q5⟩ => ?_))
    subst e2
    cases r5
    refine wpAny_truthy_bool ?_
    cases k2 with
    | false =>
      obtain ⟨k', e', q'⟩ := q5
      cases e'
      exact ite_ff ⟨H5, I5, q'⟩
    | true =>
      refine ite_tt (test_last (thn (hd.run pins s5 σ H5 _ I5 q5) fun w2 s6 ⟨z3, H6, I6, r6, q6⟩ => thn (ho'' pins s6 σ H6 z' z3 w' w2 _ I6 r4 r6 q6) fun d2 s7 ⟨z4, H7, I7, r7, k3, e3, q7⟩ => ?_))
      subst e3
      cases r7
      exact wpAny_truthy_bool ⟨H7, I7, q7⟩
theorem z_chain3 {K : PySem.W.Frag} {σ : L2.St} {H : Hp} {Q : VK} {r r' r'' : R2} {ta tb tc td : TE} : tChain3 r r' r'' ta tb tc td σ H Q = ta σ H fun x H1 => tb σ H1 fun y H2 => r x y H2 fun z H3 => ∃ k, z = .bl k ∧ (if k = true then tc σ H3 fun u H4 => r' y u H4 fun z2 H5 => ∃ k2, z2 = .bl k2 ∧ (if k2 = true then td σ H5 fun v H6 => r'' u v H6 Q else Q (.bl false) H5) else Q (.bl false) H3) := rfl
/-! x in (a, b, ..): the tuple is forgotten at once -/
def tInT (neg : Bool) (ta : TE) (ts : TA) : TE := fun σ H Q => ta σ H fun x H1 => ts σ H1 fun xs H2 => xs.length ≤ sizeLine ∧ flatV x = true ∧ xs.all flatV = true ∧ Q (.bl (if neg then !inV x xs else inV x xs)) H2
theorem z_inT {neg : Bool} {ta : TE} {ts : TA} {σ : L2.St} {H : Hp} {Q : VK} : tInT neg ta ts σ H Q = ta σ H fun x H1 => ts σ H1 fun xs H2 => xs.length ≤ sizeLine ∧ flatV x = true ∧ xs.all flatV = true ∧ Q (.bl (if neg then !inV x xs else inV x xs)) H2 := rfl
theorem pe_inT {X : Cx} {a : Expr} {ta : TE} {es : List Expr} {ts : TA} {x1} {p pos : Pos} (ha : PE X a ta) (h : PA X es ts) (hm : behindInMarks .In (.Tuple es x1 p) = false) : PE X (.Compare a [.In] [.Tuple es x1 p] pos) (tInT false ta ts) := by
  refine ⟨fun pins s σ H Q I hq => ?_⟩
  refine wpAny_Compare1 (thn (ha.run pins s σ H _ I hq) fun v s1 ⟨x, H1, I1, r1, q1⟩ => wpAny_Tuple_spliced (thn (h.run p pins s1 σ H1 _ I1 q1) fun us s2 ⟨xs, H2, I2, r, z, fx, fs, q⟩ => ⟨by rw [← r.length]; exact z, ?_⟩)) hm
  have I3 : Inv X pins σ H2 { s2 with heap := s2.heap.push { cls := .type "tuple", data := .seq us.toArray } } := I2.kept (t' := s2.toks) fun b u e => Heap.get?_push_of_some _ e
  refine SeqAt.in_tupleAt (eqU x) ⟨_, Heap.get?_push_size _ rfl, rfl, _, rfl⟩ (fun w hw => mem_eqAt r1 fx r fs w (by simpa using hw)) ⟨.bl _, H2, I3, rfl, ?_⟩
  rw [show us.toArray.any (eqU x) = us.any (eqU x) by simp, any_eqU r fs]
  exact q
theorem pe_notInT {X : Cx} {a : Expr} {ta : TE} {es : List Expr} {ts : TA} {x1} {p pos : Pos} (ha : PE X a ta) (h : PA X es ts) (hm : behindInMarks .NotIn (.Tuple es x1 p) = false) : PE X (.Compare a [.NotIn] [.Tuple es x1 p] pos) (tInT true ta ts) := by
  refine ⟨fun pins s σ H Q I hq => ?_⟩
  refine wpAny_Compare1 (thn (ha.run pins s σ H _ I hq) fun v s1 ⟨x, H1, I1, r1, q1⟩ => wpAny_Tuple_spliced (thn (h.run p pins s1 σ H1 _ I1 q1) fun us s2 ⟨xs, H2, I2, r, z, fx, fs, q⟩ => ⟨by rw [← r.length]; exact z, ?_⟩)) hm
  have I3 : Inv X pins σ H2 { s2 with heap := s2.heap.push { cls := .type "tuple", data := .seq us.toArray } } := I2.kept (t' := s2.toks) fun b u e => Heap.get?_push_of_some _ e
  refine SeqAt.notIn_tupleAt (eqU x) ⟨_, Heap.get?_push_size _ rfl, rfl, _, rfl⟩ (fun w hw => mem_eqAt r1 fx r fs w (by simpa using hw)) ⟨.bl _, H2, I3, rfl, ?_⟩
  rw [show us.toArray.any (eqU x) = us.any (eqU x) by simp, any_eqU r fs]
  exact q
end L2.Z

namespace L2.Z
open PySem PySem.Spec PyProof.Rows
local macro_rules | `(tactic| walk_at "z") => `(tactic| (try simp only [↓z_var0, ↓z_varS, ↓z_C, ↓z_op, ↓z_un, ↓z_I0, ↓z_I, ↓z_U, ↓z_eqI, ↓z_neI, ↓z_bl, ↓z_test, ↓z_B, ↓z_and, ↓z_or, ↓z_not, ↓z_andV, ↓z_orV, ↓z_notV, ↓z_if, ↓z_ifS, ↓z_seq, ↓z_next, ↓z_ret, ↓z_retN, ↓z_asg, ↓z_gname, ↓z_drop, ↓z_nil, ↓z_cons, ↓z_call, ↓z_CB, ↓z_par, ↓z_pair, ↓z_aug0, ↓z_ipI, ↓z_abs, ↓z_max, ↓z_min, ↓z_int, ↓z_intB, ↓z_gcd, ↓z_tup, ↓z_lst, ↓z_chain, z_some, z_bl, z_pair, decide_eq_true_eq, Bool.not_eq_true', decide_eq_false_iff_not, List.set_cons_zero, List.set_cons_succ, List.getElem?_cons_zero, List.getElem?_cons_succ, Bool.false_eq_true, Bool.true_eq_false, if_true, if_false, ↓reduceIte, ↓z_isN, ↓z_gtup, ↓z_gcons, ↓z_gnil, ↓z_yes, ↓z_wipe0, ↓z_wipeS, ↓z_itup, ↓z_ilist, ↓z_irng1, ↓z_irng2, ↓z_lc, ↓z_lc2, ↓z_izip, ↓z_ient, ↓z_chain3, ↓z_inT, ↓z_par3, z_trip, ↓z_rg1, ↓z_rg2, z_ii, z_i1, ↓z_lstrg, ↓z_disp, ↓z_tp0, ↓z_tpS, ↓z_dnew, ↓z_din, ↓z_tru, ↓z_dget, ↓z_dget2, ↓z_dput, ↓z_cont, ↓z_sl, ↓z_part, ↓z_nopart, ↓z_strI, ↓z_gsub, ↓z_for, true_and, and_true, decide_true, decide_false, not_true_eq_false, not_false_eq_true, ↓z_bm, ↓z_bm0, ↓z_notN, z_dn1, z_dn2, z_dn3, z_dn4, z_dn5, Nat.zero_add, Nat.reduceAdd, Nat.reduceSub, List.replicate_succ, List.replicate_zero, start, List.map_cons, List.map_nil, List.length_cons, List.length_nil, List.cons_append, List.nil_append]))
def top (i : Nat) : Stmt := PySem.Challenge.pw_zeroorone_k01_whole_divisors_and_rests.main.body.getD i (.Pass ⟨0, 0, 0, 0⟩)
abbrev s_is_int : Stmt := top 6
abbrev s_bezout : Stmt := top 8
abbrev s_first_clash : Stmt := top 16
abbrev s_is_below : Stmt := top 7
abbrev s_joint_rest : Stmt := top 17
abbrev s_check_integer : Stmt := top 11
abbrev s_are_pairs : Stmt := top 15
abbrev s_divisor_answer : Stmt := top 14
abbrev s_rests_answer : Stmt := top 18
abbrev s__law_dice : Stmt := top 20
abbrev s__law_roll : Stmt := top 21
abbrev s__law_gcd : Stmt := top 23
abbrev s__law_is_plain : Stmt := top 24
abbrev s__law_pick : Stmt := top 22
abbrev s__law_are_plain : Stmt := top 26
abbrev s__law_against : Stmt := top 29
abbrev s__law_tried : Stmt := top 30
abbrev s__law_integer_drawn : Stmt := top 25
abbrev s__law_pairs_drawn : Stmt := top 28
abbrev s__law_divisor_right : Stmt := top 27
abbrev s__law_rests_right : Stmt := top 31
abbrev s_law : Stmt := top 32
structure Tx (K : PySem.W.Frag) (mg : Str → Option Value) : Prop where
  f_is_int : ∃ fd, FunD K "is_int" "is_int" (defArgs s_is_int) (defBody s_is_int) (defScope s_is_int) [] [] (He.ga K "is_int") fd
  g_is_int : mg "is_int" = some (.ref (He.ga K "is_int"))
  f_bezout : ∃ fd, FunD K "bezout" "bezout" (defArgs s_bezout) (defBody s_bezout) (defScope s_bezout) [] [] (He.ga K "bezout") fd
  g_bezout : mg "bezout" = some (.ref (He.ga K "bezout"))
  f_first_clash : ∃ fd, FunD K "first_clash" "first_clash" (defArgs s_first_clash) (defBody s_first_clash) (defScope s_first_clash) [] [] (He.ga K "first_clash") fd
  g_first_clash : mg "first_clash" = some (.ref (He.ga K "first_clash"))
  f_is_below : ∃ fd, FunD K "is_below" "is_below" (defArgs s_is_below) (defBody s_is_below) (defScope s_is_below) [] [] (He.ga K "is_below") fd
  g_is_below : mg "is_below" = some (.ref (He.ga K "is_below"))
  f_joint_rest : ∃ fd, FunD K "joint_rest" "joint_rest" (defArgs s_joint_rest) (defBody s_joint_rest) (defScope s_joint_rest) [] [] (He.ga K "joint_rest") fd
  g_joint_rest : mg "joint_rest" = some (.ref (He.ga K "joint_rest"))
  f_check_integer : ∃ fd, FunD K "check_integer" "check_integer" (defArgs s_check_integer) (defBody s_check_integer) (defScope s_check_integer) [] [] (He.ga K "check_integer") fd
  g_check_integer : mg "check_integer" = some (.ref (He.ga K "check_integer"))
  f_are_pairs : ∃ fd, FunD K "are_pairs" "are_pairs" (defArgs s_are_pairs) (defBody s_are_pairs) (defScope s_are_pairs) [] [] (He.ga K "are_pairs") fd
  g_are_pairs : mg "are_pairs" = some (.ref (He.ga K "are_pairs"))
  f_divisor_answer : ∃ fd, FunD K "divisor_answer" "divisor_answer" (defArgs s_divisor_answer) (defBody s_divisor_answer) (defScope s_divisor_answer) [] [] (He.ga K "divisor_answer") fd
  g_divisor_answer : mg "divisor_answer" = some (.ref (He.ga K "divisor_answer"))
  f_rests_answer : ∃ fd, FunD K "rests_answer" "rests_answer" (defArgs s_rests_answer) (defBody s_rests_answer) (defScope s_rests_answer) [] [] (He.ga K "rests_answer") fd
  g_rests_answer : mg "rests_answer" = some (.ref (He.ga K "rests_answer"))
  f__law_dice : ∃ fd, FunD K "_law_dice" "_law_dice" (defArgs s__law_dice) (defBody s__law_dice) (defScope s__law_dice) [] [] (He.ga K "_law_dice") fd
  g__law_dice : mg "_law_dice" = some (.ref (He.ga K "_law_dice"))
  f__law_roll : ∃ fd, FunD K "_law_roll" "_law_roll" (defArgs s__law_roll) (defBody s__law_roll) (defScope s__law_roll) [] [] (He.ga K "_law_roll") fd
  g__law_roll : mg "_law_roll" = some (.ref (He.ga K "_law_roll"))
  f__law_gcd : ∃ fd, FunD K "_law_gcd" "_law_gcd" (defArgs s__law_gcd) (defBody s__law_gcd) (defScope s__law_gcd) [] [] (He.ga K "_law_gcd") fd
  g__law_gcd : mg "_law_gcd" = some (.ref (He.ga K "_law_gcd"))
  f__law_is_plain : ∃ fd, FunD K "_law_is_plain" "_law_is_plain" (defArgs s__law_is_plain) (defBody s__law_is_plain) (defScope s__law_is_plain) [] [] (He.ga K "_law_is_plain") fd
  g__law_is_plain : mg "_law_is_plain" = some (.ref (He.ga K "_law_is_plain"))
  f__law_pick : ∃ fd, FunD K "_law_pick" "_law_pick" (defArgs s__law_pick) (defBody s__law_pick) (defScope s__law_pick) [] [] (He.ga K "_law_pick") fd
  g__law_pick : mg "_law_pick" = some (.ref (He.ga K "_law_pick"))
  f__law_are_plain : ∃ fd, FunD K "_law_are_plain" "_law_are_plain" (defArgs s__law_are_plain) (defBody s__law_are_plain) (defScope s__law_are_plain) [] [] (He.ga K "_law_are_plain") fd
  g__law_are_plain : mg "_law_are_plain" = some (.ref (He.ga K "_law_are_plain"))
  f__law_against : ∃ fd, FunD K "_law_against" "_law_against" (defArgs s__law_against) (defBody s__law_against) (defScope s__law_against) [] [] (He.ga K "_law_against") fd
  g__law_against : mg "_law_against" = some (.ref (He.ga K "_law_against"))
  f__law_tried : ∃ fd, FunD K "_law_tried" "_law_tried" (defArgs s__law_tried) (defBody s__law_tried) (defScope s__law_tried) [] [] (He.ga K "_law_tried") fd
  g__law_tried : mg "_law_tried" = some (.ref (He.ga K "_law_tried"))
  f__law_integer_drawn : ∃ fd, FunD K "_law_integer_drawn" "_law_integer_drawn" (defArgs s__law_integer_drawn) (defBody s__law_integer_drawn) (defScope s__law_integer_drawn) [] [] (He.ga K "_law_integer_drawn") fd
  g__law_integer_drawn : mg "_law_integer_drawn" = some (.ref (He.ga K "_law_integer_drawn"))
  f__law_pairs_drawn : ∃ fd, FunD K "_law_pairs_drawn" "_law_pairs_drawn" (defArgs s__law_pairs_drawn) (defBody s__law_pairs_drawn) (defScope s__law_pairs_drawn) [] [] (He.ga K "_law_pairs_drawn") fd
  g__law_pairs_drawn : mg "_law_pairs_drawn" = some (.ref (He.ga K "_law_pairs_drawn"))
  f__law_divisor_right : ∃ fd, FunD K "_law_divisor_right" "_law_divisor_right" (defArgs s__law_divisor_right) (defBody s__law_divisor_right) (defScope s__law_divisor_right) [] [] (He.ga K "_law_divisor_right") fd
  g__law_divisor_right : mg "_law_divisor_right" = some (.ref (He.ga K "_law_divisor_right"))
  f__law_rests_right : ∃ fd, FunD K "_law_rests_right" "_law_rests_right" (defArgs s__law_rests_right) (defBody s__law_rests_right) (defScope s__law_rests_right) [] [] (He.ga K "_law_rests_right") fd
  g__law_rests_right : mg "_law_rests_right" = some (.ref (He.ga K "_law_rests_right"))
  f_law : ∃ fd, FunD K "law" "law" (defArgs s_law) (defBody s_law) (defScope s_law) [] [] (He.ga K "law") fd
  g_law : mg "law" = some (.ref (He.ga K "law"))
  c_SIXTY_DIGITS : ∃ t, mg "SIXTY_DIGITS" = some (.int 1000000000000000000000000000000000000000000000000000000000000 t)
  c_MAX_RESTS : ∃ t, mg "MAX_RESTS" = some (.int 6 t)
  n_abs : mg "abs" = none
  n_bool : mg "bool" = none
  n_enumerate : mg "enumerate" = none
  n_int : mg "int" = none
  n_isinstance : mg "isinstance" = none
  n_len : mg "len" = none
  n_max : mg "max" = none
  n_min : mg "min" = none
  n_range : mg "range" = none
  n_tuple : mg "tuple" = none
  b_gcd : mg "gcd" = some (.builtin "math.gcd")
/-- all that was tracked but at d is as it was -/
def Keep (d : Addr) (H H' : Hp) : Prop := ∀ b o, b ≠ d → H b = some o → H' b = some o
theorem isi_int {K : PySem.W.Frag} {i : Int} {H : Hp} {Q : VK} (q : Q (.bl true) H) : rIsi K [.int i, .ty "int"] H Q :=
  ⟨_, _, _, _, _, rfl, .ty "int", .base (.int i), kit_ty (by decide +kernel), q⟩
theorem isi_intB {K : PySem.W.Frag} {i : Int} {H : Hp} {Q : VK} (q : Q (.bl false) H) : rIsi K [.int i, .ty "bool"] H Q :=
  ⟨_, _, _, _, _, rfl, .ty "bool", .base (.int i), kit_ty (by decide +kernel), q⟩
theorem mulS {i j : Int} (h : -(2 ^ 64) < i ∧ i < 2 ^ 64) : CMul i j ∨ CMulW i j := .inl (.inl h)
theorem mulR {i j : Int} (h : -(2 ^ 64) < j ∧ j < 2 ^ 64) : CMul i j ∨ CMulW i j := .inl (.inr h)
theorem divS {i j : Int} (h : 0 < j) (h2 : j < 2 ^ 64) : CDivW i j := wide_div (b := 64) h (by omega) (by decide) (by decide)
/-- d is the least divisor of n from 2 on -/
def Least (d n : Int) : Prop := 2 ≤ d ∧ d ∣ n ∧ ∀ k, 2 ≤ k → k < d → ¬ k ∣ n
theorem emod_small {a m : Int} (h0 : 0 ≤ a) (h1 : a < m) : a % m = a := Int.emod_eq_of_lt h0 h1
theorem emod_emod' (a m : Int) : a % m % m = a % m := Int.emod_emod_of_dvd a (Int.dvd_refl m)
theorem pow_emod (x m : Int) (k : Nat) : (x % m) ^ k % m = x ^ k % m := by
  induction k with
  | zero => rw [Int.pow_zero, Int.pow_zero]
  | succ k ih => rw [Int.pow_succ, Int.pow_succ, Int.mul_emod, ih, emod_emod', ← Int.mul_emod]
theorem pow_two_mul (b : Int) (e : Nat) : b ^ (2 * e) = (b * b) ^ e := by
  rw [Int.pow_mul, Int.pow_succ, Int.pow_succ, Int.pow_zero, Int.one_mul]
/-! heaps -/
theorem same_new {H H' : Hp} {p : Addr} {o : HO} (s : Same H H') (hn : H' p = none) : Same H (upd H' p o) := fun b u h => by
  rw [upd_ne (ne_of_none (s b u h) hn)]; exact s b u h
theorem same_mut {H H' : Hp} {p : Addr} {o : HO} (s : Same H H') (hn : H p = none) : Same H (upd H' p o) := fun b u h => by
  rw [upd_ne (ne_of_none h hn)]; exact s b u h
theorem same_upd {H : Hp} {p : Addr} {o : HO} (hn : H p = none) : Same H (upd H p o) := same_new (Same.refl H) hn
theorem sqT_of {K : PySem.W.Frag} {H : Hp} {a : Addr} {xs : List V} (h : H a = some (.tup xs)) : SqT K H a xs := .inl (.inl h)
theorem sqL_of {K : PySem.W.Frag} {H : Hp} {a : Addr} {xs : List V} (h : H a = some (.lst xs)) : SqL K H a xs := .inl (.inl h)
/-- references to pairs of numbers -/
def PR (H : Hp) : List V → List (Nat × Nat) → Prop := Paired fun v q => ∃ t, v = V.ref t ∧ H t = some (.tup [.int q.1, .int q.2])
theorem paired_map {α β : Type} {F G : α → β → Prop} : ∀ {l₁ : List α} {l₂ : List β}, Paired F l₁ l₂ → (∀ a b, F a b → G a b) → Paired G l₁ l₂
  | _, _, .nil, _ => .nil
  | _, _, .cons r t, f => .cons (f _ _ r) (paired_map t f)
theorem PR.mono {H H' : Hp} {xs : List V} {ps : List (Nat × Nat)} (r : PR H xs ps) (h : ∀ t ys, H t = some (.tup ys) → H' t = some (.tup ys)) : PR H' xs ps :=
  paired_map r fun _ _ ⟨t, e, q⟩ => ⟨t, e, h t _ q⟩
theorem PR.same {H H' : Hp} {xs : List V} {ps : List (Nat × Nat)} (r : PR H xs ps) (h : Same H H') : PR H' xs ps := r.mono fun t ys q => h t _ q
theorem PR.len {H : Hp} {xs : List V} {ps : List (Nat × Nat)} (r : PR H xs ps) : xs.length = ps.length := Paired.length r
theorem PR.get {H : Hp} : ∀ {xs : List V} {ps : List (Nat × Nat)}, PR H xs ps → ∀ {i : Nat} {x : V}, xs[i]? = some x → ∃ q t, ps[i]? = some q ∧ x = V.ref t ∧ H t = some (.tup [.int (q.1 : Int), .int (q.2 : Int)])
  | _, _, .nil, i, x, e => by simp at e
  | _, _, .cons (b := b) ⟨t, e1, h⟩ r, 0, x, e => by
    simp at e
    subst e
    exact ⟨b, t, rfl, e1, h⟩
  | _, _, .cons _ r, i + 1, x, e => by
    obtain ⟨q, t, h1, h2, h3⟩ := PR.get r (i := i) (x := x) (by simpa using e)
    exact ⟨q, t, by simpa using h1, h2, h3⟩
def PrimeI (n : Int) : Prop := 2 ≤ n ∧ ∀ k, 2 ≤ k → k < n → ¬ k ∣ n

/-! sizes -/
def Sz (n : Nat) (x : Int) : Prop := x.natAbs < 2 ^ n
theorem sz_le {n : Nat} {x y : Int} (h : Sz n x) (h2 : y.natAbs ≤ x.natAbs) : Sz n y := Nat.lt_of_le_of_lt h2 h
theorem sz_mono {n m : Nat} {x : Int} (h : Sz n x) (hm : n ≤ m) : Sz m x := Nat.lt_of_lt_of_le h (Nat.pow_le_pow_right (by decide) hm)
theorem sz_mul {a b : Nat} {x y : Int} (h : Sz a x) (h2 : Sz b y) : Sz (a + b) (x * y) := by
  unfold Sz at *
  rw [Int.natAbs_mul, Nat.pow_add]
  exact Nat.lt_of_le_of_lt (Nat.mul_le_mul_right _ (Nat.le_of_lt h)) (Nat.mul_lt_mul_of_pos_left h2 (Nat.pow_pos (by decide)))
theorem sz_add {n : Nat} {x y : Int} (h : Sz n x) (h2 : Sz n y) : Sz (n + 1) (x + y) := by
  unfold Sz at *
  rw [Nat.pow_succ]
  omega
theorem sz_sub {n : Nat} {x y : Int} (h : Sz n x) (h2 : Sz n y) : Sz (n + 1) (x - y) := by
  unfold Sz at *
  rw [Nat.pow_succ]
  omega
theorem mulW {i j : Int} {a b : Nat} (h1 : Sz a i) (h2 : Sz b j) (h3 : 0 < a) (h4 : 0 < b) (h5 : a + b ≤ 1000000) : CMul i j ∨ CMulW i j := .inr (wide_mul h1 h2 h3 h4 h5)
def S60 (x : Int) : Prop := -(10 ^ 60) < x ∧ x < 10 ^ 60
theorem S60.sz {x : Int} (h : S60 x) : Sz 250 x := by
  have := h.1
  have := h.2
  unfold Sz
  omega
theorem div_le {R T : Int} (h : 0 < T) : (R / T).natAbs ≤ R.natAbs := by
  by_cases h0 : 0 ≤ R
  · have := Int.ediv_nonneg h0 (show 0 ≤ T by omega)
    have := Int.ediv_le_self T h0
    omega
  · have h3 : R ≤ R / T := Int.le_ediv_of_mul_le h (by
      have : R * T ≤ R * 1 := Int.mul_le_mul_of_nonpos_left (by omega) (by omega)
      omega)
    have h4 : R / T < 0 := Int.ediv_lt_of_lt_mul h (by omega)
    omega
theorem fz (r t : Int) (h : t < 0) : r.fdiv t = (-r) / (-t) := by
  rw [Int.fdiv_eq_ediv, Int.ediv_neg, Int.neg_ediv]
  by_cases h3 : t ∣ r
  · rw [if_pos (.inr h3), if_pos h3]; omega
  · rw [if_neg (fun c => c.elim (fun c => by omega) h3), if_neg h3, Int.sign_eq_neg_one_of_neg h]
    omega
theorem fzo {o r t : Int} (ho : o = 1 ∨ o = -1) (h : 0 ≤ o * t) (h0 : t ≠ 0) : r.fdiv t = (o * r) / (o * t) := by
  rcases ho with rfl | rfl
  · rw [Int.one_mul, Int.one_mul] at *
    exact Int.fdiv_eq_ediv_of_nonneg _ h
  · rw [Int.neg_mul, Int.neg_mul, Int.one_mul, Int.one_mul] at *
    exact fz r t (by omega)
theorem ndvd {d : Nat} {z : Int} : ((d : Nat) : Int) ∣ z ↔ d ∣ z.natAbs := (Int.dvd_natAbs.symm).trans Int.natCast_dvd_natCast
theorem gcd_step (r t q : Int) : Nat.gcd t.natAbs (r - q * t).natAbs = Nat.gcd r.natAbs t.natAbs := by
  have key : ∀ d : Nat, d ∣ t.natAbs → (d ∣ (r - q * t).natAbs ↔ d ∣ r.natAbs) := fun d h => by
    rw [← ndvd] at h
    rw [← ndvd, ← ndvd]
    have h2 : (d : Int) ∣ q * t := Int.dvd_trans h (Int.dvd_mul_left q t)
    constructor
    · intro h3
      have := Int.dvd_add h3 h2
      rwa [Int.sub_add_cancel] at this
    · intro h3
      exact Int.dvd_sub h3 h2
  refine Nat.dvd_antisymm (Nat.dvd_gcd ?_ (Nat.gcd_dvd_left _ _)) (Nat.dvd_gcd (Nat.gcd_dvd_right _ _) ?_)
  · exact (key _ (Nat.gcd_dvd_left _ _)).mp (Nat.gcd_dvd_right _ _)
  · exact (key _ (Nat.gcd_dvd_right _ _)).mpr (Nat.gcd_dvd_left _ _)
/-! the walk of dividing, for integers of any sign; o is the sign of the second one -/
structure Bs (a b o : Int) (r t u x v y s : Int) : Prop where
  o1 : o = 1 ∨ o = -1
  t0 : 0 ≤ o * t
  r0 : 0 ≤ o * r ∨ x = 0
  g : Nat.gcd r.natAbs t.natAbs = Nat.gcd a.natAbs b.natAbs
  e1 : a * u + b * v = r
  e2 : a * x + b * y = t
  sg : s = 1 ∨ s = -1
  u0 : 0 ≤ s * u
  x0 : 0 ≤ -(s * x)
  k : o * r * -(s * x) + o * t * (s * u) = o * b
theorem o_abs {o x : Int} (h : o = 1 ∨ o = -1) : (o * x).natAbs = x.natAbs := by rcases h with e | e <;> rw [e] <;> simp
theorem Bs.rest {a b o r t u x v y s : Int} (h : Bs a b o r t u x v y s) (ht : t ≠ 0) : o * (r - (o * r) / (o * t) * t) = (o * r) % (o * t) ∧ 0 < o * t := by
  have hp : 0 < o * t := by
    have h1 := h.t0
    have h2 := o_abs (x := t) h.o1
    omega
  refine ⟨?_, hp⟩
  have := Int.emod_def (o * r) (o * t)
  rw [this, Int.mul_sub, Int.mul_left_comm, Int.mul_comm ((o * r) / (o * t))]
theorem Bs.step {a b o r t u x v y s : Int} (h : Bs a b o r t u x v y s) (ht : t ≠ 0) : Bs a b o t (r - (o * r) / (o * t) * t) x (u - (o * r) / (o * t) * x) y (v - (o * r) / (o * t) * y) (-s) := by
  obtain ⟨er, hp⟩ := h.rest ht
  refine ⟨h.o1, by rw [er]; exact Int.emod_nonneg _ (by omega), .inl (by omega), by rw [gcd_step, h.g], h.e2, ?_, by rcases h.sg with e | e <;> rw [e] <;> decide, ?_, ?_, ?_⟩
  · have h1 := h.e1
    have h2 := h.e2
    generalize (o * r) / (o * t) = q at *
    rw [← h1, ← h2, Int.mul_sub, Int.mul_sub, Int.mul_add, Int.mul_left_comm a q x, Int.mul_left_comm b q y]
    omega
  · have := h.x0
    rw [Int.neg_mul]
    exact this
  · have h1 := h.u0
    have hx := h.x0
    have h2 : 0 ≤ (o * r) / (o * t) * -(s * x) := by
      rcases h.r0 with h0 | h0
      · exact Int.mul_nonneg (Int.ediv_nonneg h0 h.t0) hx
      · rw [h0, Int.mul_zero, Int.neg_zero, Int.mul_zero]
        exact Int.le_refl 0
    generalize (o * r) / (o * t) = q at *
    have e : -(-s * (u - q * x)) = s * u + q * -(s * x) := by
      rw [Int.neg_mul, Int.neg_neg, Int.mul_sub, Int.mul_neg, Int.mul_left_comm s q x]
      omega
    rw [e]
    omega
  · have hk := h.k
    have hr : o * (r - (o * r) / (o * t) * t) = o * r - (o * r) / (o * t) * (o * t) := by rw [Int.mul_sub, Int.mul_left_comm]
    rw [hr]
    generalize (o * r) / (o * t) = q at *
    have e : -(-s * (u - q * x)) = s * u + q * -(s * x) := by
      rw [Int.neg_mul, Int.neg_neg, Int.mul_sub, Int.mul_neg, Int.mul_left_comm s q x]
      omega
    have e3 : -s * x = -(s * x) := Int.neg_mul s x
    rw [e, e3]
    generalize -(s * x) = X at *
    generalize s * u = U at *
    generalize o * r = R at *
    generalize o * t = T at *
    rw [← hk, Int.mul_add, Int.sub_mul, Int.mul_left_comm T q X, Int.mul_assoc q T X]
    omega
theorem le_mulI {x y z : Int} (h : 0 ≤ x) (h1 : 1 ≤ y) (h2 : x * y ≤ z) : x ≤ z := by
  have := Int.mul_le_mul_of_nonneg_left h1 h
  omega
def dvS : PySem.Str := PySem.Str.ofString "divisor"
/-- the common divisor, as an integer -/
def gI (a b : Int) : Int := ((Nat.gcd a.natAbs b.natAbs : Nat) : Int)
theorem gI_le {a b : Int} (sa : S60 a) (sb : S60 b) : 0 ≤ gI a b ∧ gI a b < 10 ^ 60 := by
  unfold gI
  refine ⟨by omega, ?_⟩
  have h1 := sa.1
  have h2 := sa.2
  have h3 := sb.1
  have h4 := sb.2
  by_cases c : a = 0
  · rw [c, Int.natAbs_zero, Nat.gcd_zero_left]
    omega
  · have := Nat.gcd_le_left b.natAbs (show 0 < a.natAbs by omega)
    omega
def PQ (H : Hp) : List V → List (Int × Int) → Prop := Paired fun v q => ∃ t, v = V.ref t ∧ H t = some (.tup [.int q.1, .int q.2])
theorem PQ.same {H H' : Hp} {xs : List V} {ps : List (Int × Int)} (r : PQ H xs ps) (h : Same H H') : PQ H' xs ps := paired_map r fun _ _ ⟨t, e, q⟩ => ⟨t, e, h t _ q⟩
theorem PQ.len {H : Hp} {xs : List V} {ps : List (Int × Int)} (r : PQ H xs ps) : xs.length = ps.length := Paired.length r
theorem PQ.get {H : Hp} : ∀ {xs : List V} {ps : List (Int × Int)}, PQ H xs ps → ∀ {i : Nat} {x : V}, xs[i]? = some x → ∃ q t, ps[i]? = some q ∧ x = V.ref t ∧ H t = some (.tup [.int q.1, .int q.2])
  | _, _, .nil, i, x, e => by simp at e
  | _, _, .cons (b := b) ⟨t, e1, h⟩ r, 0, x, e => by
    simp at e
    subst e
    exact ⟨b, t, rfl, e1, h⟩
  | _, _, .cons _ r, i + 1, x, e => by
    obtain ⟨q, t, h1, h2, h3⟩ := PQ.get r (i := i) (x := x) (by simpa using e)
    exact ⟨q, t, by simpa using h1, h2, h3⟩
theorem PQ.at {H : Hp} {xs : List V} {ps : List (Int × Int)} (r : PQ H xs ps) {i : Nat} (hi : i < ps.length) : ∃ t, xs[i]? = some (V.ref t) ∧ H t = some (.tup [.int ps[i].1, .int ps[i].2]) := by
  have hx : i < xs.length := by rw [r.len]; exact hi
  obtain ⟨q, t, h1, h2, h3⟩ := r.get (List.getElem?_eq_getElem hx)
  rw [List.getElem?_eq_getElem hi] at h1
  cases h1
  exact ⟨t, by rw [List.getElem?_eq_getElem hx, h2], h3⟩
def PsOk (ps : List (Int × Int)) : Prop := 1 ≤ ps.length ∧ ps.length ≤ 6 ∧ ∀ p ∈ ps, 1 ≤ p.1 ∧ p.1 < 10 ^ 60 ∧ S60 p.2
theorem isi_tup {K : PySem.W.Frag} {a : Addr} {xs : List V} {H : Hp} {Q : VK} (h : H a = some (.tup xs)) (q : Q (.bl true) H) : rIsi K [.ref a, .ty "tuple"] H Q :=
  ⟨_, _, _, _, _, rfl, .ty "tuple", .base (.tup h), kit_ty (show kitB "tuple" "tuple" = some true by decide +kernel), q⟩
theorem atI_nat2 {α : Type} {xs : List α} {i : Nat} {x : α} (h : xs[i]? = some x) : atI xs (i : Int) = some x := by
  have hl := (List.getElem?_eq_some_iff.mp h).1
  unfold atI ixN
  rw [if_pos (by omega), if_pos (by omega)]
  exact h
theorem strOk_of (s : String) : PyData.strOk (PySem.Str.ofString s) = true := by
  have e : s.toByteArray.data.toList = s.toList.flatMap String.utf8EncodeChar := by
    have h : ∀ l : List Char, (String.ofList l).toByteArray.data.toList = l.flatMap String.utf8EncodeChar := by
      intro l
      simp [String.toByteArray_ofList, List.utf8Encode]
    have := h s.toList
    rwa [String.ofList_toList] at this
  unfold PyData.strOk PySem.Str.ofString
  rw [e, PySem.cpsOfBytes_chars]
  simp only [List.all_toArray, List.all_map, List.all_eq_true, Function.comp, decide_eq_true_eq]
  intro c _
  have := c.valid
  have h : c.val.toNat < 1114112 := by
    rcases this with h | ⟨_, h⟩ <;> omega
  exact h
theorem outL_get {α : Type} (l : List α) (f : α → V) {n : Nat} (hn : n = l.length) : outL (fun i => (l[i]?).map f) n = l.map f := by
  subst hn
  unfold outL
  apply List.ext_getElem?
  intro i
  have h : ∀ m, m ≤ l.length → (List.range m).filterMap (fun i => (l[i]?).map f) = (l.take m).map f := by
    intro m
    induction m with
    | zero => intro _; rfl
    | succ m ih =>
      intro hm
      rw [List.range_succ, List.filterMap_append, ih (by omega), List.take_succ_eq_append_getElem (by omega), List.map_append]
      simp [List.getElem?_eq_getElem (show m < l.length by omega)]
  rw [h _ (Nat.le_refl _), List.take_length]

/-! rests that agree, and the one integer for them -/
def NoClash (ps : List (Int × Int)) : Prop := ∀ (i j : Nat) (p q : Int × Int), ps[i]? = some p → ps[j]? = some q → i < j → ((Nat.gcd p.1.natAbs q.1.natAbs : Nat) : Int) ∣ p.2 - q.2
def Sol (ps : List (Int × Int)) (x : Int) : Prop := ∀ p ∈ ps, p.1 ∣ x - p.2
theorem gcd_lcm_dvd {A B m z : Nat} (h1 : Nat.gcd A m ∣ z) (h2 : Nat.gcd B m ∣ z) : Nat.gcd (Nat.lcm A B) m ∣ z := by
  generalize hh : Nat.gcd (Nat.lcm A B) m = h
  have hm : h ∣ m := by rw [← hh]; exact Nat.gcd_dvd_right _ _
  have hl : h ∣ Nat.lcm A B := by rw [← hh]; exact Nat.gcd_dvd_left _ _
  have z1 : Nat.gcd A h ∣ z := Nat.dvd_trans (Nat.dvd_gcd (Nat.gcd_dvd_left _ _) (Nat.dvd_trans (Nat.gcd_dvd_right _ _) hm)) h1
  have z2 : Nat.gcd B h ∣ z := Nat.dvd_trans (Nat.dvd_gcd (Nat.gcd_dvd_left _ _) (Nat.dvd_trans (Nat.gcd_dvd_right _ _) hm)) h2
  have zl : Nat.lcm (Nat.gcd A h) (Nat.gcd B h) ∣ z := Nat.lcm_dvd z1 z2
  refine Nat.dvd_trans ?_ zl
  by_cases h0 : h = 0
  · have e1 : Nat.lcm A B = 0 := by rw [h0] at hl; exact Nat.eq_zero_of_zero_dvd hl
    subst h0
    rw [Nat.gcd_zero_right, Nat.gcd_zero_right, e1]
    exact Nat.dvd_refl 0
  have g0 : 0 < Nat.gcd (Nat.gcd A h) (Nat.gcd B h) := Nat.gcd_pos_of_pos_left _ (Nat.gcd_pos_of_pos_right _ (Nat.pos_of_ne_zero h0))
  refine Nat.dvd_of_mul_dvd_mul_left g0 ?_
  rw [Nat.gcd_mul_lcm]
  have d0 : Nat.gcd (Nat.gcd A h) (Nat.gcd B h) ∣ Nat.gcd A B := Nat.dvd_gcd (Nat.dvd_trans (Nat.gcd_dvd_left _ _) (Nat.gcd_dvd_left _ _)) (Nat.dvd_trans (Nat.gcd_dvd_right _ _) (Nat.gcd_dvd_left _ _))
  have dA : Nat.gcd (Nat.gcd A h) (Nat.gcd B h) ∣ A := Nat.dvd_trans d0 (Nat.gcd_dvd_left _ _)
  have dB : Nat.gcd (Nat.gcd A h) (Nat.gcd B h) ∣ B := Nat.dvd_trans d0 (Nat.gcd_dvd_right _ _)
  have dh : Nat.gcd (Nat.gcd A h) (Nat.gcd B h) ∣ h := Nat.dvd_trans (Nat.gcd_dvd_left _ _) (Nat.gcd_dvd_right _ _)
  have e : Nat.gcd A h * Nat.gcd B h = Nat.gcd (Nat.gcd (A * B) (h * B)) (Nat.gcd (A * h) (h * h)) := by
    rw [Nat.gcd_mul_right, Nat.gcd_mul_right, Nat.gcd_mul_left]
  rw [e]
  refine Nat.dvd_gcd (Nat.dvd_gcd ?_ ?_) (Nat.dvd_gcd ?_ ?_)
  · rw [← Nat.gcd_mul_lcm A B]
    exact Nat.mul_dvd_mul d0 hl
  · rw [Nat.mul_comm]
    exact Nat.mul_dvd_mul (Nat.dvd_refl h) dB
  · exact Nat.mul_dvd_mul dA (Nat.dvd_refl h)
  · exact Nat.mul_dvd_mul dh (Nat.dvd_refl h)
def lcmL (ps : List (Int × Int)) : Nat := ps.foldl (fun m p => Nat.lcm m p.1.natAbs) 1
theorem lcmL_snoc (r : List (Int × Int)) (p : Int × Int) : lcmL (r ++ [p]) = Nat.lcm (lcmL r) p.1.natAbs := by
  unfold lcmL
  rw [List.foldl_append]
  rfl
theorem dvd_lcmL : ∀ (n : Nat) (ps : List (Int × Int)), ps.length = n → ∀ p ∈ ps, p.1.natAbs ∣ lcmL ps
  | 0, ps, hl, p, hp => by
    obtain rfl := List.eq_nil_of_length_eq_zero hl
    cases hp
  | n + 1, ps, hl, p, hp => by
    rcases List.eq_nil_or_concat ps with rfl | ⟨r, x, rfl⟩
    · cases hp
    rw [List.concat_eq_append] at *
    rw [lcmL_snoc]
    rcases List.mem_append.mp hp with h | h
    · exact Nat.dvd_trans (dvd_lcmL n r (by simpa using hl) p h) (Nat.dvd_lcm_left _ _)
    · rw [List.mem_singleton] at h
      rw [h]
      exact Nat.dvd_lcm_right _ _
theorem lcmL_dvd : ∀ (n : Nat) (ps : List (Int × Int)) (z : Nat), ps.length = n → (∀ p ∈ ps, p.1.natAbs ∣ z) → lcmL ps ∣ z
  | 0, ps, z, hl, h => by
    obtain rfl := List.eq_nil_of_length_eq_zero hl
    exact Nat.one_dvd z
  | n + 1, ps, z, hl, h => by
    rcases List.eq_nil_or_concat ps with rfl | ⟨r, x, rfl⟩
    · exact Nat.one_dvd z
    rw [List.concat_eq_append] at *
    rw [lcmL_snoc]
    exact Nat.lcm_dvd (lcmL_dvd n r z (by simpa using hl) fun p hp => h p (List.mem_append_left _ hp)) (h x (by simp))
theorem gcd_lcmL : ∀ (n : Nat) (ps : List (Int × Int)) (m z : Nat), ps.length = n → (∀ p ∈ ps, Nat.gcd p.1.natAbs m ∣ z) → Nat.gcd (lcmL ps) m ∣ z
  | 0, ps, m, z, hl, h => by
    obtain rfl := List.eq_nil_of_length_eq_zero hl
    show Nat.gcd 1 m ∣ z
    rw [Nat.gcd_one_left]
    exact Nat.one_dvd z
  | n + 1, ps, m, z, hl, h => by
    rcases List.eq_nil_or_concat ps with rfl | ⟨r, x, rfl⟩
    · show Nat.gcd 1 m ∣ z
      rw [Nat.gcd_one_left]
      exact Nat.one_dvd z
    rw [List.concat_eq_append] at *
    rw [lcmL_snoc]
    exact gcd_lcm_dvd (gcd_lcmL n r m z (by simpa using hl) fun p hp => h p (List.mem_append_left _ hp)) (h x (by simp))
theorem lcmL_pos : ∀ (n : Nat) (ps : List (Int × Int)), ps.length = n → (∀ p ∈ ps, 1 ≤ p.1) → 0 < lcmL ps
  | 0, ps, hl, h => by
    obtain rfl := List.eq_nil_of_length_eq_zero hl
    exact Nat.one_pos
  | n + 1, ps, hl, h => by
    rcases List.eq_nil_or_concat ps with rfl | ⟨r, x, rfl⟩
    · exact Nat.one_pos
    rw [List.concat_eq_append] at *
    rw [lcmL_snoc]
    exact Nat.lcm_pos (lcmL_pos n r (by simpa using hl) fun p hp => h p (List.mem_append_left _ hp)) (by have := h x (by simp); omega)
/-- what stands for the earlier pairs and agrees with the next one by the common divisor -/
theorem joint_dvd {r : List (Int × Int)} {p : Int × Int} {x : Int} (hn : NoClash (r ++ [p])) (hs : Sol r x) : ((Nat.gcd (lcmL r) p.1.natAbs : Nat) : Int) ∣ p.2 - x := by
  rw [ndvd]
  refine gcd_lcmL _ r _ _ rfl fun q hq => ?_
  obtain ⟨i, hi, e⟩ := List.getElem_of_mem hq
  have h1 : (r ++ [p])[i]? = some q := by rw [List.getElem?_append_left hi, ← e]; exact List.getElem?_eq_getElem hi
  have h2 : (r ++ [p])[r.length]? = some p := by simp
  have h3 := hn i r.length q p h1 h2 hi
  rw [← ndvd]
  have h4 : ((Nat.gcd q.1.natAbs p.1.natAbs : Nat) : Int) ∣ x - q.2 := Int.dvd_trans (by
    rw [ndvd]; exact Nat.gcd_dvd_left _ _) (hs q hq)
  have h5 := Int.dvd_add h4 h3
  have e2 : p.2 - x = -(x - q.2 + (q.2 - p.2)) := by omega
  rw [e2]
  exact Int.dvd_neg.mpr h5
theorem NoClash.take {r s : List (Int × Int)} (h : NoClash (r ++ s)) : NoClash r := fun i j p q hi hj hij =>
  h i j p q (by rw [List.getElem?_append_left (List.getElem?_eq_some_iff.mp hi).1]; exact hi) (by rw [List.getElem?_append_left (List.getElem?_eq_some_iff.mp hj).1]; exact hj) hij
theorem bezN : ∀ a b : Nat, ∃ u v : Int, (a : Int) * u + b * v = (Nat.gcd a b : Nat) := by
  intro a b
  induction a, b using Nat.gcd.induction with
  | H0 n => exact ⟨0, 1, by simp⟩
  | H1 m n hm ih =>
    obtain ⟨u, v, e⟩ := ih
    refine ⟨v - (n / m : Nat) * u, u, ?_⟩
    rw [Nat.gcd_rec, ← e]
    have h := Nat.div_add_mod n m
    have h2 : (n : Int) = m * (n / m : Nat) + (n % m : Nat) := by rw [← Int.natCast_mul, ← Int.natCast_add, h]
    generalize ((n / m : Nat) : Int) = q at *
    generalize ((n % m : Nat) : Int) = w at *
    rw [h2, Int.mul_sub, Int.add_mul, Int.mul_assoc]
    omega
/-- putting the next pair to them -/
theorem joint_step {r : List (Int × Int)} {p : Int × Int} {x u v : Int} (hp : 1 ≤ p.1) (hs : Sol r x) (hd : ((Nat.gcd (lcmL r) p.1.natAbs : Nat) : Int) ∣ p.2 - x)
    (hb : ((lcmL r : Nat) : Int) * u + p.1 * v = ((Nat.gcd (lcmL r) p.1.natAbs : Nat) : Int)) : Sol (r ++ [p]) (x + ((lcmL r : Nat) : Int) * u * ((p.2 - x) / ((Nat.gcd (lcmL r) p.1.natAbs : Nat) : Int))) := by
  have e := Int.mul_ediv_cancel' hd
  generalize (p.2 - x) / ((Nat.gcd (lcmL r) p.1.natAbs : Nat) : Int) = w at *
  intro q hq
  rcases List.mem_append.mp hq with h | h
  · have h1 := hs q h
    have h2 : q.1 ∣ ((lcmL r : Nat) : Int) := Int.natAbs_dvd.mp (by rw [Int.natCast_dvd_natCast]; exact dvd_lcmL _ r rfl q h)
    have h3 : q.1 ∣ ((lcmL r : Nat) : Int) * u * w := Int.dvd_trans h2 (by rw [Int.mul_assoc]; exact Int.dvd_mul_right _ _)
    have := Int.dvd_add h1 h3
    rwa [show x - q.2 + ((lcmL r : Nat) : Int) * u * w = x + ((lcmL r : Nat) : Int) * u * w - q.2 by omega] at this
  · rw [List.mem_singleton] at h
    subst h
    have h2 : x + ((lcmL r : Nat) : Int) * u * w - q.2 = -(q.1 * (v * w)) := by
      rw [← hb, Int.add_mul, Int.mul_assoc q.1 v w] at e
      omega
    rw [h2]
    exact Int.dvd_neg.mpr (Int.dvd_mul_right _ _)
theorem Sol.mod {ps : List (Int × Int)} {x : Int} (h : Sol ps x) : Sol ps (x % ((lcmL ps : Nat) : Int)) := fun p hp => by
  have h2 : p.1 ∣ ((lcmL ps : Nat) : Int) := Int.natAbs_dvd.mp (by rw [Int.natCast_dvd_natCast]; exact dvd_lcmL _ ps rfl p hp)
  have e := Int.emod_def x ((lcmL ps : Nat) : Int)
  rw [e, show x - ((lcmL ps : Nat) : Int) * (x / ((lcmL ps : Nat) : Int)) - p.2 = (x - p.2) - ((lcmL ps : Nat) : Int) * (x / ((lcmL ps : Nat) : Int)) by omega]
  exact Int.dvd_sub (h p hp) (Int.dvd_trans h2 (Int.dvd_mul_right _ _))
theorem sol_noclash {ps : List (Int × Int)} {x : Int} (h : Sol ps x) : NoClash ps := fun i j p q hi hj _ => by
  have h1 := h p (List.mem_of_getElem? hi)
  have h2 := h q (List.mem_of_getElem? hj)
  have d1 : ((Nat.gcd p.1.natAbs q.1.natAbs : Nat) : Int) ∣ x - p.2 := Int.dvd_trans (by rw [ndvd]; exact Nat.gcd_dvd_left _ _) h1
  have d2 : ((Nat.gcd p.1.natAbs q.1.natAbs : Nat) : Int) ∣ x - q.2 := Int.dvd_trans (by rw [ndvd]; exact Nat.gcd_dvd_right _ _) h2
  have := Int.dvd_sub d2 d1
  rwa [show x - q.2 - (x - p.2) = p.2 - q.2 by omega] at this
theorem noclash_sol : ∀ (n : Nat) (ps : List (Int × Int)), ps.length = n → (∀ p ∈ ps, 1 ≤ p.1) → NoClash ps → ∃ x, Sol ps x
  | 0, ps, hl, _, _ => by
    obtain rfl := List.eq_nil_of_length_eq_zero hl
    exact ⟨0, fun p hp => by cases hp⟩
  | n + 1, ps, hl, h, hn => by
    rcases List.eq_nil_or_concat ps with rfl | ⟨r, x, rfl⟩
    · exact ⟨0, fun p hp => by cases hp⟩
    rw [List.concat_eq_append] at *
    obtain ⟨y, hy⟩ := noclash_sol n r (by simpa using hl) (fun p hp => h p (List.mem_append_left _ hp)) hn.take
    have hx := h x (by simp)
    obtain ⟨u, v, e⟩ := bezN (lcmL r) x.1.natAbs
    rw [show ((x.1.natAbs : Nat) : Int) = x.1 by omega] at e
    exact ⟨_, joint_step hx hy (joint_dvd hn hy) e⟩
/-- whether there is one is told by those below the common multiple -/
theorem sol_small {ps : List (Int × Int)} (h : ∀ p ∈ ps, 1 ≤ p.1) : NoClash ps ↔ ∃ i : Nat, i < lcmL ps ∧ Sol ps (i : Int) := by
  constructor
  · intro hn
    obtain ⟨x, hx⟩ := noclash_sol _ ps rfl h hn
    have hp := lcmL_pos _ ps rfl h
    have h0 := Int.emod_nonneg x (show ((lcmL ps : Nat) : Int) ≠ 0 by omega)
    have h1 := Int.emod_lt_of_pos x (show (0 : Int) < ((lcmL ps : Nat) : Int) by omega)
    refine ⟨(x % ((lcmL ps : Nat) : Int)).toNat, by omega, ?_⟩
    rw [Int.toNat_of_nonneg h0]
    exact hx.mod
  · rintro ⟨i, _, hi⟩
    exact sol_noclash hi

/-! ### is_int -/
theorem sc_is_int : FnScope ["value"] ["value"] (defScope s_is_int) := ⟨rfl, rfl, rfl, by decide +kernel, rfl, by decide +kernel, by decide +kernel⟩
def sp_is_int (K : PySem.W.Frag) : Sp := fun vs H Q _ => ∃ i : Int, vs = [.int i] ∧ Q (.bl true) H
theorem len_is_int {K : PySem.W.Frag} {vs : List V} {H : Hp} {Q : VK} {E : XK} (h : sp_is_int K vs H Q E) : vs.length = ["value"].length := by
  obtain ⟨_, rfl, _⟩ := h
  rfl
def t_is_int (K : PySem.W.Frag) : TS := (tRet (tAndV (tCB (rIsi K) (tCons (tVar 0) (tCons (tC (.ty "int")) tNil))) (tNotV (tCB (rIsi K) (tCons (tVar 0) (tCons (tC (.ty "bool")) tNil))))))
theorem pure_is_int (K : PySem.W.Frag) (vs : List V) (H : Hp) (Q : VK) (E : XK) (h : sp_is_int K vs H Q E) : t_is_int K { nx := fun _ H' => Q .non H', rt := Q } (start ["value"] vs) H := by
  obtain ⟨i, rfl, hq⟩ := h
  unfold t_is_int
  walk_at "z"
  refine isi_int ?_
  walk_at "z"
  refine isi_intB ?_
  walk_at "z"
  exact hq
theorem ok_is_int {P : Program} {w : World} {K : PySem.W.Frag} {mg : Str → Option Value} {base : Heap} (T : Tx K mg) : Okk P w K mg base 1 "is_int" ["value"] (sp_is_int K) := by
  have hf_bool := T.n_bool
  have hf_int := T.n_int
  have hf_isinstance := T.n_isinstance
  obtain ⟨fd, F⟩ := T.f_is_int
  refine ⟨fd, F.ok sc_is_int (fun vs H Q E h => len_is_int h) (fun cdv A outer s H vs Q E hr h => ⟨t_is_int K, PSs.nox ?_, pure_is_int K vs H Q E h⟩), F.bindsN (fun _ _ _ _ _ _ us hl => match us, hl with | [_], _ => rfl), T.g_is_int, F.kp⟩
  exact (pss_one (ps_ret (pe_and (pe_callB call_isi (by rfl) hf_isinstance (by decide +kernel) (pa_cons (pv 0) (pa_cons (pe_bltn (v := .ty "int") rfl hf_int (by decide +kernel) rfl) pa_nil))) (pe_one (pe_not (pe_callB call_isi (by rfl) hf_isinstance (by decide +kernel) (pa_cons (pv 0) (pa_cons (pe_bltn (v := .ty "bool") rfl hf_bool (by decide +kernel) rfl) pa_nil))))))))
/-! ### bezout -/
theorem sc_bezout : FnScope ["one", "other", "rest", "after", "u", "later_u", "v", "later_v", "often"] ["one", "other"] (defScope s_bezout) := ⟨rfl, rfl, rfl, by decide +kernel, rfl, by decide +kernel, by decide +kernel⟩
def sp_bezout (K : PySem.W.Frag) : Sp := fun vs H Q _ => ∃ a b : Int, vs = [.int a, .int b] ∧ Sz 2000 a ∧ Sz 2000 b ∧ ∀ p u v H', Same H H' → a * u + b * v = ((Nat.gcd a.natAbs b.natAbs : Nat) : Int) → Sz 2000 u → Sz 4001 v → H' p = some (.tup [.int ((Nat.gcd a.natAbs b.natAbs : Nat) : Int), .int u, .int v]) → Q (.ref p) H'
theorem len_bezout {K : PySem.W.Frag} {vs : List V} {H : Hp} {Q : VK} {E : XK} (h : sp_bezout K vs H Q E) : vs.length = ["one", "other"].length := by
  obtain ⟨_, _, rfl, _⟩ := h
  rfl
def t_bezout_w1_c (K : PySem.W.Frag) : TT := (tTest (tOp rNe (tVar 3) (tC (.int 0))))
def t_bezout_w1_b (K : PySem.W.Frag) : TS := (tSeq (tAsg (tOp rDivZ (tVar 2) (tVar 3)) (gName 8))
  (tSeq (tPar 2 3 (tCons (tVar 3) (tCons (tOp rSub (tVar 2) (tOp rMulU (tVar 8) (tVar 3))) tNil)))
  (tSeq (tPar 4 5 (tCons (tVar 5) (tCons (tOp rSub (tVar 4) (tOp rMulU (tVar 8) (tVar 5))) tNil)))
  (tPar 6 7 (tCons (tVar 7) (tCons (tOp rSub (tVar 6) (tOp rMulU (tVar 8) (tVar 7))) tNil))))))
def t_bezout (K : PySem.W.Frag) : TS := (tSeq (tPar 2 3 (tCons (tVar 0) (tCons (tVar 1) tNil)))
  (tSeq (tAsg (tTup (tCons (tC (.int 1)) (tCons (tC (.int 0)) tNil))) (gTup K 2 (gCons (gName 4) (gCons (gName 5) gNil))))
  (tSeq (tAsg (tTup (tCons (tC (.int 0)) (tCons (tC (.int 1)) tNil))) (gTup K 2 (gCons (gName 6) (gCons (gName 7) gNil))))
  (tSeq (tWhile (t_bezout_w1_c K) (t_bezout_w1_b K))
  (tSeq (tIfS (tTest (tOp rLtI (tVar 2) (tC (.int 0)))) (tRet (tTup (tCons (tUn rNeg (tVar 2)) (tCons (tUn rNeg (tVar 4)) (tCons (tUn rNeg (tVar 6)) tNil))))) tNext)
  (tRet (tTup (tCons (tVar 2) (tCons (tVar 4) (tCons (tVar 6) tNil))))))))))
theorem pure_bezout (K : PySem.W.Frag) (vs : List V) (H : Hp) (Q : VK) (E : XK) (h : sp_bezout K vs H Q E) : t_bezout K { nx := fun _ H' => Q .non H', rt := Q } (start ["one", "other", "rest", "after", "u", "later_u", "v", "later_v", "often"] vs) H := by
  obtain ⟨a, b, rfl, sa, sb, hq⟩ := h
  unfold t_bezout
  walk_at "z"
  refine ⟨by decide, fun p hp => ⟨_, sqT_of upd_same, rfl, ?_⟩⟩
  walk_at "z"
  refine ⟨by decide, fun p2 hp2 => ⟨_, sqT_of upd_same, rfl, ?_⟩⟩
  walk_at "z"
  have sH := (same_upd (o := .tup [V.int 1, V.int 0]) hp).trans (same_upd (o := .tup [V.int 0, V.int 1]) hp2)
  revert sH
  generalize upd (upd H p (.tup [V.int 1, V.int 0])) p2 (.tup [V.int 0, V.int 1]) = H0
  intro sH
  have z0 : ∀ n, Sz n 0 := fun n => Nat.pow_pos (by decide)
  have z1 : ∀ n, Sz (n + 1) 1 := fun n => Nat.one_lt_two_pow (by omega)
  obtain ⟨o, ho, hob⟩ : ∃ o : Int, (o = 1 ∨ o = -1) ∧ 0 ≤ o * b := by
    by_cases c : 0 ≤ b
    · exact ⟨1, .inl rfl, by omega⟩
    · exact ⟨-1, .inr rfl, by omega⟩
  refine while_of (fun μ σ H' => ∃ (r t u x v y s : Int) (o4 : Option V), σ = [some (.int a), some (.int b), some (.int r), some (.int t), some (.int u), some (.int x), some (.int v), some (.int y), o4] ∧ H' = H0 ∧ Bs a b o r t u x v y s ∧ Sz 2000 r ∧ Sz 2000 t ∧ Sz 2000 u ∧ Sz 2000 x ∧ Sz 4001 v ∧ Sz 4001 y ∧ t.natAbs ≤ b.natAbs ∧ μ = t.natAbs) b.natAbs ⟨a, b, 1, 0, 0, 1, 1, _, rfl, rfl, ⟨ho, hob, .inr rfl, rfl, by omega, by omega, .inl rfl, by decide, by decide, by simp⟩, sa, sb, z1 _, z0 _, z0 _, z1 _, Nat.le_refl _, rfl⟩ ?_
  rintro μ σ H' ⟨r, t, u, x, v, y, s, o4, rfl, rfl, B, sr, st, su, sx, sv, sy, tb, rfl⟩ N hN hN2
  unfold t_bezout_w1_c t_bezout_w1_b
  walk_at "z"
  by_cases h0 : t = 0
  · subst h0
    have hg : r.natAbs = Nat.gcd a.natAbs b.natAbs := by
      have := B.g
      rwa [Int.natAbs_zero, Nat.gcd_zero_right] at this
    have e1 := B.e1
    walk_at "z"
    by_cases hn : r < 0
    · rw [if_pos hn]
      refine ⟨by decide, fun p hp => ?_⟩
      have sp := same_upd (o := .tup [V.int (-r), V.int (-u), V.int (-v)]) hp
      refine hq p (-u) (-v) _ (sH.trans sp) ?_ (sz_le su (by omega)) (sz_le sv (by omega)) ?_
      · rw [Int.mul_neg, Int.mul_neg]; omega
      · rw [upd_same, show -r = ((Nat.gcd a.natAbs b.natAbs : Nat) : Int) by omega]
    · rw [if_neg hn]
      refine ⟨by decide, fun p hp => ?_⟩
      have sp := same_upd (o := .tup [V.int r, V.int u, V.int v]) hp
      refine hq p u v _ (sH.trans sp) ?_ su sv ?_
      · omega
      · rw [upd_same, show r = ((Nat.gcd a.natAbs b.natAbs : Nat) : Int) by omega]
  · obtain ⟨er, hp⟩ := B.rest h0
    have B2 := B.step h0
    have fd : r.fdiv t = (o * r) / (o * t) := fzo ho B.t0 h0
    have qr : ((o * r) / (o * t)).natAbs ≤ r.natAbs := by
      have := div_le (R := o * r) hp
      rwa [o_abs ho] at this
    have sq : Sz 2000 ((o * r) / (o * t)) := sz_le sr qr
    have et : (o * r) % (o * t) < o * t := Int.emod_lt_of_pos _ hp
    have et0 : 0 ≤ (o * r) % (o * t) := Int.emod_nonneg _ (by omega)
    have eT : (o * t).natAbs = t.natAbs := o_abs ho
    have eR : (o * (r - (o * r) / (o * t) * t)).natAbs = (r - (o * r) / (o * t) * t).natAbs := o_abs ho
    have lt1 : (r - (o * r) / (o * t) * t).natAbs < t.natAbs := by omega
    have st2 : Sz 2000 (r - (o * r) / (o * t) * t) := sz_le st (by omega)
    have hb1 : b ≠ 0 := by omega
    have eB : (o * b).natAbs = b.natAbs := o_abs ho
    have sx2 : Sz 2000 (u - (o * r) / (o * t) * x) := by
      have h2 := B2.k
      have h5 := B2.x0
      have h6 := Int.mul_nonneg B2.t0 B2.u0
      have h7 : -(-s * (u - (o * r) / (o * t) * x)) * (o * t) ≤ o * b := by rw [Int.mul_comm]; omega
      have h8 := le_mulI h5 (show 1 ≤ o * t by omega) h7
      have h9 := o_abs (x := u - (o * r) / (o * t) * x) B2.sg
      refine sz_le sb ?_
      omega
    have sy2 : Sz 4001 (v - (o * r) / (o * t) * y) := by
      have h2 := B2.e2
      have h3 : b * (v - (o * r) / (o * t) * y) = (r - (o * r) / (o * t) * t) - a * (u - (o * r) / (o * t) * x) := by omega
      have h4 : (v - (o * r) / (o * t) * y).natAbs ≤ (b * (v - (o * r) / (o * t) * y)).natAbs := by
        rw [Int.natAbs_mul]
        exact Nat.le_mul_of_pos_left _ (by omega)
      refine sz_le ?_ h4
      rw [h3]
      exact sz_sub (sz_mono st2 (show 2000 ≤ 2000 + 2000 by decide)) (sz_mul sa sx2)
    rw [if_pos h0, fd]
    have lt8 : t.natAbs.log2 < 9000 := Nat.lt_of_lt_of_le (PySem.Flt.log2_lt_of (k := 2000) (by decide) st) (by decide)
    refine ⟨N, hN2, ⟨h0, lt8⟩, mulW sq st (by decide) (by decide) (by decide), mulW sq sx (by decide) (by decide) (by decide), mulW sq sy (by decide) (by decide) (by decide), ?_⟩
    exact hN _ _ _ lt1 ⟨_, _, _, _, _, _, _, _, rfl, rfl, B2, st, st2, sx, sx2, sy, sy2, by omega, rfl⟩
theorem ok_bezout {P : Program} {w : World} {K : PySem.W.Frag} {mg : Str → Option Value} {base : Heap} (T : Tx K mg) : Okk P w K mg base 1 "bezout" ["one", "other"] (sp_bezout K) := by
  obtain ⟨fd, F⟩ := T.f_bezout
  refine ⟨fd, F.ok sc_bezout (fun vs H Q E h => len_bezout h) (fun cdv A outer s H vs Q E hr h => ⟨t_bezout K, PSs.nox ?_, pure_bezout K vs H Q E h⟩), F.bindsN (fun _ _ _ _ _ _ us hl => match us, hl with | [_, _], _ => rfl), T.g_bezout, F.kp⟩
  exact (pss_cons (ps_par (i := 2) (j := 3) rfl sc_bezout.nd rfl rfl (by decide) rfl rfl (pa_cons (pv 0) (pa_cons (pv 1) pa_nil)) (by rfl))
      (pss_cons (ps_asg (pe_tup (pa_cons pe_int (pa_cons pe_int pa_nil))) (pg_tup rfl (pgs_cons (pg_name (i := 4) sc_bezout.nd rfl (by first | exact Or.inl rfl | exact Or.inr rfl)) (pgs_cons (pg_name (i := 5) sc_bezout.nd rfl (by first | exact Or.inl rfl | exact Or.inr rfl)) pgs_nil))))
      (pss_cons (ps_asg (pe_tup (pa_cons pe_int (pa_cons pe_int pa_nil))) (pg_tup rfl (pgs_cons (pg_name (i := 6) sc_bezout.nd rfl (by first | exact Or.inl rfl | exact Or.inr rfl)) (pgs_cons (pg_name (i := 7) sc_bezout.nd rfl (by first | exact Or.inl rfl | exact Or.inr rfl)) pgs_nil))))
      (pss_cons (ps_while PassesOwn.never (pt_cmpR op_ne (pv 3) pe_int (nomark _)) (pss_cons (ps_set (i := 8) sc_bezout.nd rfl (by first | exact Or.inl rfl | exact Or.inr rfl) (pe_op op_fdivZ (pv 2) (pv 3)))
      (pss_cons (ps_par (i := 2) (j := 3) rfl sc_bezout.nd rfl rfl (by decide) rfl rfl (pa_cons (pv 3) (pa_cons (pe_op op_sub (pv 2) (pe_op op_mulU (pv 8) (pv 3))) pa_nil)) (by rfl))
      (pss_cons (ps_par (i := 4) (j := 5) rfl sc_bezout.nd rfl rfl (by decide) rfl rfl (pa_cons (pv 5) (pa_cons (pe_op op_sub (pv 4) (pe_op op_mulU (pv 8) (pv 5))) pa_nil)) (by rfl))
      (pss_one (ps_par (i := 6) (j := 7) rfl sc_bezout.nd rfl rfl (by decide) rfl rfl (pa_cons (pv 7) (pa_cons (pe_op op_sub (pv 6) (pe_op op_mulU (pv 8) (pv 7))) pa_nil)) (by rfl)))))))
      (pss_cons (ps_if (pt_cmpR op_lt (pv 2) pe_int (nomark _)) (pss_one (ps_ret (pe_tup (pa_cons (pe_un un_neg (pv 2)) (pa_cons (pe_un un_neg (pv 4)) (pa_cons (pe_un un_neg (pv 6)) pa_nil)))))) pss_nil)
      (pss_one (ps_ret (pe_tup (pa_cons (pv 2) (pa_cons (pv 4) (pa_cons (pv 6) pa_nil)))))))))))
/-! ### first_clash -/
theorem sc_first_clash : FnScope ["pairs", "i", "j", "common"] ["pairs"] (defScope s_first_clash) := ⟨rfl, rfl, rfl, by decide +kernel, rfl, by decide +kernel, by decide +kernel⟩
def Clash (p q : Int × Int) : Prop := ¬ gI p.1 q.1 ∣ p.2 - q.2
def sp_first_clash (K : PySem.W.Frag) : Sp := fun vs H Q _ => ∃ (T : Addr) (xs : List V) (ps : List (Int × Int)), vs = [.ref T] ∧ H T = some (.tup xs) ∧ PQ H xs ps ∧ PsOk ps ∧
  (NoClash ps → Q .non H) ∧ ∀ (i j : Nat) (p q : Int × Int) (t : Addr), ps[i]? = some p → ps[j]? = some q → i < j → Clash p q → H t = none → Q (.ref t) (upd H t (.tup [.int (i : Int), .int (j : Int), .int (gI p.1 q.1)]))
theorem len_first_clash {K : PySem.W.Frag} {vs : List V} {H : Hp} {Q : VK} {E : XK} (h : sp_first_clash K vs H Q E) : vs.length = ["pairs"].length := by
  obtain ⟨_, _, _, rfl, _⟩ := h
  rfl
def t_first_clash_f1_b (K : PySem.W.Frag) : TS := (tSeq (tAsg (tCB rGcd (tCons (tOp (rIxA K) (tOp (rIxA K) (tVar 0) (tVar 1)) (tC (.int 0))) (tCons (tOp (rIxA K) (tOp (rIxA K) (tVar 0) (tVar 2)) (tC (.int 0))) tNil))) (gName 3))
  (tIfS (tTest (tOp rNe (tOp rModU (tOp rSub (tOp (rIxA K) (tOp (rIxA K) (tVar 0) (tVar 1)) (tC (.int 1))) (tOp (rIxA K) (tOp (rIxA K) (tVar 0) (tVar 2)) (tC (.int 1)))) (tVar 3)) (tC (.int 0)))) (tRet (tTup (tCons (tVar 1) (tCons (tVar 2) (tCons (tVar 3) tNil))))) tNext))
def t_first_clash_f2_b (K : PySem.W.Frag) : TS := (tFor (iRng2 (tCons (tOp rAdd (tVar 1) (tC (.int 1))) (tCons (tCB (rLenU K) (tCons (tVar 0) tNil)) tNil))) (gName 2) (t_first_clash_f1_b K))
def t_first_clash (K : PySem.W.Frag) : TS := (tSeq (tFor (iRng1 (tCons (tCB (rLenU K) (tCons (tVar 0) tNil)) tNil)) (gName 1) (t_first_clash_f2_b K))
  (tRet (tC .non)))
theorem pure_first_clash (K : PySem.W.Frag) (vs : List V) (H : Hp) (Q : VK) (E : XK) (h : sp_first_clash K vs H Q E) : t_first_clash K { nx := fun _ H' => Q .non H', rt := Q } (start ["pairs", "i", "j", "common"] vs) H := by
  obtain ⟨T, xs, ps, rfl, hT, hP, hok, hq1, hq2⟩ := h
  have hl := hP.len
  unfold t_first_clash
  walk_at "z"
  refine lenT (sqT_of hT) ?_
  have h6 := hok.2.1
  refine ⟨_, rfl, by omega, by omega, for_R (fun i σ H' => ∃ o1 o2 o3, σ = [some (.ref T), o1, o2, o3] ∧ H' = H ∧ ∀ (i' j : Nat) (p q : Int × Int), i' < i → ps[i']? = some p → ps[j]? = some q → i' < j → gI p.1 q.1 ∣ p.2 - q.2) ⟨_, _, _, rfl, rfl, fun i' _ _ _ h => by omega⟩ (fun i σ H' hi h N hN => ?_) (fun σ H' h => ?_)⟩
  · obtain ⟨o1, o2, o3, rfl, rfl, hd⟩ := h
    have hi' : i < ps.length := by omega
    obtain ⟨t, ht, h3⟩ := hP.at hi'
    unfold t_first_clash_f2_b
    walk_at "z"
    refine lenT (sqT_of hT) ?_
    refine ⟨_, _, rfl, ⟨by omega, by omega, by omega, by omega⟩, for_R (fun j σ H2 => ∃ o2 o3, σ = [some (.ref T), some (.int (0 + (i : Int))), o2, o3] ∧ H2 = H' ∧ ∀ (j' : Nat) (p q : Int × Int), j' < i + 1 + j → ps[i]? = some p → ps[j']? = some q → i < j' → gI p.1 q.1 ∣ p.2 - q.2) ⟨_, _, rfl, rfl, fun j' p q h1 _ _ h2 => by omega⟩ (fun j σ H' hj h N2 hN2 => ?_) (fun σ H' h => ?_)⟩
    · obtain ⟨o2, o3, rfl, rfl, hd2⟩ := h
      have hj' : i + 1 + j < ps.length := by omega
      obtain ⟨t2, ht2, h32⟩ := hP.at hj'
      unfold t_first_clash_f1_b
      walk_at "z"
      have a1 : atI xs (0 + (i : Int)) = some (V.ref t) := by rw [show 0 + (i : Int) = (i : Int) by omega]; exact atI_nat2 ht
      have a2 : atI xs (0 + (i : Int) + 1 + (j : Int)) = some (V.ref t2) := by rw [show 0 + (i : Int) + 1 + (j : Int) = ((i + 1 + j : Nat) : Int) by omega]; exact atI_nat2 ht2
      have e1 := List.getElem?_eq_getElem hi'
      have e2 := List.getElem?_eq_getElem hj'
      have p1 := (hok.2.2 _ (List.mem_of_getElem? e1)).1
      generalize ps[i] = p at *
      generalize ps[i + 1 + j] = q at *
      refine ixT (sqT_of hT) a1 ?_
      refine ixT (sqT_of h3) (v := .int p.1) rfl ?_
      refine ixT (sqT_of hT) a2 ?_
      refine ixT (sqT_of h32) (v := .int q.1) rfl ?_
      walk_at "z"
      refine ixT (sqT_of hT) a1 ?_
      refine ixT (sqT_of h3) (v := .int p.2) rfl ?_
      refine ixT (sqT_of hT) a2 ?_
      refine ixT (sqT_of h32) (v := .int q.2) rfl ?_
      walk_at "z"
      have gpos : 0 < Nat.gcd p.1.natAbs q.1.natAbs := Nat.gcd_pos_of_pos_left _ (by omega)
      refine ⟨by omega, ?_⟩
      by_cases hc : gI p.1 q.1 ∣ p.2 - q.2
      · rw [if_neg (fun h => h (Int.emod_eq_zero_of_dvd hc))]
        refine hN2 _ _ ⟨_, _, rfl, rfl, fun j' p' q' k1 k2 k3 k4 => ?_⟩
        by_cases e : j' = i + 1 + j
        · subst e
          rw [e1] at k2
          rw [e2] at k3
          cases k2
          cases k3
          exact hc
        · exact hd2 j' p' q' (by omega) k2 k3 k4
      · have hc2 : ¬ (p.2 - q.2) % ((Nat.gcd p.1.natAbs q.1.natAbs : Nat) : Int) = 0 := fun h => hc (Int.dvd_of_emod_eq_zero h)
        rw [if_pos hc2]
        refine ⟨by decide, fun A hA => ?_⟩
        rw [show 0 + (i : Int) + 1 + (j : Int) = ((i + 1 + j : Nat) : Int) by omega, show 0 + (i : Int) = (i : Int) by omega]
        exact hq2 i (i + 1 + j) p q A e1 e2 (by omega) hc hA
    · obtain ⟨o2, o3, rfl, rfl, hd2⟩ := h
      refine hN _ _ ⟨_, _, _, rfl, rfl, fun i' j p q k1 k2 k3 k4 => ?_⟩
      by_cases e : i' = i
      · subst e
        exact hd2 j p q (by have := (List.getElem?_eq_some_iff.mp k3).1; omega) k2 k3 k4
      · exact hd i' j p q (by omega) k2 k3 k4
  · obtain ⟨o1, o2, o3, rfl, rfl, hd⟩ := h
    walk_at "z"
    exact hq1 fun i j p q h1 h2 h3 => hd i j p q (by have := (List.getElem?_eq_some_iff.mp h1).1; omega) h1 h2 h3
theorem ok_first_clash {P : Program} {w : World} {K : PySem.W.Frag} {mg : Str → Option Value} {base : Heap} (T : Tx K mg) : Okk P w K mg base 1 "first_clash" ["pairs"] (sp_first_clash K) := by
  have hf_len := T.n_len
  have hf_range := T.n_range
  have hb_gcd := T.b_gcd
  obtain ⟨fd, F⟩ := T.f_first_clash
  refine ⟨fd, F.ok sc_first_clash (fun vs H Q E h => len_first_clash h) (fun cdv A outer s H vs Q E hr h => ⟨t_first_clash K, PSs.nox ?_, pure_first_clash K vs H Q E h⟩), F.bindsN (fun _ _ _ _ _ _ us hl => match us, hl with | [_], _ => rfl), T.g_first_clash, F.kp⟩
  exact (pss_cons (ps_for PassesOwn.never rfl (pi_range1 rfl hf_range (pa_cons (pe_callB call_len_seq (by rfl) hf_len (by decide +kernel) (pa_cons (pv 0) pa_nil)) pa_nil)) (pg_name (i := 1) sc_first_clash.nd rfl (by first | exact Or.inl rfl | exact Or.inr rfl)) (pss_one (ps_for PassesOwn.never rfl (pi_range2 rfl hf_range (pa_cons (pe_op op_add (pv 1) pe_int) (pa_cons (pe_callB call_len_seq (by rfl) hf_len (by decide +kernel) (pa_cons (pv 0) pa_nil)) pa_nil))) (pg_name (i := 2) sc_first_clash.nd rfl (by first | exact Or.inl rfl | exact Or.inr rfl)) (pss_cons (ps_set (i := 3) sc_first_clash.nd rfl (by first | exact Or.inl rfl | exact Or.inr rfl) (pe_callBfun cr_gcd rfl hb_gcd (pa_cons (pe_ix ix_lt (pe_ix ix_lt (pv 0) (pv 1) (fun _ _ => rfl)) pe_int (fun _ _ => rfl)) (pa_cons (pe_ix ix_lt (pe_ix ix_lt (pv 0) (pv 2) (fun _ _ => rfl)) pe_int (fun _ _ => rfl)) pa_nil))))
      (pss_one (ps_if (pt_cmpR op_ne (pe_op op_mod (pe_op op_sub (pe_ix ix_lt (pe_ix ix_lt (pv 0) (pv 1) (fun _ _ => rfl)) pe_int (fun _ _ => rfl)) (pe_ix ix_lt (pe_ix ix_lt (pv 0) (pv 2) (fun _ _ => rfl)) pe_int (fun _ _ => rfl))) (pv 3)) pe_int (nomark _)) (pss_one (ps_ret (pe_tup (pa_cons (pv 1) (pa_cons (pv 2) (pa_cons (pv 3) pa_nil)))))) pss_nil))))))
      (pss_one (ps_ret pe_non)))
/-! ### is_below -/
theorem sc_is_below : FnScope ["value", "limit"] ["value", "limit"] (defScope s_is_below) := ⟨rfl, rfl, rfl, by decide +kernel, rfl, by decide +kernel, by decide +kernel⟩
def sp_is_below (K : PySem.W.Frag) : Sp := fun vs H Q _ => ∃ i l : Int, vs = [.int i, .int l] ∧ Q (.bl (decide (-l < i ∧ i < l))) H
theorem len_is_below {K : PySem.W.Frag} {vs : List V} {H : Hp} {Q : VK} {E : XK} (h : sp_is_below K vs H Q E) : vs.length = ["value", "limit"].length := by
  obtain ⟨_, _, rfl, _⟩ := h
  rfl
def t_is_below (K : PySem.W.Frag) : TS := (tRet (tAndV (tCall (sp_is_int K) [] E0 (tCons (tVar 0) tNil)) (tOrV (tIsN (tVar 1)) (tChain rLtI rLtI (tUn rNeg (tVar 1)) (tVar 0) (tVar 1)))))
theorem pure_is_below (K : PySem.W.Frag) (vs : List V) (H : Hp) (Q : VK) (E : XK) (h : sp_is_below K vs H Q E) : t_is_below K { nx := fun _ H' => Q .non H', rt := Q } (start ["value", "limit"] vs) H := by
  obtain ⟨i, l, rfl, hq⟩ := h
  unfold t_is_below
  walk_at "z"
  refine ⟨_, rfl, ?_⟩
  walk_at "z"
  by_cases h1 : -l < i
  · rw [if_pos h1]
    simpa [h1] using hq
  · rw [if_neg h1]
    simpa [h1] using hq
theorem ok_is_below {P : Program} {w : World} {K : PySem.W.Frag} {mg : Str → Option Value} {base : Heap} (T : Tx K mg) : Okk P w K mg base 2 "is_below" ["value", "limit"] (sp_is_below K) := by
  obtain ⟨fd_is_int, F_is_int, b_is_int, g_is_int, k_is_int⟩ := ok_is_int (P := P) (w := w) (base := base) T
  obtain ⟨fd, F⟩ := T.f_is_below
  refine ⟨fd, F.ok sc_is_below (fun vs H Q E h => len_is_below h) (fun cdv A outer s H vs Q E hr h => ⟨t_is_below K, PSs.nox ?_, pure_is_below K vs H Q E h⟩), F.bindsN (fun _ _ _ _ _ _ us hl => match us, hl with | [_, _], _ => rfl), T.g_is_below, F.kp⟩
  exact (pss_one (ps_ret (pe_and (pe_call F_is_int (hr.mono (by decide)) rfl g_is_int k_is_int b_is_int .nil pass0 (pa_cons (pv 0) pa_nil)) (pe_one (pe_or (pe_cmp (pc_isN (pv 1))) (pe_one (pe_chain op_lt op_lt (pe_un un_neg (pv 1)) (pv 0) (pv 1))))))))
/-! ### joint_rest -/
theorem sc_joint_rest : FnScope ["pairs", "modulus", "x", "further", "rest", "common", "u", "_"] ["pairs"] (defScope s_joint_rest) := ⟨rfl, rfl, rfl, by decide +kernel, rfl, by decide +kernel, by decide +kernel⟩
def sp_joint_rest (K : PySem.W.Frag) : Sp := fun vs H Q _ => ∃ (T : Addr) (xs : List V) (ps : List (Int × Int)), vs = [.ref T] ∧ H T = some (.tup xs) ∧ PQ H xs ps ∧ PsOk ps ∧ NoClash ps ∧ ∀ x H', Same H H' → Sol ps x → Sz 1300 x → Q (.int x) H'
theorem len_joint_rest {K : PySem.W.Frag} {vs : List V} {H : Hp} {Q : VK} {E : XK} (h : sp_joint_rest K vs H Q E) : vs.length = ["pairs"].length := by
  obtain ⟨_, _, _, rfl, _⟩ := h
  rfl
def t_joint_rest_f1_b (K : PySem.W.Frag) : TS := (tSeq (tAsg (tCall (sp_bezout K) [] E0 (tCons (tVar 1) (tCons (tVar 3) tNil))) (gTup K 3 (gCons (gName 5) (gCons (gName 6) (gCons (gName 7) gNil)))))
  (tSeq (tAsg (tOp rAdd (tVar 2) (tOp rMulU (tOp rMulU (tVar 1) (tVar 6)) (tOp rDivU (tOp rSub (tVar 4) (tVar 2)) (tVar 5)))) (gName 2))
  (tSeq (tAsg (tOp rMulU (tOp rDivU (tVar 1) (tVar 5)) (tVar 3)) (gName 1))
  (tAsg (tOp rModU (tVar 2) (tVar 1)) (gName 2)))))
def t_joint_rest (K : PySem.W.Frag) : TS := (tSeq (tAsg (tTup (tCons (tC (.int 1)) (tCons (tC (.int 0)) tNil))) (gTup K 2 (gCons (gName 1) (gCons (gName 2) gNil))))
  (tSeq (tFor (iTup K (tVar 0)) (gTup K 2 (gCons (gName 3) (gCons (gName 4) gNil))) (t_joint_rest_f1_b K))
  (tRet (tVar 2))))
theorem lcm_sz {ps : List (Int × Int)} (h : ∀ p ∈ ps, 1 ≤ p.1 ∧ p.1 < 10 ^ 60 ∧ S60 p.2) : ∀ i, i ≤ 6 → lcmL (ps.take i) < 2 ^ 1250 := by
  have key : ∀ i, lcmL (ps.take i) ≤ 2 ^ (200 * i) := by
    intro i
    induction i with
    | zero => exact Nat.le_refl 1
    | succ i ih =>
      rw [List.take_succ]
      cases e : ps[i]? with
      | none => simp; exact Nat.le_trans ih (Nat.pow_le_pow_right (by decide) (by omega))
      | some q =>
        obtain ⟨q1, q2, _⟩ := h q (List.mem_of_getElem? e)
        show lcmL (ps.take i ++ [q]) ≤ _
        rw [lcmL_snoc, show 200 * (i + 1) = 200 * i + 200 by omega, Nat.pow_add]
        have h1 : Nat.lcm (lcmL (ps.take i)) q.1.natAbs ≤ lcmL (ps.take i) * q.1.natAbs := by
          rw [Nat.lcm]
          exact Nat.div_le_self _ _
        exact Nat.le_trans h1 (Nat.mul_le_mul ih (by omega))
  intro i hi
  exact Nat.lt_of_le_of_lt (key i) (Nat.pow_lt_pow_right (by decide) (by omega))
theorem pure_joint_rest (K : PySem.W.Frag) (vs : List V) (H : Hp) (Q : VK) (E : XK) (h : sp_joint_rest K vs H Q E) : t_joint_rest K { nx := fun _ H' => Q .non H', rt := Q } (start ["pairs", "modulus", "x", "further", "rest", "common", "u", "_"] vs) H := by
  obtain ⟨T, xs, ps, rfl, hT, hP, hok, hn, hq⟩ := h
  have hl := hP.len
  unfold t_joint_rest
  walk_at "z"
  refine ⟨by decide, fun P0 hP0 => ⟨_, sqT_of upd_same, rfl, ?_⟩⟩
  walk_at "z"
  have hT0 := same_upd (o := .tup [V.int 1, V.int 0]) hP0 _ _ hT
  have hP1 := hP.same (same_upd (o := .tup [V.int 1, V.int 0]) hP0)
  have s0 := same_upd (o := .tup [V.int 1, V.int 0]) hP0
  revert hT0 hP1 s0
  generalize upd H P0 (.tup [V.int 1, V.int 0]) = H0
  intro hT0 hP1 s0
  refine ⟨T, rfl, ⟨_, sqT_of hT0⟩, for_T (xs := xs) (fun i σ H' => ∃ (x : Int) (o1 o2 o3 o4 o5 : Option V), σ = [some (.ref T), some (.int ((lcmL (ps.take i) : Nat) : Int)), some (.int x), o1, o2, o3, o4, o5] ∧ Same H0 H' ∧ Sol (ps.take i) x ∧ 0 ≤ x ∧ x < ((lcmL (ps.take i) : Nat) : Int)) ⟨0, _, _, _, _, _, rfl, Same.refl _, fun p hp => (by cases hp), Int.le_refl 0, (show (0 : Int) < ((1 : Nat) : Int) by decide)⟩ (fun i σ H' _ h => by obtain ⟨_, _, _, _, _, _, _, s, _⟩ := h; exact sqT_of (s _ _ hT0)) (fun i x σ H' hx h N hN => ?_) (fun σ H' h => ?_)⟩
  · obtain ⟨x, o1, o2, o3, o4, o5, rfl, s1, hs, x0, xM⟩ := h
    obtain ⟨q, t, e1, rfl, h3⟩ := hP1.get hx
    obtain ⟨q1, q2, q3⟩ := hok.2.2 q (List.mem_of_getElem? e1)
    have hi : i < ps.length := (List.getElem?_eq_some_iff.mp e1).1
    have et : ps.take (i + 1) = ps.take i ++ [q] := by rw [List.take_succ, e1]; rfl
    have hM := lcm_sz hok.2.2 i (by have := hok.2.1; omega)
    have hMp := lcmL_pos _ (ps.take i) rfl fun p hp => (hok.2.2 p (List.mem_of_mem_take hp)).1
    have hl2 : lcmL (ps.take (i + 1)) = Nat.lcm (lcmL (ps.take i)) q.1.natAbs := by rw [et, lcmL_snoc]
    have hMp2 := lcmL_pos _ (ps.take (i + 1)) rfl fun p hp => (hok.2.2 p (List.mem_of_mem_take hp)).1
    have hn2 : NoClash (ps.take i ++ [q]) := by
      rw [← et]
      have : NoClash (ps.take (i + 1) ++ ps.drop (i + 1)) := by rw [List.take_append_drop]; exact hn
      exact this.take
    have hjd := joint_dvd hn2 hs
    unfold t_joint_rest_f1_b
    walk_at "z"
    refine ⟨_, sqT_of (s1 _ _ h3), rfl, ?_⟩
    walk_at "z"
    generalize hL : lcmL (ps.take i) = M at *
    have sM : Sz 1300 (M : Int) := by unfold Sz; omega
    refine ⟨(M : Int), q.1, rfl, sz_mono sM (by decide), sz_mono (S60.sz ⟨by omega, q2⟩) (by decide), fun p u v H2 s2 e su sv hp => ?_⟩
    rw [Int.natAbs_natCast] at e hp
    refine ⟨p, _, rfl, sqT_of hp, rfl, ?_⟩
    walk_at "z"
    have g0 : 0 < Nat.gcd M q.1.natAbs := Nat.gcd_pos_of_pos_left _ hMp
    have gM : Nat.gcd M q.1.natAbs ≤ M := Nat.gcd_le_left _ hMp
    have gd : Nat.gcd M q.1.natAbs ∣ M := Nat.gcd_dvd_left _ _
    have e5 : (M : Int) / ((Nat.gcd M q.1.natAbs : Nat) : Int) * q.1 = ((Nat.lcm M q.1.natAbs : Nat) : Int) := by
      rw [show q.1 = ((q.1.natAbs : Nat) : Int) by omega, ← Int.natCast_ediv, ← Int.natCast_mul, Int.natAbs_natCast, Nat.div_mul_right_comm gd]
      rfl
    have gsz : ((Nat.gcd M q.1.natAbs : Nat) : Int).natAbs < 2 ^ 1300 := by
      rw [Int.natAbs_natCast]
      exact Nat.lt_of_le_of_lt gM sM
    have gpos : (0 : Int) < ((Nat.gcd M q.1.natAbs : Nat) : Int) := by omega
    have sq1 : Sz 250 q.1 := S60.sz ⟨by omega, q2⟩
    have sx : Sz 1300 x := sz_le sM (by omega)
    have sw : Sz 1301 ((q.2 - x) / ((Nat.gcd M q.1.natAbs : Nat) : Int)) := sz_le (sz_sub (sz_mono q3.sz (show 250 ≤ 1300 by decide)) sx) (div_le gpos)
    refine ⟨mulW sM su (by decide) (by decide) (by decide), wide_div (b := 1300) gpos gsz (by decide) (by decide), mulW (sz_mul sM su) sw (by decide) (by decide) (by decide), wide_div (b := 1300) gpos gsz (by decide) (by decide), mulW (sz_le sM (div_le gpos)) sq1 (by decide) (by decide) (by decide), ?_⟩
    rw [e5]
    rw [hl2] at hMp2
    refine ⟨by omega, ?_⟩
    subst hL
    have js := (joint_step q1 hs hjd e).mod
    rw [← et, hl2] at js
    have hpI : (0 : Int) < ((Nat.lcm (lcmL (ps.take i)) q.1.natAbs : Nat) : Int) := by omega
    refine hN _ _ ⟨_, some (.int q.1), some (.int q.2), some (.int ((Nat.gcd (lcmL (ps.take i)) q.1.natAbs : Nat) : Int)), some (.int u), some (.int v), ?_, s1.trans s2, js, Int.emod_nonneg _ (by omega), ?_⟩
    · rw [hl2]
    · rw [hl2]; exact Int.emod_lt_of_pos _ hpI
  · obtain ⟨x, o1, o2, o3, o4, o5, rfl, s1, hs, x0, xM⟩ := h
    walk_at "z"
    have hM := lcm_sz hok.2.2 xs.length (by have := hok.2.1; omega)
    rw [show ps.take xs.length = ps by rw [hl, List.take_length]] at hs xM hM
    exact hq x _ (s0.trans s1) hs (by unfold Sz; omega)
theorem ok_joint_rest {P : Program} {w : World} {K : PySem.W.Frag} {mg : Str → Option Value} {base : Heap} (T : Tx K mg) : Okk P w K mg base 2 "joint_rest" ["pairs"] (sp_joint_rest K) := by
  obtain ⟨fd_bezout, F_bezout, b_bezout, g_bezout, k_bezout⟩ := ok_bezout (P := P) (w := w) (base := base) T
  obtain ⟨fd, F⟩ := T.f_joint_rest
  refine ⟨fd, F.ok sc_joint_rest (fun vs H Q E h => len_joint_rest h) (fun cdv A outer s H vs Q E hr h => ⟨t_joint_rest K, PSs.nox ?_, pure_joint_rest K vs H Q E h⟩), F.bindsN (fun _ _ _ _ _ _ us hl => match us, hl with | [_], _ => rfl), T.g_joint_rest, F.kp⟩
  exact (pss_cons (ps_asg (pe_tup (pa_cons pe_int (pa_cons pe_int pa_nil))) (pg_tup rfl (pgs_cons (pg_name (i := 1) sc_joint_rest.nd rfl (by first | exact Or.inl rfl | exact Or.inr rfl)) (pgs_cons (pg_name (i := 2) sc_joint_rest.nd rfl (by first | exact Or.inl rfl | exact Or.inr rfl)) pgs_nil))))
      (pss_cons (ps_for PassesOwn.never rfl (pi_tup (pv 0)) (pg_tup rfl (pgs_cons (pg_name (i := 3) sc_joint_rest.nd rfl (by first | exact Or.inl rfl | exact Or.inr rfl)) (pgs_cons (pg_name (i := 4) sc_joint_rest.nd rfl (by first | exact Or.inl rfl | exact Or.inr rfl)) pgs_nil))) (pss_cons (ps_asg (pe_call F_bezout (hr.mono (by decide)) rfl g_bezout k_bezout b_bezout .nil pass0 (pa_cons (pv 1) (pa_cons (pv 3) pa_nil))) (pg_tup rfl (pgs_cons (pg_name (i := 5) sc_joint_rest.nd rfl (by first | exact Or.inl rfl | exact Or.inr rfl)) (pgs_cons (pg_name (i := 6) sc_joint_rest.nd rfl (by first | exact Or.inl rfl | exact Or.inr rfl)) (pgs_cons (pg_name (i := 7) sc_joint_rest.nd rfl (by first | exact Or.inl rfl | exact Or.inr rfl)) pgs_nil)))))
      (pss_cons (ps_set (i := 2) sc_joint_rest.nd rfl (by first | exact Or.inl rfl | exact Or.inr rfl) (pe_op op_add (pv 2) (pe_op op_mulU (pe_op op_mulU (pv 1) (pv 6)) (pe_op op_fdivW (pe_op op_sub (pv 4) (pv 2)) (pv 5)))))
      (pss_cons (ps_set (i := 1) sc_joint_rest.nd rfl (by first | exact Or.inl rfl | exact Or.inr rfl) (pe_op op_mulU (pe_op op_fdivW (pv 1) (pv 5)) (pv 3)))
      (pss_one (ps_set (i := 2) sc_joint_rest.nd rfl (by first | exact Or.inl rfl | exact Or.inr rfl) (pe_op op_mod (pv 2) (pv 1))))))))
      (pss_one (ps_ret (pv 2)))))
/-! ### check_integer -/
theorem sc_check_integer : FnScope ["number"] ["number"] (defScope s_check_integer) := ⟨rfl, rfl, rfl, by decide +kernel, rfl, by decide +kernel, by decide +kernel⟩
def sp_check_integer (K : PySem.W.Frag) : Sp := fun vs H Q _ => ∃ n : Int, vs = [.int n] ∧ -(10 ^ 60) < n ∧ n < 10 ^ 60 ∧ Q .non H
theorem len_check_integer {K : PySem.W.Frag} {vs : List V} {H : Hp} {Q : VK} {E : XK} (h : sp_check_integer K vs H Q E) : vs.length = ["number"].length := by
  obtain ⟨_, rfl, _⟩ := h
  rfl
def t_check_integer (K : PySem.W.Frag) : TS := (tIfS (tNot (tB (tCall (sp_is_below K) [] E0 (tCons (tVar 0) (tCons (tC (.int 1000000000000000000000000000000000000000000000000000000000000)) tNil))))) tNever tNext)
theorem pure_check_integer (K : PySem.W.Frag) (vs : List V) (H : Hp) (Q : VK) (E : XK) (h : sp_check_integer K vs H Q E) : t_check_integer K { nx := fun _ H' => Q .non H', rt := Q } (start ["number"] vs) H := by
  obtain ⟨n, rfl, h1, h2, hq⟩ := h
  unfold t_check_integer
  walk_at "z"
  refine ⟨_, _, rfl, ?_⟩
  walk_at "z"
  rw [if_neg (by omega)]
  exact hq

theorem ok_check_integer {P : Program} {w : World} {K : PySem.W.Frag} {mg : Str → Option Value} {base : Heap} (T : Tx K mg) : Okk P w K mg base 3 "check_integer" ["number"] (sp_check_integer K) := by
  obtain ⟨fd_is_below, F_is_below, b_is_below, g_is_below, k_is_below⟩ := ok_is_below (P := P) (w := w) (base := base) T
  obtain ⟨_, hc_SIXTY_DIGITS⟩ := T.c_SIXTY_DIGITS
  obtain ⟨fd, F⟩ := T.f_check_integer
  refine ⟨fd, F.ok sc_check_integer (fun vs H Q E h => len_check_integer h) (fun cdv A outer s H vs Q E hr h => ⟨t_check_integer K, PSs.nox ?_, pure_check_integer K vs H Q E h⟩), F.bindsN (fun _ _ _ _ _ _ us hl => match us, hl with | [_], _ => rfl), T.g_check_integer, F.kp⟩
  exact (pss_one (ps_if (pt_not (pt_val (pe_call F_is_below (hr.mono (by decide)) rfl g_is_below k_is_below b_is_below .nil pass0 (pa_cons (pv 0) (pa_cons (pe_glob rfl hc_SIXTY_DIGITS ⟨_, rfl⟩) pa_nil))))) pss_never pss_nil))
/-! ### are_pairs -/
theorem sc_are_pairs : FnScope ["value", "pair", "modulus", "rest"] ["value"] (defScope s_are_pairs) := ⟨rfl, rfl, rfl, by decide +kernel, rfl, by decide +kernel, by decide +kernel⟩
def sp_are_pairs (K : PySem.W.Frag) : Sp := fun vs H Q _ => ∃ (T : Addr) (xs : List V) (ps : List (Int × Int)), vs = [.ref T] ∧ H T = some (.tup xs) ∧ PQ H xs ps ∧ PsOk ps ∧ Q (.bl true) H
theorem len_are_pairs {K : PySem.W.Frag} {vs : List V} {H : Hp} {Q : VK} {E : XK} (h : sp_are_pairs K vs H Q E) : vs.length = ["value"].length := by
  obtain ⟨_, _, _, rfl, _⟩ := h
  rfl
def t_are_pairs_f1_b (K : PySem.W.Frag) : TS := (tSeq (tIfS (tOr (tNot (tB (tCB (rIsi K) (tCons (tVar 1) (tCons (tC (.ty "tuple")) tNil))))) (tTest (tOp rNe (tCB (rLenU K) (tCons (tVar 1) tNil)) (tC (.int 2))))) (tRet (tC (.bl false))) tNext)
  (tSeq (tAsg (tVar 1) (gTup K 2 (gCons (gName 2) (gCons (gName 3) gNil))))
  (tIfS (tOr (tNot (tB (tCall (sp_is_below K) [] E0 (tCons (tVar 2) (tCons (tC (.int 1000000000000000000000000000000000000000000000000000000000000)) tNil))))) (tOr (tNot (tB (tCall (sp_is_below K) [] E0 (tCons (tVar 3) (tCons (tC (.int 1000000000000000000000000000000000000000000000000000000000000)) tNil))))) (tTest (tOp rLtI (tVar 2) (tC (.int 1)))))) (tRet (tC (.bl false))) tNext)))
def t_are_pairs (K : PySem.W.Frag) : TS := (tSeq (tIfS (tOr (tNot (tB (tCB (rIsi K) (tCons (tVar 0) (tCons (tC (.ty "tuple")) tNil))))) (tOr (tTest (tOp rLtI (tCB (rLenU K) (tCons (tVar 0) tNil)) (tC (.int 1)))) (tTest (tOp rGtI (tCB (rLenU K) (tCons (tVar 0) tNil)) (tC (.int 6)))))) (tRet (tC (.bl false))) tNext)
  (tSeq (tFor (iTup K (tVar 0)) (gName 1) (t_are_pairs_f1_b K))
  (tRet (tC (.bl true)))))
theorem pure_are_pairs (K : PySem.W.Frag) (vs : List V) (H : Hp) (Q : VK) (E : XK) (h : sp_are_pairs K vs H Q E) : t_are_pairs K { nx := fun _ H' => Q .non H', rt := Q } (start ["value", "pair", "modulus", "rest"] vs) H := by
  obtain ⟨T, xs, ps, rfl, hT, hP, hok, hq⟩ := h
  have hl := hP.len
  unfold t_are_pairs
  walk_at "z"
  refine isi_tup hT ?_
  walk_at "z"
  refine lenT (sqT_of hT) ?_
  walk_at "z"
  rw [if_neg (by have := hok.1; omega)]
  refine lenT (sqT_of hT) ?_
  walk_at "z"
  rw [if_neg (by have := hok.2.1; omega)]
  refine ⟨T, rfl, ⟨_, sqT_of hT⟩, for_T (xs := xs) (fun i σ H' => ∃ o1 o2 o3, σ = [some (.ref T), o1, o2, o3] ∧ H' = H) ⟨_, _, _, rfl, rfl⟩ (fun i σ H' _ h => by obtain ⟨_, _, _, _, rfl⟩ := h; exact sqT_of hT) (fun i x σ H' hx h N hN => ?_) (fun σ H' h => ?_)⟩
  · obtain ⟨o1, o2, o3, rfl, rfl⟩ := h
    obtain ⟨q, t, e1, rfl, h3⟩ := hP.get hx
    obtain ⟨q1, q2, q3⟩ := hok.2.2 q (List.mem_of_getElem? e1)
    unfold t_are_pairs_f1_b
    walk_at "z"
    refine isi_tup h3 ?_
    walk_at "z"
    refine lenT (sqT_of h3) ?_
    walk_at "z"
    refine ⟨_, sqT_of h3, rfl, ?_⟩
    walk_at "z"
    refine ⟨q.1, _, rfl, ?_⟩
    walk_at "z"
    rw [if_neg (fun h => h ⟨by omega, q2⟩)]
    refine ⟨q.2, _, rfl, ?_⟩
    walk_at "z"
    rw [if_neg (fun h => h ⟨q3.1, q3.2⟩), if_neg (by omega)]
    exact hN _ _ ⟨_, _, _, rfl, rfl⟩
  · obtain ⟨o1, o2, o3, rfl, rfl⟩ := h
    walk_at "z"
    exact hq
theorem ok_are_pairs {P : Program} {w : World} {K : PySem.W.Frag} {mg : Str → Option Value} {base : Heap} (T : Tx K mg) : Okk P w K mg base 3 "are_pairs" ["value"] (sp_are_pairs K) := by
  obtain ⟨fd_is_below, F_is_below, b_is_below, g_is_below, k_is_below⟩ := ok_is_below (P := P) (w := w) (base := base) T
  obtain ⟨_, hc_SIXTY_DIGITS⟩ := T.c_SIXTY_DIGITS
  obtain ⟨_, hc_MAX_RESTS⟩ := T.c_MAX_RESTS
  have hf_isinstance := T.n_isinstance
  have hf_len := T.n_len
  have hf_tuple := T.n_tuple
  obtain ⟨fd, F⟩ := T.f_are_pairs
  refine ⟨fd, F.ok sc_are_pairs (fun vs H Q E h => len_are_pairs h) (fun cdv A outer s H vs Q E hr h => ⟨t_are_pairs K, PSs.nox ?_, pure_are_pairs K vs H Q E h⟩), F.bindsN (fun _ _ _ _ _ _ us hl => match us, hl with | [_], _ => rfl), T.g_are_pairs, F.kp⟩
  exact (pss_cons (ps_if (PW.pt (pw_or (pt_not (pt_val (pe_callB call_isi (by rfl) hf_isinstance (by decide +kernel) (pa_cons (pv 0) (pa_cons (pe_bltn (v := .ty "tuple") rfl hf_tuple (by decide +kernel) rfl) pa_nil))))) (pw_or (pt_cmpR op_lt (pe_callB call_len_seq (by rfl) hf_len (by decide +kernel) (pa_cons (pv 0) pa_nil)) pe_int (nomark _)) (pw_or1 (pt_cmpR op_gt (pe_callB call_len_seq (by rfl) hf_len (by decide +kernel) (pa_cons (pv 0) pa_nil)) (pe_glob rfl hc_MAX_RESTS ⟨_, rfl⟩) (nomark _)))))) (pss_one (ps_ret pe_bl)) pss_nil)
      (pss_cons (ps_for PassesOwn.never rfl (pi_tup (pv 0)) (pg_name (i := 1) sc_are_pairs.nd rfl (by first | exact Or.inl rfl | exact Or.inr rfl)) (pss_cons (ps_if (PW.pt (pw_or (pt_not (pt_val (pe_callB call_isi (by rfl) hf_isinstance (by decide +kernel) (pa_cons (pv 1) (pa_cons (pe_bltn (v := .ty "tuple") rfl hf_tuple (by decide +kernel) rfl) pa_nil))))) (pw_or1 (pt_cmpR op_ne (pe_callB call_len_seq (by rfl) hf_len (by decide +kernel) (pa_cons (pv 1) pa_nil)) pe_int (nomark _))))) (pss_one (ps_ret pe_bl)) pss_nil)
      (pss_cons (ps_asg (pv 1) (pg_tup rfl (pgs_cons (pg_name (i := 2) sc_are_pairs.nd rfl (by first | exact Or.inl rfl | exact Or.inr rfl)) (pgs_cons (pg_name (i := 3) sc_are_pairs.nd rfl (by first | exact Or.inl rfl | exact Or.inr rfl)) pgs_nil))))
      (pss_one (ps_if (PW.pt (pw_or (pt_not (pt_val (pe_call F_is_below (hr.mono (by decide)) rfl g_is_below k_is_below b_is_below .nil pass0 (pa_cons (pv 2) (pa_cons (pe_glob rfl hc_SIXTY_DIGITS ⟨_, rfl⟩) pa_nil))))) (pw_or (pt_not (pt_val (pe_call F_is_below (hr.mono (by decide)) rfl g_is_below k_is_below b_is_below .nil pass0 (pa_cons (pv 3) (pa_cons (pe_glob rfl hc_SIXTY_DIGITS ⟨_, rfl⟩) pa_nil))))) (pw_or1 (pt_cmpR op_lt (pv 2) pe_int (nomark _)))))) (pss_one (ps_ret pe_bl)) pss_nil)))))
      (pss_one (ps_ret pe_bl))))
/-! ### divisor_answer -/
theorem sc_divisor_answer : FnScope ["one", "other", "common", "u", "v", "share"] ["one", "other"] (defScope s_divisor_answer) := ⟨rfl, rfl, rfl, by decide +kernel, rfl, by decide +kernel, by decide +kernel⟩
def sp_divisor_answer (K : PySem.W.Frag) : Sp := fun vs H Q _ => ∃ a b : Int, vs = [.int a, .int b] ∧ S60 a ∧ S60 b ∧ ∀ A C P u v c d H', Same H H' → H' A = some (.tup [.ref C, .ref P]) → H' C = some (.tup [.str dvS, .int a, .int b, .int (gI a b)]) → H' P = some (.tup [.int u, .int v, .int c, .int d]) → a * u + b * v = gI a b → c * gI a b = a → d * gI a b = b → Sz 2000 u → Sz 4001 v → Sz 250 c → Sz 250 d → Q (.ref A) H'
theorem len_divisor_answer {K : PySem.W.Frag} {vs : List V} {H : Hp} {Q : VK} {E : XK} (h : sp_divisor_answer K vs H Q E) : vs.length = ["one", "other"].length := by
  obtain ⟨_, _, rfl, _⟩ := h
  rfl
def t_divisor_answer (K : PySem.W.Frag) : TS := (tSeq (tDrop (tCall (sp_check_integer K) [] E0 (tCons (tVar 0) tNil)))
  (tSeq (tDrop (tCall (sp_check_integer K) [] E0 (tCons (tVar 1) tNil)))
  (tSeq (tAsg (tCall (sp_bezout K) [] E0 (tCons (tVar 0) (tCons (tVar 1) tNil))) (gTup K 3 (gCons (gName 2) (gCons (gName 3) (gCons (gName 4) gNil)))))
  (tSeq (tAsg (tCB (rMax2) (tCons (tVar 2) (tCons (tC (.int 1)) tNil))) (gName 5))
  (tRet (tTup (tCons (tTup (tCons (tC (.str "divisor")) (tCons (tVar 0) (tCons (tVar 1) (tCons (tVar 2) tNil))))) (tCons (tTup (tCons (tVar 3) (tCons (tVar 4) (tCons (tOp rDivU (tVar 0) (tVar 5)) (tCons (tOp rDivU (tVar 1) (tVar 5)) tNil))))) tNil))))))))
theorem share_mul {a b : Int} : (a / (if gI a b < 1 then 1 else gI a b)) * gI a b = a ∧ (b / (if gI a b < 1 then 1 else gI a b)) * gI a b = b := by
  unfold gI
  have h1 : ((Nat.gcd a.natAbs b.natAbs : Nat) : Int) ∣ a := ndvd.mpr (Nat.gcd_dvd_left _ _)
  have h2 : ((Nat.gcd a.natAbs b.natAbs : Nat) : Int) ∣ b := ndvd.mpr (Nat.gcd_dvd_right _ _)
  generalize Nat.gcd a.natAbs b.natAbs = g at *
  by_cases c : ((g : Nat) : Int) < 1
  · have e : ((g : Nat) : Int) = 0 := by omega
    rw [e] at h1 h2 ⊢
    have := Int.zero_dvd.mp h1
    have := Int.zero_dvd.mp h2
    exact ⟨by omega, by omega⟩
  · rw [if_neg c]
    exact ⟨Int.ediv_mul_cancel h1, Int.ediv_mul_cancel h2⟩
theorem pure_divisor_answer (K : PySem.W.Frag) (vs : List V) (H : Hp) (Q : VK) (E : XK) (h : sp_divisor_answer K vs H Q E) : t_divisor_answer K { nx := fun _ H' => Q .non H', rt := Q } (start ["one", "other", "common", "u", "v", "share"] vs) H := by
  obtain ⟨a, b, rfl, sa, sb, hq⟩ := h
  unfold t_divisor_answer
  walk_at "z"
  refine ⟨a, rfl, sa.1, sa.2, ?_⟩
  walk_at "z"
  refine ⟨b, rfl, sb.1, sb.2, ?_⟩
  walk_at "z"
  refine ⟨a, b, rfl, sz_mono sa.sz (by decide), sz_mono sb.sz (by decide), fun p u v H1 s1 e su sv hp => ?_⟩
  refine ⟨p, _, rfl, sqT_of hp, rfl, ?_⟩
  walk_at "z"
  have gl := gI_le sa sb
  obtain ⟨m1, m2⟩ := share_mul (a := a) (b := b)
  have hsh : 0 < (if gI a b < 1 then 1 else gI a b) ∧ (if gI a b < 1 then 1 else gI a b).natAbs < 2 ^ 250 := by
    split
    · exact ⟨by decide, by decide⟩
    · exact ⟨by omega, by omega⟩
  change 4 ≤ sizeLine ∧ ∀ C, H1 C = none → _
  refine ⟨by decide, fun C hC => ?_⟩
  show CDivW a (if gI a b < 1 then 1 else gI a b) ∧ CDivW b (if gI a b < 1 then 1 else gI a b) ∧ 4 ≤ sizeLine ∧ _
  refine ⟨wide_div (b := 250) hsh.1 hsh.2 (by decide) (by decide), wide_div (b := 250) hsh.1 hsh.2 (by decide) (by decide), by decide, fun P hP => ⟨by decide, fun A hA => ?_⟩⟩
  have sP := same_upd (o := .tup [V.int u, V.int v, V.int (a / (if gI a b < 1 then 1 else gI a b)), V.int (b / (if gI a b < 1 then 1 else gI a b))]) hP
  have sA := same_upd (o := .tup [V.ref C, V.ref P]) hA
  exact hq A C P u v _ _ _ ((s1.trans (same_upd hC)).trans (sP.trans sA)) upd_same (sA _ _ (sP _ _ upd_same)) (sA _ _ upd_same) e m1 m2 su sv (sz_le sa.sz (div_le hsh.1)) (sz_le sb.sz (div_le hsh.1))
theorem ok_divisor_answer {P : Program} {w : World} {K : PySem.W.Frag} {mg : Str → Option Value} {base : Heap} (T : Tx K mg) : Okk P w K mg base 4 "divisor_answer" ["one", "other"] (sp_divisor_answer K) := by
  obtain ⟨fd_bezout, F_bezout, b_bezout, g_bezout, k_bezout⟩ := ok_bezout (P := P) (w := w) (base := base) T
  obtain ⟨fd_check_integer, F_check_integer, b_check_integer, g_check_integer, k_check_integer⟩ := ok_check_integer (P := P) (w := w) (base := base) T
  have hf_max := T.n_max
  obtain ⟨fd, F⟩ := T.f_divisor_answer
  refine ⟨fd, F.ok sc_divisor_answer (fun vs H Q E h => len_divisor_answer h) (fun cdv A outer s H vs Q E hr h => ⟨t_divisor_answer K, PSs.nox ?_, pure_divisor_answer K vs H Q E h⟩), F.bindsN (fun _ _ _ _ _ _ us hl => match us, hl with | [_, _], _ => rfl), T.g_divisor_answer, F.kp⟩
  exact (pss_cons (ps_expr (pe_call F_check_integer (hr.mono (by decide)) rfl g_check_integer k_check_integer b_check_integer .nil pass0 (pa_cons (pv 0) pa_nil)))
      (pss_cons (ps_expr (pe_call F_check_integer (hr.mono (by decide)) rfl g_check_integer k_check_integer b_check_integer .nil pass0 (pa_cons (pv 1) pa_nil)))
      (pss_cons (ps_asg (pe_call F_bezout (hr.mono (by decide)) rfl g_bezout k_bezout b_bezout .nil pass0 (pa_cons (pv 0) (pa_cons (pv 1) pa_nil))) (pg_tup rfl (pgs_cons (pg_name (i := 2) sc_divisor_answer.nd rfl (by first | exact Or.inl rfl | exact Or.inr rfl)) (pgs_cons (pg_name (i := 3) sc_divisor_answer.nd rfl (by first | exact Or.inl rfl | exact Or.inr rfl)) (pgs_cons (pg_name (i := 4) sc_divisor_answer.nd rfl (by first | exact Or.inl rfl | exact Or.inr rfl)) pgs_nil)))))
      (pss_cons (ps_set (i := 5) sc_divisor_answer.nd rfl (by first | exact Or.inl rfl | exact Or.inr rfl) (pe_callB (call_max2 rfl) (by rfl) hf_max (by decide +kernel) (pa_cons (pv 2) (pa_cons pe_int pa_nil))))
      (pss_one (ps_ret (pe_tup (pa_cons (pe_tup (pa_cons pe_str (pa_cons (pv 0) (pa_cons (pv 1) (pa_cons (pv 2) pa_nil))))) (pa_cons (pe_tup (pa_cons (pv 3) (pa_cons (pv 4) (pa_cons (pe_op op_fdivW (pv 0) (pv 5)) (pa_cons (pe_op op_fdivW (pv 1) (pv 5)) pa_nil))))) pa_nil)))))))))
/-! ### rests_answer -/
theorem sc_rests_answer : FnScope ["pairs", "clash"] ["pairs"] (defScope s_rests_answer) := ⟨rfl, rfl, rfl, by decide +kernel, rfl, by decide +kernel, by decide +kernel⟩
def rsS : PySem.Str := PySem.Str.ofString "rests"
def nrS : PySem.Str := PySem.Str.ofString "no rests"
def sp_rests_answer (K : PySem.W.Frag) : Sp := fun vs H Q _ => ∃ (T : Addr) (xs : List V) (ps : List (Int × Int)), vs = [.ref T] ∧ H T = some (.tup xs) ∧ PQ H xs ps ∧ PsOk ps ∧
  (NoClash ps → ∀ A C x H', Same H H' → H' A = some (.tup [.ref C, .int x]) → H' C = some (.tup [.str rsS, .ref T]) → Sol ps x → Sz 1300 x → Q (.ref A) H') ∧
  (∀ (i j : Nat) (p q : Int × Int) A C P H', ps[i]? = some p → ps[j]? = some q → i < j → Clash p q → Same H H' → H' A = some (.tup [.ref C, .ref P]) → H' C = some (.tup [.str nrS, .ref T]) → H' P = some (.tup [.int (i : Int), .int (j : Int), .int (gI p.1 q.1)]) → Q (.ref A) H')
theorem len_rests_answer {K : PySem.W.Frag} {vs : List V} {H : Hp} {Q : VK} {E : XK} (h : sp_rests_answer K vs H Q E) : vs.length = ["pairs"].length := by
  obtain ⟨_, _, _, rfl, _⟩ := h
  rfl
def t_rests_answer (K : PySem.W.Frag) : TS := (tSeq (tIfS (tNot (tB (tCall (sp_are_pairs K) [] E0 (tCons (tVar 0) tNil)))) tNever tNext)
  (tSeq (tAsg (tCall (sp_first_clash K) [] E0 (tCons (tVar 0) tNil)) (gName 1))
  (tSeq (tIfS (tB (tIsN (tVar 1))) (tRet (tTup (tCons (tTup (tCons (tC (.str "rests")) (tCons (tVar 0) tNil))) (tCons (tCall (sp_joint_rest K) [] E0 (tCons (tVar 0) tNil)) tNil)))) tNext)
  (tRet (tTup (tCons (tTup (tCons (tC (.str "no rests")) (tCons (tVar 0) tNil))) (tCons (tVar 1) tNil)))))))
theorem pure_rests_answer (K : PySem.W.Frag) (vs : List V) (H : Hp) (Q : VK) (E : XK) (h : sp_rests_answer K vs H Q E) : t_rests_answer K { nx := fun _ H' => Q .non H', rt := Q } (start ["pairs", "clash"] vs) H := by
  obtain ⟨T, xs, ps, rfl, hT, hP, hok, hq1, hq2⟩ := h
  unfold t_rests_answer
  walk_at "z"
  refine ⟨T, xs, ps, rfl, hT, hP, hok, ?_⟩
  walk_at "z"
  refine ⟨T, xs, ps, rfl, hT, hP, hok, fun hn => ?_, fun i j p q t hi hj hij hc ht => ?_⟩
  · show if V.non = V.non then _ else _
    rw [if_pos rfl]
    refine ⟨by decide, fun C hC => ?_⟩
    have sC := same_upd (o := .tup [V.str rsS, V.ref T]) hC
    refine ⟨T, xs, ps, rfl, sC _ _ hT, hP.same sC, hok, hn, fun x H' s hs hx => ⟨by decide, fun A hA => ?_⟩⟩
    have sA := same_upd (o := .tup [V.ref C, V.int x]) hA
    exact hq1 hn A C x _ ((sC.trans s).trans sA) upd_same (sA _ _ (s _ _ upd_same)) hs hx
  · show if V.ref t = V.non then _ else _
    rw [if_neg (by simp)]
    refine ⟨by decide, fun C hC => ⟨by decide, fun A hA => ?_⟩⟩
    have sC := same_upd (o := .tup [V.str nrS, V.ref T]) hC
    have sA := same_upd (o := .tup [V.ref C, V.ref t]) hA
    exact hq2 i j p q A C t _ hi hj hij hc ((same_upd ht).trans (sC.trans sA)) upd_same (sA _ _ upd_same) (sA _ _ (sC _ _ upd_same))

theorem ok_rests_answer {P : Program} {w : World} {K : PySem.W.Frag} {mg : Str → Option Value} {base : Heap} (T : Tx K mg) : Okk P w K mg base 4 "rests_answer" ["pairs"] (sp_rests_answer K) := by
  obtain ⟨fd_are_pairs, F_are_pairs, b_are_pairs, g_are_pairs, k_are_pairs⟩ := ok_are_pairs (P := P) (w := w) (base := base) T
  obtain ⟨fd_first_clash, F_first_clash, b_first_clash, g_first_clash, k_first_clash⟩ := ok_first_clash (P := P) (w := w) (base := base) T
  obtain ⟨fd_joint_rest, F_joint_rest, b_joint_rest, g_joint_rest, k_joint_rest⟩ := ok_joint_rest (P := P) (w := w) (base := base) T
  obtain ⟨fd, F⟩ := T.f_rests_answer
  refine ⟨fd, F.ok sc_rests_answer (fun vs H Q E h => len_rests_answer h) (fun cdv A outer s H vs Q E hr h => ⟨t_rests_answer K, PSs.nox ?_, pure_rests_answer K vs H Q E h⟩), F.bindsN (fun _ _ _ _ _ _ us hl => match us, hl with | [_], _ => rfl), T.g_rests_answer, F.kp⟩
  exact (pss_cons (ps_if (pt_not (pt_val (pe_call F_are_pairs (hr.mono (by decide)) rfl g_are_pairs k_are_pairs b_are_pairs .nil pass0 (pa_cons (pv 0) pa_nil)))) pss_never pss_nil)
      (pss_cons (ps_set (i := 1) sc_rests_answer.nd rfl (by first | exact Or.inl rfl | exact Or.inr rfl) (pe_call F_first_clash (hr.mono (by decide)) rfl g_first_clash k_first_clash b_first_clash .nil pass0 (pa_cons (pv 0) pa_nil)))
      (pss_cons (ps_if (pt_cmp (pc_isN (pv 1))) (pss_one (ps_ret (pe_tup (pa_cons (pe_tup (pa_cons pe_str (pa_cons (pv 0) pa_nil))) (pa_cons (pe_call F_joint_rest (hr.mono (by decide)) rfl g_joint_rest k_joint_rest b_joint_rest .nil pass0 (pa_cons (pv 0) pa_nil)) pa_nil))))) pss_nil)
      (pss_one (ps_ret (pe_tup (pa_cons (pe_tup (pa_cons pe_str (pa_cons (pv 0) pa_nil))) (pa_cons (pv 1) pa_nil))))))))
/-! dice -/
def Dice (H : Hp) (d : Addr) : Prop := ∃ a b c : Int, H d = some (.lst [.int a, .int b, .int c])
theorem Keep.refl (d : Addr) (H : Hp) : Keep d H H := fun _ _ _ h => h
theorem Keep.trans {d : Addr} {H H1 H2 : Hp} (a : Keep d H H1) (b : Keep d H1 H2) : Keep d H H2 := fun c o n h => b c o n (a c o n h)
theorem Keep.put {d : Addr} {H H1 : Hp} {o : HO} (a : Keep d H H1) : Keep d H (L2.upd H1 d o) := fun b u n h => by rw [upd_ne n]; exact a b u n h
theorem Keep.same {d : Addr} {H H1 H2 : Hp} (a : Keep d H H1) (b : Same H1 H2) : Keep d H H2 := fun c o n h => b c o (a c o n h)
theorem Dice.same {d : Addr} {H H1 : Hp} (a : Dice H d) (b : Same H H1) : Dice H1 d := by
  obtain ⟨x, y, z, h⟩ := a
  exact ⟨x, y, z, b _ _ h⟩
theorem Keep.new {d p : Addr} {H H1 : Hp} {o : HO} (a : Keep d H H1) (hp : H1 p = none) : Keep d H (L2.upd H1 p o) := a.same (same_upd hp)
/-- a list of dice made on the way is nothing of the old heap -/
theorem Keep.out {d : Addr} {H0 H H1 : Hp} (s : Same H0 H) (n : H0 d = none) (a : Keep d H H1) : Same H0 H1 := fun b o h => a b o (ne_of_none h n) (s b o h)
theorem cpow {i j : Int} (h : 0 ≤ j ∧ j ≤ 1000000 ∧ i.natAbs < 2 ^ 64) : CPow i j := h
theorem divM {i m : Int} (h : 0 < m) (h2 : m < 2 ^ 250) : CDivW i m := wide_div (b := 250) h (by omega) (by decide) (by decide)
theorem atI_nat {α : Type} {xs : List α} {i : Nat} {x : α} (h : xs[i]? = some x) : atI xs (i : Int) = some x := by
  have hl := (List.getElem?_eq_some_iff.mp h).1
  unfold atI ixN
  rw [if_pos (by omega), if_pos (by omega)]
  exact h
/-! ### _law_dice -/
theorem sc__law_dice : FnScope ["script", "spot", "cell", "left"] ["script", "spot"] (defScope s__law_dice) := ⟨rfl, rfl, rfl, by decide +kernel, rfl, by decide +kernel, by decide +kernel⟩
def sp__law_dice (K : PySem.W.Frag) : Sp := fun vs H Q _ => ∃ (a : Addr) (ns : List Int) (spot : Nat), vs = [.ref a, .int (spot : Int)] ∧ SqL K H a (ns.map V.int) ∧
  ∀ D H', H D = none → Same H H' → Dice H' D → Q (.ref D) H'
theorem len__law_dice {K : PySem.W.Frag} {vs : List V} {H : Hp} {Q : VK} {E : XK} (h : sp__law_dice K vs H Q E) : vs.length = ["script", "spot"].length := by
  obtain ⟨_, _, _, rfl, _⟩ := h
  rfl
def t__law_dice (K : PySem.W.Frag) : TS := (tSeq (tAsg (tIf (tTest (tOp rLtI (tVar 1) (tCB (rLenU K) (tCons (tVar 0) tNil)))) (tCB (rInt1) (tCons (tOp (rIxA K) (tVar 0) (tVar 1)) tNil)) (tOp rAdd (tOp rMulU (tC (.int 97)) (tVar 1)) (tC (.int 59)))) (gName 2))
  (tSeq (tAsg (tOp rModU (tCB (rMax2) (tCons (tC (.int 0)) (tCons (tOp rSub (tCB (rAbs) (tCons (tVar 2) tNil)) (tOp rPowU (tC (.int 10)) (tC (.int 16)))) tNil))) (tOp rMulU (tOp rPowU (tC (.int 10)) (tC (.int 58))) (tOp rPowU (tC (.int 10)) (tC (.int 60))))) (gName 3))
  (tRet (tLst (tCons (tVar 3) (tCons (tOp rAdd (tOp rAdd (tOp rAdd (tOp rMulU (tOp rModU (tCB (rAbs) (tCons (tVar 2) tNil)) (tC (.int 1152921504606846733))) (tC (.int 83))) (tOp rMulU (tC (.int 1033)) (tVar 1))) (tOp rMulU (tC (.int 61)) (tCB (rInt1) (tCons (tOp rLtI (tVar 2) (tC (.int 0))) tNil)))) (tC (.int 29))) (tCons (tC (.int 0)) tNil)))))))
theorem big_mul : CMul (10 ^ (58 : Int).toNat) (10 ^ (60 : Int).toNat) ∨ CMulW (10 ^ (58 : Int).toNat) (10 ^ (60 : Int).toNat) :=
  .inr (wide_mul (a := 200) (b := 210) (by decide) (by decide) (by decide) (by decide) (by decide))
theorem pure__law_dice (K : PySem.W.Frag) (vs : List V) (H : Hp) (Q : VK) (E : XK) (h : sp__law_dice K vs H Q E) : t__law_dice K { nx := fun _ H' => Q .non H', rt := Q } (start ["script", "spot", "cell", "left"] vs) H := by
  obtain ⟨a, ns, spot, rfl, hS, hq⟩ := h
  unfold t__law_dice
  walk_at "z"
  refine lenL hS ?_
  walk_at "z"
  by_cases hs : (spot : Int) < ((ns.map V.int).length : Int)
  · rw [if_pos hs]
    have hs2 : spot < ns.length := by simpa using hs
    refine ixL hS (v := .int ns[spot]) (atI_nat (by simp [hs2])) ?_
    walk_at "z"
    refine ⟨cpow (by decide), cpow (by decide), cpow (by decide), big_mul, by decide, by decide, mulR (by decide), mulS (by decide), mulS (by decide), by decide, fun p hp => ?_⟩
    exact hq p _ hp (same_upd hp) ⟨_, _, _, upd_same⟩
  · rw [if_neg hs]
    refine ⟨mulS (by decide), cpow (by decide), cpow (by decide), cpow (by decide), big_mul, by decide, by decide, mulR (by decide), mulS (by decide), mulS (by decide), by decide, fun p hp => ?_⟩
    exact hq p _ hp (same_upd hp) ⟨_, _, _, upd_same⟩
theorem ok__law_dice {P : Program} {w : World} {K : PySem.W.Frag} {mg : Str → Option Value} {base : Heap} (T : Tx K mg) : Okk P w K mg base 1 "_law_dice" ["script", "spot"] (sp__law_dice K) := by
  have hf_abs := T.n_abs
  have hf_int := T.n_int
  have hf_len := T.n_len
  have hf_max := T.n_max
  obtain ⟨fd, F⟩ := T.f__law_dice
  refine ⟨fd, F.ok sc__law_dice (fun vs H Q E h => len__law_dice h) (fun cdv A outer s H vs Q E hr h => ⟨t__law_dice K, PSs.nox ?_, pure__law_dice K vs H Q E h⟩), F.bindsN (fun _ _ _ _ _ _ us hl => match us, hl with | [_, _], _ => rfl), T.g__law_dice, F.kp⟩
  exact (pss_cons (ps_set (i := 2) sc__law_dice.nd rfl (by first | exact Or.inl rfl | exact Or.inr rfl) (pe_ifExp (pt_cmpR op_lt (pv 1) (pe_callB call_len_seq (by rfl) hf_len (by decide +kernel) (pa_cons (pv 0) pa_nil)) (nomark _)) (pe_callTy call_int1 (by rfl) hf_int (by decide +kernel) (pa_cons (pe_ix ix_lt (pv 0) (pv 1) (fun _ _ => rfl)) pa_nil)) (pe_op op_add (pe_op op_mulU pe_int (pv 1)) pe_int)))
      (pss_cons (ps_set (i := 3) sc__law_dice.nd rfl (by first | exact Or.inl rfl | exact Or.inr rfl) (pe_op op_mod (pe_callB (call_max2 rfl) (by rfl) hf_max (by decide +kernel) (pa_cons pe_int (pa_cons (pe_op op_sub (pe_callB call_abs (by rfl) hf_abs (by decide +kernel) (pa_cons (pv 2) pa_nil)) (pe_op op_pow pe_int pe_int)) pa_nil))) (pe_op op_mulU (pe_op op_pow pe_int pe_int) (pe_op op_pow pe_int pe_int))))
      (pss_one (ps_ret (pe_lst (pa_cons (pv 3) (pa_cons (pe_op op_add (pe_op op_add (pe_op op_add (pe_op op_mulU (pe_op op_mod (pe_callB call_abs (by rfl) hf_abs (by decide +kernel) (pa_cons (pv 2) pa_nil)) pe_int) pe_int) (pe_op op_mulU pe_int (pv 1))) (pe_op op_mulU pe_int (pe_callTy call_int1 (by rfl) hf_int (by decide +kernel) (pa_cons (pe_cmpR op_lt (pv 2) pe_int (nomark _)) pa_nil)))) pe_int) (pa_cons pe_int pa_nil))))))))
/-! ### _law_roll -/
theorem sc__law_roll : FnScope ["dice", "most", "found", "one", "two"] ["dice", "most"] (defScope s__law_roll) := ⟨rfl, rfl, rfl, by decide +kernel, rfl, by decide +kernel, by decide +kernel⟩
def sp__law_roll (K : PySem.W.Frag) : Sp := fun vs H Q _ => ∃ (d : Addr) (most : Int), vs = [.ref d, .int most] ∧ Dice H d ∧ 0 < most ∧ most < 2 ^ 250 ∧ ∀ r H', 0 ≤ r → r < most → Keep d H H' → Dice H' d → Q (.int r) H'
theorem len__law_roll {K : PySem.W.Frag} {vs : List V} {H : Hp} {Q : VK} {E : XK} (h : sp__law_roll K vs H Q E) : vs.length = ["dice", "most"].length := by
  obtain ⟨_, _, rfl, _⟩ := h
  rfl
def t__law_roll (K : PySem.W.Frag) : TS := (tSeq (tIfS (tTest (tOp rGtI (tOp (rIxA K) (tVar 0) (tC (.int 0))) (tC (.int 0)))) (tSeq (tAsg (tOp rModU (tCB (rInt1) (tCons (tOp (rIxA K) (tVar 0) (tC (.int 0))) tNil)) (tVar 1)) (gName 2))
  (tSeq (tAsg (tOp rDivU (tOp (rIxA K) (tVar 0) (tC (.int 0))) (tVar 1)) (gSub (tVar 0) (tC (.int 0)) rSetL))
  (tRet (tVar 2)))) tNext)
  (tSeq (tAsg (tOp rAdd (tOp (rIxA K) (tVar 0) (tC (.int 2))) (tC (.int 1))) (gSub (tVar 0) (tC (.int 2)) rSetL))
  (tSeq (tAsg (tOp rModU (tCB (rInt1) (tCons (tOp rAdd (tOp (rIxA K) (tVar 0) (tC (.int 1))) (tOp rMulU (tC (.int 86028121)) (tOp (rIxA K) (tVar 0) (tC (.int 2))))) tNil)) (tC (.int 2305843009213693561))) (gName 3))
  (tSeq (tAsg (tOp rModU (tCB (rInt1) (tCons (tOp rAdd (tOp rMulU (tVar 3) (tVar 3)) (tOp rMulU (tC (.int 103)) (tOp (rIxA K) (tVar 0) (tC (.int 2))))) tNil)) (tC (.int 2305843009213693669))) (gName 4))
  (tRet (tOp rModU (tCB (rInt1) (tCons (tOp rDivU (tOp rAdd (tOp rMulU (tVar 4) (tC (.int 7654321))) (tVar 3)) (tC (.int 65557))) tNil)) (tVar 1)))))))
theorem pure__law_roll (K : PySem.W.Frag) (vs : List V) (H : Hp) (Q : VK) (E : XK) (h : sp__law_roll K vs H Q E) : t__law_roll K { nx := fun _ H' => Q .non H', rt := Q } (start ["dice", "most", "found", "one", "two"] vs) H := by
  obtain ⟨d, most, rfl, ⟨a, b, c, hD⟩, h0, h1, hq⟩ := h
  unfold t__law_roll
  walk_at "z"
  refine ixL (sqL_of hD) rfl ?_
  walk_at "z"
  by_cases ha : 0 < a
  · rw [if_pos ha]
    refine ixL (sqL_of hD) rfl ?_
    walk_at "z"
    refine ⟨h0, ixL (sqL_of hD) rfl ?_⟩
    walk_at "z"
    refine ⟨divM h0 h1, setL hD rfl ?_⟩
    walk_at "z"
    exact hq _ _ (Int.emod_nonneg _ (by omega)) (Int.emod_lt_of_pos _ h0) (Keep.refl d H).put ⟨_, _, _, upd_same⟩
  · rw [if_neg ha]
    refine ixL (sqL_of hD) rfl ?_
    walk_at "z"
    refine setL hD rfl ?_
    walk_at "z"
    refine ixL (sqL_of upd_same) rfl ?_
    walk_at "z"
    refine ixL (sqL_of upd_same) rfl ?_
    walk_at "z"
    have e := Int.emod_nonneg (b + 86028121 * (c + 1)) (show (2305843009213693561 : Int) ≠ 0 by decide)
    have e2 := Int.emod_lt_of_pos (b + 86028121 * (c + 1)) (show (0 : Int) < 2305843009213693561 by decide)
    refine ⟨mulS (by decide), by decide, mulS (by omega), ixL (sqL_of upd_same) rfl ?_⟩
    walk_at "z"
    refine ⟨mulS (by decide), by decide, mulR (by decide), divS (by decide) (by decide), h0, ?_⟩
    exact hq _ _ (Int.emod_nonneg _ (by omega)) (Int.emod_lt_of_pos _ h0) (Keep.refl d H).put ⟨_, _, _, upd_same⟩
theorem ok__law_roll {P : Program} {w : World} {K : PySem.W.Frag} {mg : Str → Option Value} {base : Heap} (T : Tx K mg) : Okk P w K mg base 1 "_law_roll" ["dice", "most"] (sp__law_roll K) := by
  have hf_int := T.n_int
  obtain ⟨fd, F⟩ := T.f__law_roll
  refine ⟨fd, F.ok sc__law_roll (fun vs H Q E h => len__law_roll h) (fun cdv A outer s H vs Q E hr h => ⟨t__law_roll K, PSs.nox ?_, pure__law_roll K vs H Q E h⟩), F.bindsN (fun _ _ _ _ _ _ us hl => match us, hl with | [_, _], _ => rfl), T.g__law_roll, F.kp⟩
  exact (pss_cons (ps_if (pt_cmpR op_gt (pe_ix ix_lt (pv 0) pe_int (fun _ _ => rfl)) pe_int (nomark _)) (pss_cons (ps_set (i := 2) sc__law_roll.nd rfl (by first | exact Or.inl rfl | exact Or.inr rfl) (pe_op op_mod (pe_callTy call_int1 (by rfl) hf_int (by decide +kernel) (pa_cons (pe_ix ix_lt (pv 0) pe_int (fun _ _ => rfl)) pa_nil)) (pv 1)))
      (pss_cons (ps_asg (pe_op op_fdivW (pe_ix ix_lt (pv 0) pe_int (fun _ _ => rfl)) (pv 1)) (pg_sub (pv 0) pe_int set_list))
      (pss_one (ps_ret (pv 2))))) pss_nil)
      (pss_cons (ps_asg (pe_op op_add (pe_ix ix_lt (pv 0) pe_int (fun _ _ => rfl)) pe_int) (pg_sub (pv 0) pe_int set_list))
      (pss_cons (ps_set (i := 3) sc__law_roll.nd rfl (by first | exact Or.inl rfl | exact Or.inr rfl) (pe_op op_mod (pe_callTy call_int1 (by rfl) hf_int (by decide +kernel) (pa_cons (pe_op op_add (pe_ix ix_lt (pv 0) pe_int (fun _ _ => rfl)) (pe_op op_mulU pe_int (pe_ix ix_lt (pv 0) pe_int (fun _ _ => rfl)))) pa_nil)) pe_int))
      (pss_cons (ps_set (i := 4) sc__law_roll.nd rfl (by first | exact Or.inl rfl | exact Or.inr rfl) (pe_op op_mod (pe_callTy call_int1 (by rfl) hf_int (by decide +kernel) (pa_cons (pe_op op_add (pe_op op_mulU (pv 3) (pv 3)) (pe_op op_mulU pe_int (pe_ix ix_lt (pv 0) pe_int (fun _ _ => rfl)))) pa_nil)) pe_int))
      (pss_one (ps_ret (pe_op op_mod (pe_callTy call_int1 (by rfl) hf_int (by decide +kernel) (pa_cons (pe_op op_fdivW (pe_op op_add (pe_op op_mulU (pv 4) pe_int) (pv 3)) pe_int) pa_nil)) (pv 1))))))))
/-! ### _law_gcd -/
theorem sc__law_gcd : FnScope ["one", "other"] ["one", "other"] (defScope s__law_gcd) := ⟨rfl, rfl, rfl, by decide +kernel, rfl, by decide +kernel, by decide +kernel⟩
def sp__law_gcd (K : PySem.W.Frag) : Sp := fun vs H Q _ => ∃ a b : Int, vs = [.int a, .int b] ∧ Q (.int ((Nat.gcd a.natAbs b.natAbs : Nat) : Int)) H
theorem len__law_gcd {K : PySem.W.Frag} {vs : List V} {H : Hp} {Q : VK} {E : XK} (h : sp__law_gcd K vs H Q E) : vs.length = ["one", "other"].length := by
  obtain ⟨_, _, rfl, _⟩ := h
  rfl
def t__law_gcd_w1_c (K : PySem.W.Frag) : TT := (tTest (tOp rGtI (tVar 1) (tC (.int 0))))
def t__law_gcd_w1_b (K : PySem.W.Frag) : TS := (tPar 0 1 (tCons (tVar 1) (tCons (tOp rModU (tCB (rInt1) (tCons (tVar 0) tNil)) (tVar 1)) tNil)))
def t__law_gcd (K : PySem.W.Frag) : TS := (tSeq (tPar 0 1 (tCons (tCB (rAbs) (tCons (tVar 0) tNil)) (tCons (tCB (rAbs) (tCons (tVar 1) tNil)) tNil)))
  (tSeq (tWhile (t__law_gcd_w1_c K) (t__law_gcd_w1_b K))
  (tRet (tVar 0))))
theorem abs_nat (a : Int) : (if a < 0 then -a else a) = ((a.natAbs : Nat) : Int) := by split <;> omega
theorem pure__law_gcd (K : PySem.W.Frag) (vs : List V) (H : Hp) (Q : VK) (E : XK) (h : sp__law_gcd K vs H Q E) : t__law_gcd K { nx := fun _ H' => Q .non H', rt := Q } (start ["one", "other"] vs) H := by
  obtain ⟨a, b, rfl, hq⟩ := h
  unfold t__law_gcd
  walk_at "z"
  rw [abs_nat, abs_nat]
  refine while_of (fun μ σ H' => ∃ x y : Nat, σ = [some (.int (x : Int)), some (.int (y : Int))] ∧ H' = H ∧ Nat.gcd x y = Nat.gcd a.natAbs b.natAbs ∧ μ = y) b.natAbs ⟨_, _, rfl, rfl, rfl, rfl⟩ ?_
  rintro μ σ H' ⟨x, y, rfl, rfl, hg, rfl⟩ N hN hN2
  unfold t__law_gcd_w1_c t__law_gcd_w1_b
  walk_at "z"
  by_cases h0 : 0 < μ
  · rw [if_pos (by omega)]
    refine ⟨N, hN2, ?_⟩
    walk_at "z"
    refine ⟨by omega, hN (x % μ) _ _ (Nat.mod_lt _ h0) ⟨μ, x % μ, by rw [Int.natCast_emod], rfl, ?_, rfl⟩⟩
    rw [← hg, Nat.gcd_comm μ (x % μ), ← Nat.gcd_rec μ x, Nat.gcd_comm]
  · rw [if_neg (by omega)]
    obtain rfl : μ = 0 := by omega
    rw [Nat.gcd_zero_right] at hg
    subst hg
    exact hq
theorem ok__law_gcd {P : Program} {w : World} {K : PySem.W.Frag} {mg : Str → Option Value} {base : Heap} (T : Tx K mg) : Okk P w K mg base 1 "_law_gcd" ["one", "other"] (sp__law_gcd K) := by
  have hf_abs := T.n_abs
  have hf_int := T.n_int
  obtain ⟨fd, F⟩ := T.f__law_gcd
  refine ⟨fd, F.ok sc__law_gcd (fun vs H Q E h => len__law_gcd h) (fun cdv A outer s H vs Q E hr h => ⟨t__law_gcd K, PSs.nox ?_, pure__law_gcd K vs H Q E h⟩), F.bindsN (fun _ _ _ _ _ _ us hl => match us, hl with | [_, _], _ => rfl), T.g__law_gcd, F.kp⟩
  exact (pss_cons (ps_par (i := 0) (j := 1) rfl sc__law_gcd.nd rfl rfl (by decide) rfl rfl (pa_cons (pe_callB call_abs (by rfl) hf_abs (by decide +kernel) (pa_cons (pv 0) pa_nil)) (pa_cons (pe_callB call_abs (by rfl) hf_abs (by decide +kernel) (pa_cons (pv 1) pa_nil)) pa_nil)) (by rfl))
      (pss_cons (ps_while PassesOwn.never (pt_cmpR op_gt (pv 1) pe_int (nomark _)) (pss_one (ps_par (i := 0) (j := 1) rfl sc__law_gcd.nd rfl rfl (by decide) rfl rfl (pa_cons (pv 1) (pa_cons (pe_op op_mod (pe_callTy call_int1 (by rfl) hf_int (by decide +kernel) (pa_cons (pv 0) pa_nil)) (pv 1)) pa_nil)) (by rfl))))
      (pss_one (ps_ret (pv 0)))))
/-! ### _law_is_plain -/
theorem sc__law_is_plain : FnScope ["value"] ["value"] (defScope s__law_is_plain) := ⟨rfl, rfl, rfl, by decide +kernel, rfl, by decide +kernel, by decide +kernel⟩
def sp__law_is_plain (K : PySem.W.Frag) : Sp := fun vs H Q _ => ∃ i : Int, vs = [.int i] ∧ Q (.bl true) H
theorem len__law_is_plain {K : PySem.W.Frag} {vs : List V} {H : Hp} {Q : VK} {E : XK} (h : sp__law_is_plain K vs H Q E) : vs.length = ["value"].length := by
  obtain ⟨_, rfl, _⟩ := h
  rfl
def t__law_is_plain (K : PySem.W.Frag) : TS := (tRet (tAndV (tCB (rIsi K) (tCons (tVar 0) (tCons (tC (.ty "int")) tNil))) (tNotV (tCB (rIsi K) (tCons (tVar 0) (tCons (tC (.ty "bool")) tNil))))))
theorem pure__law_is_plain (K : PySem.W.Frag) (vs : List V) (H : Hp) (Q : VK) (E : XK) (h : sp__law_is_plain K vs H Q E) : t__law_is_plain K { nx := fun _ H' => Q .non H', rt := Q } (start ["value"] vs) H := by
  obtain ⟨i, rfl, hq⟩ := h
  unfold t__law_is_plain
  walk_at "z"
  refine isi_int ?_
  walk_at "z"
  refine isi_intB ?_
  walk_at "z"
  exact hq
theorem ok__law_is_plain {P : Program} {w : World} {K : PySem.W.Frag} {mg : Str → Option Value} {base : Heap} (T : Tx K mg) : Okk P w K mg base 1 "_law_is_plain" ["value"] (sp__law_is_plain K) := by
  have hf_bool := T.n_bool
  have hf_int := T.n_int
  have hf_isinstance := T.n_isinstance
  obtain ⟨fd, F⟩ := T.f__law_is_plain
  refine ⟨fd, F.ok sc__law_is_plain (fun vs H Q E h => len__law_is_plain h) (fun cdv A outer s H vs Q E hr h => ⟨t__law_is_plain K, PSs.nox ?_, pure__law_is_plain K vs H Q E h⟩), F.bindsN (fun _ _ _ _ _ _ us hl => match us, hl with | [_], _ => rfl), T.g__law_is_plain, F.kp⟩
  exact (pss_one (ps_ret (pe_and (pe_callB call_isi (by rfl) hf_isinstance (by decide +kernel) (pa_cons (pv 0) (pa_cons (pe_bltn (v := .ty "int") rfl hf_int (by decide +kernel) rfl) pa_nil))) (pe_one (pe_not (pe_callB call_isi (by rfl) hf_isinstance (by decide +kernel) (pa_cons (pv 0) (pa_cons (pe_bltn (v := .ty "bool") rfl hf_bool (by decide +kernel) rfl) pa_nil))))))))
/-! ### _law_pick -/
theorem sc__law_pick : FnScope ["dice", "items"] ["dice", "items"] (defScope s__law_pick) := ⟨rfl, rfl, rfl, by decide +kernel, rfl, by decide +kernel, by decide +kernel⟩
def sp__law_pick (K : PySem.W.Frag) : Sp := fun vs H Q _ => ∃ (d L : Addr) (xs : List V), vs = [.ref d, .ref L] ∧ Dice H d ∧ d ≠ L ∧ H L = some (.lst xs) ∧ xs ≠ [] ∧ xs.length < 2 ^ 40 ∧ ∀ v H', v ∈ xs → Keep d H H' → Dice H' d → Q v H'
theorem len__law_pick {K : PySem.W.Frag} {vs : List V} {H : Hp} {Q : VK} {E : XK} (h : sp__law_pick K vs H Q E) : vs.length = ["dice", "items"].length := by
  obtain ⟨_, _, _, rfl, _⟩ := h
  rfl
def t__law_pick (K : PySem.W.Frag) : TS := (tRet (tOp (rIxA K) (tVar 1) (tCall (sp__law_roll K) [] E0 (tCons (tVar 0) (tCons (tCB (rLenU K) (tCons (tVar 1) tNil)) tNil)))))
theorem pure__law_pick (K : PySem.W.Frag) (vs : List V) (H : Hp) (Q : VK) (E : XK) (h : sp__law_pick K vs H Q E) : t__law_pick K { nx := fun _ H' => Q .non H', rt := Q } (start ["dice", "items"] vs) H := by
  obtain ⟨d, L, xs, rfl, hD, hne, hL, hx, hl, hq⟩ := h
  unfold t__law_pick
  walk_at "z"
  refine lenL (sqL_of hL) ?_
  walk_at "z"
  have hp : 0 < xs.length := List.length_pos_iff.mpr hx
  refine ⟨d, _, rfl, hD, by omega, by omega, fun r H' r0 r1 k1 d1 => ?_⟩
  walk_at "z"
  have hr : r.toNat < xs.length := by omega
  have e : r = ((r.toNat : Nat) : Int) := by omega
  refine ixL (sqL_of (k1 _ _ (Ne.symm hne) hL)) (v := xs[r.toNat]) ?_ (hq _ _ (List.getElem_mem hr) k1 d1)
  have h9 := atI_nat (List.getElem?_eq_getElem hr)
  rw [← e] at h9
  exact h9
theorem ok__law_pick {P : Program} {w : World} {K : PySem.W.Frag} {mg : Str → Option Value} {base : Heap} (T : Tx K mg) : Okk P w K mg base 2 "_law_pick" ["dice", "items"] (sp__law_pick K) := by
  obtain ⟨fd__law_roll, F__law_roll, b__law_roll, g__law_roll, k__law_roll⟩ := ok__law_roll (P := P) (w := w) (base := base) T
  have hf_len := T.n_len
  obtain ⟨fd, F⟩ := T.f__law_pick
  refine ⟨fd, F.ok sc__law_pick (fun vs H Q E h => len__law_pick h) (fun cdv A outer s H vs Q E hr h => ⟨t__law_pick K, PSs.nox ?_, pure__law_pick K vs H Q E h⟩), F.bindsN (fun _ _ _ _ _ _ us hl => match us, hl with | [_, _], _ => rfl), T.g__law_pick, F.kp⟩
  exact (pss_one (ps_ret (pe_ix ix_lt (pv 1) (pe_call F__law_roll (hr.mono (by decide)) rfl g__law_roll k__law_roll b__law_roll .nil pass0 (pa_cons (pv 0) (pa_cons (pe_callB call_len_seq (by rfl) hf_len (by decide +kernel) (pa_cons (pv 1) pa_nil)) pa_nil))) (fun _ _ => rfl))))
/-! ### _law_are_plain -/
theorem sc__law_are_plain : FnScope ["value", "size", "one"] ["value", "size"] (defScope s__law_are_plain) := ⟨rfl, rfl, rfl, by decide +kernel, rfl, by decide +kernel, by decide +kernel⟩
def sp__law_are_plain (K : PySem.W.Frag) : Sp := fun vs H Q _ => ∃ (T : Addr) (ns : List Int) (k : Int), vs = [.ref T, .int k] ∧ H T = some (.tup (ns.map V.int)) ∧ (ns.length : Int) = k ∧ ns.length < 2 ^ 20 ∧ ∀ H', Same H H' → Q (.bl true) H'
theorem len__law_are_plain {K : PySem.W.Frag} {vs : List V} {H : Hp} {Q : VK} {E : XK} (h : sp__law_are_plain K vs H Q E) : vs.length = ["value", "size"].length := by
  obtain ⟨_, _, _, rfl, _⟩ := h
  rfl
def t__law_are_plain (K : PySem.W.Frag) : TS := (tRet (tAndV (tCB (rIsi K) (tCons (tVar 0) (tCons (tC (.ty "tuple")) tNil))) (tAndV (tOp rEq (tCB (rLenU K) (tCons (tVar 0) tNil)) (tVar 1)) (tOp (rEqD K) (tLc (iTup K (tVar 0)) (gName 2) (tNot (tB (tCall (sp__law_is_plain K) [] E0 (tCons (tVar 2) tNil)))) (tVar 2) [2]) (tLst tNil)))))
theorem pure__law_are_plain (K : PySem.W.Frag) (vs : List V) (H : Hp) (Q : VK) (E : XK) (h : sp__law_are_plain K vs H Q E) : t__law_are_plain K { nx := fun _ H' => Q .non H', rt := Q } (start ["value", "size", "one"] vs) H := by
  obtain ⟨T, ns, k, rfl, hT, hk, hl, hq⟩ := h
  unfold t__law_are_plain
  walk_at "z"
  refine isi_tup hT ?_
  walk_at "z"
  refine lenT (sqT_of hT) ?_
  walk_at "z"
  rw [if_pos (by rw [List.length_map]; exact hk)]
  refine ⟨T, rfl, ⟨_, sqT_of hT⟩, comp_T (sqT_of hT) (fun _ => none) (by rw [List.length_map]; omega) (fun i x H' hx s Qo hQo => ?_) (fun L H' s hL => ?_)⟩
  · obtain ⟨z, _, rfl⟩ : ∃ z, ns[i]? = some z ∧ x = .int z := by
      rw [List.getElem?_map] at hx
      cases e : ns[i]? with
      | none => rw [e] at hx; cases hx
      | some z => rw [e] at hx; exact ⟨z, rfl, by simpa using hx.symm⟩
    walk_at "z"
    refine ⟨z, rfl, ?_⟩
    walk_at "z"
    exact hQo _ (Same.refl _)
  · have e0 : outL (fun _ => none) (ns.map V.int).length = [] := by simp [outL]
    rw [e0] at hL
    refine ⟨by decide, fun R hR => ?_⟩
    have sR := same_upd (o := .lst []) hR
    refine ⟨.list [], .list [], .lst (sqL_of (sR _ _ hL)) .nil, .lst (sqL_of upd_same) .nil, rfl, rfl, ?_⟩
    exact hq _ (s.trans sR)
theorem ok__law_are_plain {P : Program} {w : World} {K : PySem.W.Frag} {mg : Str → Option Value} {base : Heap} (T : Tx K mg) : Okk P w K mg base 2 "_law_are_plain" ["value", "size"] (sp__law_are_plain K) := by
  obtain ⟨fd__law_is_plain, F__law_is_plain, b__law_is_plain, g__law_is_plain, k__law_is_plain⟩ := ok__law_is_plain (P := P) (w := w) (base := base) T
  have hf_isinstance := T.n_isinstance
  have hf_len := T.n_len
  have hf_tuple := T.n_tuple
  obtain ⟨fd, F⟩ := T.f__law_are_plain
  refine ⟨fd, F.ok sc__law_are_plain (fun vs H Q E h => len__law_are_plain h) (fun cdv A outer s H vs Q E hr h => ⟨t__law_are_plain K, PSs.nox ?_, pure__law_are_plain K vs H Q E h⟩), F.bindsN (fun _ _ _ _ _ _ us hl => match us, hl with | [_, _], _ => rfl), T.g__law_are_plain, F.kp⟩
  have hu64 := hu64_of hr
  exact (pss_one (ps_ret (pe_and (pe_callB call_isi (by rfl) hf_isinstance (by decide +kernel) (pa_cons (pv 0) (pa_cons (pe_bltn (v := .ty "tuple") rfl hf_tuple (by decide +kernel) rfl) pa_nil))) (pe_and (pe_cmpR op_eq (pe_callB call_len_seq (by rfl) hf_len (by decide +kernel) (pa_cons (pv 0) pa_nil)) (pv 1) (nomark _)) (pe_one (pe_cmpR (op_eqD hu64) (pe_lc (own := [("one", 2)]) (g := (gName 2)) (tt := (tNot (tB (tCall (sp__law_is_plain K) [] E0 (tCons (tVar 2) tNil))))) rfl sc__law_are_plain.nd (pi_tup (pv 0)) (blkOk_by (own := [("one", 2)]) (N := ["value", "size", "one"]) (sc := defScope s__law_are_plain) (by decide +kernel)) (fun _ _ _ _ _ => (pg_name (i := 2) sc__law_are_plain.nd rfl (by first | exact Or.inl rfl | exact Or.inr rfl))) (fun _ _ _ _ _ => (pts_one (pt_not (pt_val (pe_call F__law_is_plain (hr.mono (by decide)) rfl g__law_is_plain k__law_is_plain b__law_is_plain .nil pass0 (pa_cons (pv 2) pa_nil)))))) (fun _ _ _ _ _ => (pv 2))) (pe_lst pa_nil) (nomark _)))))))
/-! ### _law_against -/
theorem sc__law_against : FnScope ["pairs", "at", "one", "here", "to"] ["pairs"] (defScope s__law_against) := ⟨rfl, rfl, rfl, by decide +kernel, rfl, by decide +kernel, by decide +kernel⟩
def sp__law_against (K : PySem.W.Frag) : Sp := fun vs H Q _ => ∃ (T : Addr) (xs : List V) (ps : List (Int × Int)), vs = [.ref T] ∧ H T = some (.tup xs) ∧ PQ H xs ps ∧ PsOk ps ∧ ∀ r H', Same H H' → (r = .non ↔ NoClash ps) → Q r H'
theorem len__law_against {K : PySem.W.Frag} {vs : List V} {H : Hp} {Q : VK} {E : XK} (h : sp__law_against K vs H Q E) : vs.length = ["pairs"].length := by
  obtain ⟨_, _, _, rfl, _⟩ := h
  rfl
def t__law_against_f1_b (K : PySem.W.Frag) : TS := (tIfS (tTest (tOp rNe (tOp rModU (tCB (rInt1) (tCons (tOp rSub (tVar 3) (tOp (rIxA K) (tOp (rIxA K) (tVar 0) (tVar 4)) (tC (.int 1)))) tNil)) (tCall (sp__law_gcd K) [] E0 (tCons (tVar 2) (tCons (tOp (rIxA K) (tOp (rIxA K) (tVar 0) (tVar 4)) (tC (.int 0))) tNil)))) (tC (.int 0)))) (tRet (tTup (tCons (tVar 1) (tCons (tVar 4) tNil)))) tNext)
def t__law_against_f2_b (K : PySem.W.Frag) : TS := (tFor (iRng2 (tCons (tOp rAdd (tVar 1) (tC (.int 1))) (tCons (tCB (rLenU K) (tCons (tVar 0) tNil)) tNil))) (gName 4) (t__law_against_f1_b K))
def t__law_against (K : PySem.W.Frag) : TS := (tSeq (tFor (iEnT K (tCons (tVar 0) tNil)) (gTup K 2 (gCons (gName 1) (gCons (gTup K 2 (gCons (gName 2) (gCons (gName 3) gNil))) gNil))) (t__law_against_f2_b K))
  (tRet (tC .non)))
theorem pure__law_against (K : PySem.W.Frag) (vs : List V) (H : Hp) (Q : VK) (E : XK) (h : sp__law_against K vs H Q E) : t__law_against K { nx := fun _ H' => Q .non H', rt := Q } (start ["pairs", "at", "one", "here", "to"] vs) H := by
  obtain ⟨T, xs, ps, rfl, hT, hP, hok, hq⟩ := h
  unfold t__law_against
  walk_at "z"
  have hl := hP.len
  have h6 := hok.2.1
  refine ⟨T, xs, rfl, sqT_of hT, for_enT (xs := xs) (fun i σ H' => ∃ o1 o2 o3 o4, σ = [some (.ref T), o1, o2, o3, o4] ∧ Same H H' ∧ ∀ (i' j : Nat) (p q : Int × Int), i' < i → ps[i']? = some p → ps[j]? = some q → i' < j → gI p.1 q.1 ∣ p.2 - q.2) ⟨_, _, _, _, rfl, Same.refl H, fun i' _ _ _ h => by omega⟩ (fun i σ H' h => by obtain ⟨_, _, _, _, _, s, _⟩ := h; exact sqT_of (s _ _ hT)) (fun i x Z σ H' hx h hZ N hN => ?_) (fun σ H' h => ?_)⟩
  · obtain ⟨o1, o2, o3, o4, rfl, s1, hd⟩ := h
    obtain ⟨p, t, e1, rfl, h3⟩ := hP.get hx
    have sZ := s1.trans (same_upd (o := .tup [.int (i : Nat), .ref t]) hZ)
    have p1 := (hok.2.2 _ (List.mem_of_getElem? e1)).1
    have hi := (List.getElem?_eq_some_iff.mp e1).1
    walk_at "z"
    refine ⟨_, sqT_of upd_same, rfl, ?_⟩
    walk_at "z"
    refine ⟨_, sqT_of (sZ _ _ h3), rfl, ?_⟩
    walk_at "z"
    generalize upd H' Z (.tup [.int (i : Nat), .ref t]) = H2 at *
    unfold t__law_against_f2_b
    walk_at "z"
    refine lenT (sqT_of (sZ _ _ hT)) ?_
    refine ⟨_, _, rfl, ⟨by omega, by omega, by omega, by omega⟩, for_R (fun j σ H' => ∃ o4, σ = [some (.ref T), some (.int (i : Int)), some (.int p.1), some (.int p.2), o4] ∧ H' = H2 ∧ ∀ (j' : Nat) (q : Int × Int), j' < i + 1 + j → ps[j']? = some q → i < j' → gI p.1 q.1 ∣ p.2 - q.2) ⟨_, rfl, rfl, fun j' q h1 _ h2 => by omega⟩ (fun j σ H' hj h N2 hN2 => ?_) (fun σ H' h => ?_)⟩
    · obtain ⟨o4, rfl, rfl, hd2⟩ := h
      have hj' : i + 1 + j < ps.length := by omega
      obtain ⟨t2, ht2, h32⟩ := (hP.same sZ).at hj'
      have e2 := List.getElem?_eq_getElem hj'
      have a2 : atI xs ((i : Int) + 1 + (j : Int)) = some (V.ref t2) := by rw [show (i : Int) + 1 + (j : Int) = ((i + 1 + j : Nat) : Int) by omega]; exact atI_nat2 ht2
      generalize ps[i + 1 + j] = q at *
      unfold t__law_against_f1_b
      walk_at "z"
      refine ixT (sqT_of (sZ _ _ hT)) a2 ?_
      refine ixT (sqT_of h32) (v := .int q.2) rfl ?_
      walk_at "z"
      refine ixT (sqT_of (sZ _ _ hT)) a2 ?_
      refine ixT (sqT_of h32) (v := .int q.1) rfl ?_
      refine ⟨p.1, q.1, rfl, ?_⟩
      walk_at "z"
      have gpos : 0 < Nat.gcd p.1.natAbs q.1.natAbs := Nat.gcd_pos_of_pos_left _ (by omega)
      refine ⟨by omega, ?_⟩
      by_cases hc : gI p.1 q.1 ∣ p.2 - q.2
      · rw [if_neg (fun h => h (Int.emod_eq_zero_of_dvd hc))]
        refine hN2 _ _ ⟨_, rfl, rfl, fun j' q' k1 k3 k4 => ?_⟩
        by_cases e : j' = i + 1 + j
        · subst e
          rw [e2] at k3
          cases k3
          exact hc
        · exact hd2 j' q' (by omega) k3 k4
      · have hc2 : ¬ (p.2 - q.2) % ((Nat.gcd p.1.natAbs q.1.natAbs : Nat) : Int) = 0 := fun h => hc (Int.dvd_of_emod_eq_zero h)
        rw [if_pos hc2]
        refine ⟨by decide, fun A hA => hq _ _ (sZ.trans (same_upd hA)) ⟨fun h => (by cases h), fun h => absurd (h i (i + 1 + j) p q e1 e2 (by omega)) hc⟩⟩
    · obtain ⟨o4, rfl, rfl, hd2⟩ := h
      refine hN _ _ ⟨_, _, _, _, rfl, sZ, fun i' j p' q k1 k2 k3 k4 => ?_⟩
      by_cases e : i' = i
      · subst e
        rw [e1] at k2
        cases k2
        exact hd2 j q (by have := (List.getElem?_eq_some_iff.mp k3).1; omega) k3 k4
      · exact hd i' j p' q (by omega) k2 k3 k4
  · obtain ⟨o1, o2, o3, o4, rfl, s1, hd⟩ := h
    walk_at "z"
    exact hq _ _ s1 ⟨fun _ => fun i j p q k1 k2 k3 => hd i j p q (by have := (List.getElem?_eq_some_iff.mp k1).1; omega) k1 k2 k3, fun _ => rfl⟩
theorem ok__law_against {P : Program} {w : World} {K : PySem.W.Frag} {mg : Str → Option Value} {base : Heap} (T : Tx K mg) : Okk P w K mg base 2 "_law_against" ["pairs"] (sp__law_against K) := by
  obtain ⟨fd__law_gcd, F__law_gcd, b__law_gcd, g__law_gcd, k__law_gcd⟩ := ok__law_gcd (P := P) (w := w) (base := base) T
  have hf_enumerate := T.n_enumerate
  have hf_int := T.n_int
  have hf_len := T.n_len
  have hf_range := T.n_range
  obtain ⟨fd, F⟩ := T.f__law_against
  refine ⟨fd, F.ok sc__law_against (fun vs H Q E h => len__law_against h) (fun cdv A outer s H vs Q E hr h => ⟨t__law_against K, PSs.nox ?_, pure__law_against K vs H Q E h⟩), F.bindsN (fun _ _ _ _ _ _ us hl => match us, hl with | [_], _ => rfl), T.g__law_against, F.kp⟩
  exact (pss_cons (ps_for PassesOwn.never rfl (pi_enT (by rfl) hf_enumerate (pa_cons (pv 0) pa_nil)) (pg_tup rfl (pgs_cons (pg_name (i := 1) sc__law_against.nd rfl (by first | exact Or.inl rfl | exact Or.inr rfl)) (pgs_cons (pg_tup rfl (pgs_cons (pg_name (i := 2) sc__law_against.nd rfl (by first | exact Or.inl rfl | exact Or.inr rfl)) (pgs_cons (pg_name (i := 3) sc__law_against.nd rfl (by first | exact Or.inl rfl | exact Or.inr rfl)) pgs_nil))) pgs_nil))) (pss_one (ps_for PassesOwn.never rfl (pi_range2 rfl hf_range (pa_cons (pe_op op_add (pv 1) pe_int) (pa_cons (pe_callB call_len_seq (by rfl) hf_len (by decide +kernel) (pa_cons (pv 0) pa_nil)) pa_nil))) (pg_name (i := 4) sc__law_against.nd rfl (by first | exact Or.inl rfl | exact Or.inr rfl)) (pss_one (ps_if (pt_cmpR op_ne (pe_op op_mod (pe_callTy call_int1 (by rfl) hf_int (by decide +kernel) (pa_cons (pe_op op_sub (pv 3) (pe_ix ix_lt (pe_ix ix_lt (pv 0) (pv 4) (fun _ _ => rfl)) pe_int (fun _ _ => rfl))) pa_nil)) (pe_call F__law_gcd (hr.mono (by decide)) rfl g__law_gcd k__law_gcd b__law_gcd .nil pass0 (pa_cons (pv 2) (pa_cons (pe_ix ix_lt (pe_ix ix_lt (pv 0) (pv 4) (fun _ _ => rfl)) pe_int (fun _ _ => rfl)) pa_nil)))) pe_int (nomark _)) (pss_one (ps_ret (pe_tup (pa_cons (pv 1) (pa_cons (pv 4) pa_nil))))) pss_nil)))))
      (pss_one (ps_ret pe_non)))
/-! ### _law_tried -/
theorem sc__law_tried : FnScope ["pairs", "whole", "modulus", "rest", "number"] ["pairs"] (defScope s__law_tried) := ⟨rfl, rfl, rfl, by decide +kernel, rfl, by decide +kernel, by decide +kernel⟩
def sp__law_tried (K : PySem.W.Frag) : Sp := fun vs H Q _ => ∃ (T : Addr) (xs : List V) (ps : List (Int × Int)), vs = [.ref T] ∧ H T = some (.tup xs) ∧ PQ H xs ps ∧ PsOk ps ∧ ∀ r H', Same H H' → (r = .non ∨ ∃ b : Bool, r = .bl b ∧ (b = true ↔ NoClash ps)) → Q r H'
theorem len__law_tried {K : PySem.W.Frag} {vs : List V} {H : Hp} {Q : VK} {E : XK} (h : sp__law_tried K vs H Q E) : vs.length = ["pairs"].length := by
  obtain ⟨_, _, _, rfl, _⟩ := h
  rfl
def t__law_tried_f1_b (K : PySem.W.Frag) : TS := (tAsg (tOp rMulU (tVar 1) (tOp rDivU (tVar 2) (tCall (sp__law_gcd K) [] E0 (tCons (tVar 1) (tCons (tVar 2) tNil))))) (gName 1))
def t__law_tried_f2_b (K : PySem.W.Frag) : TS := (tIfS (tTest (tOp (rEqD K) (tLc (iTup K (tVar 0)) (gTup K 2 (gCons (gName 2) (gCons (gName 3) gNil))) (tTest (tOp rNe (tOp rModU (tCB (rInt1) (tCons (tOp rSub (tVar 4) (tVar 3)) tNil)) (tVar 2)) (tC (.int 0)))) (tC (.int 1)) [2, 3]) (tLst tNil))) (tRet (tC (.bl true))) tNext)
def t__law_tried (K : PySem.W.Frag) : TS := (tSeq (tAsg (tC (.int 1)) (gName 1))
  (tSeq (tFor (iTup K (tVar 0)) (gTup K 2 (gCons (gName 2) (gCons (gName 3) gNil))) (t__law_tried_f1_b K))
  (tSeq (tIfS (tTest (tOp rGtI (tVar 1) (tC (.int 2000)))) (tRet (tC .non)) tNext)
  (tSeq (tFor (iRng1 (tCons (tVar 1) tNil)) (gName 4) (t__law_tried_f2_b K))
  (tRet (tC (.bl false)))))))
def triedO (ps : List (Int × Int)) (n : Int) : Nat → Option V := fun i => match ps[i]? with
  | some q => if (n - q.2) % q.1 = 0 then none else some (.int 1)
  | none => none
theorem tried_ones (ps : List (Int × Int)) (n : Int) : ∀ k, ∀ v ∈ outL (triedO ps n) k, v = .int 1 := fun k v hv => by
  unfold outL at hv
  obtain ⟨i, _, e⟩ := List.mem_filterMap.mp hv
  unfold triedO at e
  split at e
  · split at e
    · cases e
    · exact (Option.some.inj e).symm
  · cases e
theorem tried_nil (ps : List (Int × Int)) (n : Int) : outL (triedO ps n) ps.length = [] ↔ Sol ps n := by
  unfold outL
  rw [List.filterMap_eq_nil_iff]
  constructor
  · intro h p hp
    obtain ⟨i, hi, e⟩ := List.getElem_of_mem hp
    have h1 := h i (List.mem_range.mpr hi)
    unfold triedO at h1
    rw [List.getElem?_eq_getElem hi, e] at h1
    by_cases c : (n - p.2) % p.1 = 0
    · exact Int.dvd_of_emod_eq_zero c
    · simp [c] at h1
  · intro h i hi
    have hi := List.mem_range.mp hi
    unfold triedO
    rw [List.getElem?_eq_getElem hi]
    simp [Int.emod_eq_zero_of_dvd (h _ (List.getElem_mem hi))]
theorem ones_dp {K : PySem.W.Frag} {H : Hp} : ∀ {l : List V}, (∀ v ∈ l, v = .int 1) → DpAll K H l (l.map fun _ => PyData.int 1) ∧ PyData.canLayAll0 (l.map fun _ => PyData.int 1) = true ∧ PyData.depthAll (l.map fun _ => PyData.int 1) ≤ 1
  | [], _ => ⟨.nil, rfl, Nat.zero_le _⟩
  | v :: r, h => by
    obtain ⟨h1, h2, h3⟩ := ones_dp (K := K) (H := H) (l := r) fun x hx => h x (List.mem_cons_of_mem _ hx)
    have := h v List.mem_cons_self
    subst this
    refine ⟨.cons (.int 1) h1, ?_, ?_⟩
    · simp [PyData.canLayAll0, PyData.canLay0] at h2 ⊢
      exact h2
    · simp [PyData.depthAll, PyData.depth] at h3 ⊢
      omega
/-- a list of ones against the empty list -/
theorem ones_eq {K : PySem.W.Frag} {H : Hp} {a b : Addr} {l : List V} {Q : VK} (hl : ∀ v ∈ l, v = .int 1) (ha : H a = some (.lst l)) (hb : H b = some (.lst [])) (q : Q (.bl l.isEmpty) H) : rEqD K (.ref a) (.ref b) H Q := by
  obtain ⟨h1, h2, h3⟩ := ones_dp (K := K) (H := H) hl
  refine ⟨.list (l.map fun _ => PyData.int 1), .list [], .lst (sqL_of ha) h1, .lst (sqL_of hb) .nil, ?_, rfl, ?_⟩
  · simp [SeqAt.shaped, PyData.canLay0, PyData.depth, h2]
    omega
  · have e : PyData.eqv (.list (l.map fun _ => PyData.int 1)) (.list []) = l.isEmpty := by
      cases l <;> simp [PyData.eqv, PyData.eqvAll]
    rw [e]
    exact q
theorem pure__law_tried (K : PySem.W.Frag) (vs : List V) (H : Hp) (Q : VK) (E : XK) (h : sp__law_tried K vs H Q E) : t__law_tried K { nx := fun _ H' => Q .non H', rt := Q } (start ["pairs", "whole", "modulus", "rest", "number"] vs) H := by
  obtain ⟨T, xs, ps, rfl, hT, hP, hok, hq⟩ := h
  unfold t__law_tried
  walk_at "z"
  have hl := hP.len
  have h6 := hok.2.1
  have pos : ∀ p ∈ ps, 1 ≤ p.1 := fun p hp => (hok.2.2 p hp).1
  refine ⟨T, rfl, ⟨_, sqT_of hT⟩, for_T (xs := xs) (fun i σ H' => ∃ o1 o2 o3, σ = [some (.ref T), some (.int ((lcmL (ps.take i) : Nat) : Int)), o1, o2, o3] ∧ H' = H) ⟨_, _, _, rfl, rfl⟩ (fun i σ H' _ h => by obtain ⟨_, _, _, _, rfl⟩ := h; exact sqT_of hT) (fun i x σ H' hx h N hN => ?_) (fun σ H' h => ?_)⟩
  · obtain ⟨o1, o2, o3, rfl, rfl⟩ := h
    obtain ⟨q, t, e1, rfl, h3⟩ := hP.get hx
    obtain ⟨q1, q2, q3⟩ := hok.2.2 q (List.mem_of_getElem? e1)
    have et : ps.take (i + 1) = ps.take i ++ [q] := by rw [List.take_succ, e1]; rfl
    have hi : i < ps.length := (List.getElem?_eq_some_iff.mp e1).1
    have hM := lcm_sz hok.2.2 i (by omega)
    have hMp := lcmL_pos _ (ps.take i) rfl fun p hp => pos p (List.mem_of_mem_take hp)
    have hl2 : lcmL (ps.take (i + 1)) = Nat.lcm (lcmL (ps.take i)) q.1.natAbs := by rw [et, lcmL_snoc]
    unfold t__law_tried_f1_b
    walk_at "z"
    refine ⟨_, sqT_of h3, rfl, ?_⟩
    walk_at "z"
    generalize hL : lcmL (ps.take i) = M at *
    refine ⟨(M : Int), q.1, rfl, ?_⟩
    rw [Int.natAbs_natCast]
    walk_at "z"
    have g0 : 0 < Nat.gcd M q.1.natAbs := Nat.gcd_pos_of_pos_left _ hMp
    have gq : Nat.gcd M q.1.natAbs ≤ q.1.natAbs := Nat.gcd_le_right _ (by omega)
    have gd : Nat.gcd M q.1.natAbs ∣ q.1.natAbs := Nat.gcd_dvd_right _ _
    have gpos : (0 : Int) < ((Nat.gcd M q.1.natAbs : Nat) : Int) := by omega
    have sq1 : Sz 250 q.1 := S60.sz ⟨by omega, q2⟩
    have sM : Sz 1300 (M : Int) := by unfold Sz; omega
    have e5 : (M : Int) * (q.1 / ((Nat.gcd M q.1.natAbs : Nat) : Int)) = ((Nat.lcm M q.1.natAbs : Nat) : Int) := by
      rw [show q.1 = ((q.1.natAbs : Nat) : Int) by omega, Int.natAbs_natCast, ← Int.natCast_ediv, ← Int.natCast_mul, ← Nat.mul_div_assoc _ gd]
      rfl
    refine ⟨wide_div (b := 250) gpos (Nat.lt_of_le_of_lt (by rw [Int.natAbs_natCast]; exact gq) sq1) (by decide) (by decide), mulW sM (sz_le sq1 (div_le gpos)) (by decide) (by decide) (by decide), ?_⟩
    rw [e5, ← hl2]
    exact hN _ _ ⟨_, _, _, rfl, rfl⟩
  · obtain ⟨o1, o2, o3, rfl, rfl⟩ := h
    rw [show ps.take xs.length = ps by rw [hl, List.take_length]]
    have sm := sol_small pos
    generalize lcmL ps = M at *
    walk_at "z"
    by_cases c : (2000 : Int) < (M : Int)
    · rw [if_pos c]
      exact hq _ _ (Same.refl _) (.inl rfl)
    rw [if_neg c]
    refine ⟨_, rfl, by omega, by omega, for_R (fun n σ H2 => ∃ o1 o2 o3, σ = [some (.ref T), some (.int (M : Int)), o1, o2, o3] ∧ Same H' H2 ∧ ∀ n' : Nat, n' < n → ¬ Sol ps (n' : Int)) ⟨_, _, _, rfl, Same.refl _, fun n' h => by omega⟩ (fun n σ H2 hn h N hN => ?_) (fun σ H2 h => ?_)⟩
    · obtain ⟨o1, o2, o3, rfl, s2, hno⟩ := h
      have hT2 := s2 _ _ hT
      have hP2 := hP.same s2
      unfold t__law_tried_f2_b
      walk_at "z"
      refine ⟨T, rfl, ⟨_, sqT_of hT2⟩, comp_T (sqT_of hT2) (triedO ps (n : Int)) (by omega) (fun i x H3 hx s3 Qo hQo => ?_) (fun L H3 s3 hL => ?_)⟩
      · obtain ⟨q, t, e1, rfl, h3⟩ := (hP2.same s3).get hx
        have q1 := pos q (List.mem_of_getElem? e1)
        walk_at "z"
        refine ⟨_, sqT_of h3, rfl, ?_⟩
        walk_at "z"
        refine ⟨by omega, ?_⟩
        have := hQo _ (Same.refl _)
        unfold triedO at this
        rw [e1] at this
        rw [show 0 + (n : Int) = (n : Int) by omega]
        by_cases c2 : ((n : Int) - q.2) % q.1 = 0
        · rw [if_neg (fun h => h c2)]
          simpa [c2] using this
        · rw [if_pos c2]
          simpa [c2] using this
      · rw [show xs.length = ps.length from hl] at hL
        refine ⟨by decide, fun R hR => ?_⟩
        have sR := same_upd (o := .lst []) hR
        refine ones_eq (tried_ones ps (n : Int) ps.length) (sR _ _ hL) upd_same ?_
        by_cases hs : Sol ps (n : Int)
        · rw [(tried_nil ps (n : Int)).mpr hs]
          walk_at "z"
          exact hq _ _ ((s2.trans s3).trans sR) (.inr ⟨true, rfl, ⟨fun _ => sol_noclash hs, fun _ => rfl⟩⟩)
        · have : (outL (triedO ps (n : Int)) ps.length).isEmpty = false := by
            rw [Bool.eq_false_iff]
            intro c3
            exact hs ((tried_nil ps (n : Int)).mp (List.isEmpty_iff.mp c3))
          rw [this]
          walk_at "z"
          refine hN _ _ ⟨_, _, _, rfl, (s2.trans s3).trans sR, fun n' h => ?_⟩
          by_cases e : n' = n
          · rw [e]; exact hs
          · exact hno n' (by omega)
    · obtain ⟨o1, o2, o3, rfl, s2, hno⟩ := h
      walk_at "z"
      refine hq _ _ s2 (.inr ⟨false, rfl, ⟨fun h => (by cases h), fun h => ?_⟩⟩)
      obtain ⟨i, hi, hs⟩ := sm.mp h
      exact absurd hs (hno i (by omega))
theorem ok__law_tried {P : Program} {w : World} {K : PySem.W.Frag} {mg : Str → Option Value} {base : Heap} (T : Tx K mg) : Okk P w K mg base 2 "_law_tried" ["pairs"] (sp__law_tried K) := by
  obtain ⟨fd__law_gcd, F__law_gcd, b__law_gcd, g__law_gcd, k__law_gcd⟩ := ok__law_gcd (P := P) (w := w) (base := base) T
  have hf_int := T.n_int
  have hf_range := T.n_range
  obtain ⟨fd, F⟩ := T.f__law_tried
  refine ⟨fd, F.ok sc__law_tried (fun vs H Q E h => len__law_tried h) (fun cdv A outer s H vs Q E hr h => ⟨t__law_tried K, PSs.nox ?_, pure__law_tried K vs H Q E h⟩), F.bindsN (fun _ _ _ _ _ _ us hl => match us, hl with | [_], _ => rfl), T.g__law_tried, F.kp⟩
  have hu64 := hu64_of hr
  exact (pss_cons (ps_set (i := 1) sc__law_tried.nd rfl (by first | exact Or.inl rfl | exact Or.inr rfl) pe_int)
      (pss_cons (ps_for PassesOwn.never rfl (pi_tup (pv 0)) (pg_tup rfl (pgs_cons (pg_name (i := 2) sc__law_tried.nd rfl (by first | exact Or.inl rfl | exact Or.inr rfl)) (pgs_cons (pg_name (i := 3) sc__law_tried.nd rfl (by first | exact Or.inl rfl | exact Or.inr rfl)) pgs_nil))) (pss_one (ps_set (i := 1) sc__law_tried.nd rfl (by first | exact Or.inl rfl | exact Or.inr rfl) (pe_op op_mulU (pv 1) (pe_op op_fdivW (pv 2) (pe_call F__law_gcd (hr.mono (by decide)) rfl g__law_gcd k__law_gcd b__law_gcd .nil pass0 (pa_cons (pv 1) (pa_cons (pv 2) pa_nil))))))))
      (pss_cons (ps_if (pt_cmpR op_gt (pv 1) pe_int (nomark _)) (pss_one (ps_ret pe_non)) pss_nil)
      (pss_cons (ps_for PassesOwn.never rfl (pi_range1 rfl hf_range (pa_cons (pv 1) pa_nil)) (pg_name (i := 4) sc__law_tried.nd rfl (by first | exact Or.inl rfl | exact Or.inr rfl)) (pss_one (ps_if (pt_cmpR (op_eqD hu64) (pe_lc (own := [("modulus", 2), ("rest", 3)]) (g := (gTup K 2 (gCons (gName 2) (gCons (gName 3) gNil)))) (tt := (tTest (tOp rNe (tOp rModU (tCB (rInt1) (tCons (tOp rSub (tVar 4) (tVar 3)) tNil)) (tVar 2)) (tC (.int 0))))) rfl sc__law_tried.nd (pi_tup (pv 0)) (blkOk_by (own := [("modulus", 2), ("rest", 3)]) (N := ["pairs", "whole", "modulus", "rest", "number"]) (sc := defScope s__law_tried) (by decide +kernel)) (fun _ _ _ _ _ => (pg_tup rfl (pgs_cons (pg_name (i := 2) sc__law_tried.nd rfl (by first | exact Or.inl rfl | exact Or.inr rfl)) (pgs_cons (pg_name (i := 3) sc__law_tried.nd rfl (by first | exact Or.inl rfl | exact Or.inr rfl)) pgs_nil)))) (fun _ _ _ _ _ => (pts_one (pt_cmpR op_ne (pe_op op_mod (pe_callTy call_int1 (by rfl) hf_int (by decide +kernel) (pa_cons (pe_op op_sub (pv 4) (pv 3)) pa_nil)) (pv 2)) pe_int (nomark _)))) (fun _ _ _ _ _ => pe_int)) (pe_lst pa_nil) (nomark _)) (pss_one (ps_ret pe_bl)) pss_nil)))
      (pss_one (ps_ret pe_bl))))))
/-! ### _law_integer_drawn -/
theorem sc__law_integer_drawn : FnScope ["dice", "most"] ["dice"] (defScope s__law_integer_drawn) := ⟨rfl, rfl, rfl, by decide +kernel, rfl, by decide +kernel, by decide +kernel⟩
def sp__law_integer_drawn (K : PySem.W.Frag) : Sp := fun vs H Q _ => ∃ d : Addr, vs = [.ref d] ∧ Dice H d ∧ ∀ n H', S60 n → Keep d H H' → Dice H' d → Q (.int n) H'
theorem len__law_integer_drawn {K : PySem.W.Frag} {vs : List V} {H : Hp} {Q : VK} {E : XK} (h : sp__law_integer_drawn K vs H Q E) : vs.length = ["dice"].length := by
  obtain ⟨_, rfl, _⟩ := h
  rfl
def t__law_integer_drawn (K : PySem.W.Frag) : TS := (tSeq (tAsg (tCall (sp__law_pick K) [] E0 (tCons (tVar 0) (tCons (tLst (tCons (tC (.int 1)) (tCons (tC (.int 3)) (tCons (tC (.int 30)) (tCons (tC (.int 1000)) (tCons (tOp rPowU (tC (.int 10)) (tC (.int 20))) (tCons (tOp rSub (tOp rPowU (tC (.int 10)) (tC (.int 30))) (tC (.int 1))) (tCons (tOp rSub (tOp rPowU (tC (.int 10)) (tC (.int 60))) (tC (.int 1))) tNil)))))))) tNil))) (gName 1))
  (tRet (tOp rSub (tCall (sp__law_roll K) [] E0 (tCons (tVar 0) (tCons (tOp rAdd (tOp rMulU (tC (.int 2)) (tVar 1)) (tC (.int 1))) tNil))) (tVar 1))))
theorem pure__law_integer_drawn (K : PySem.W.Frag) (vs : List V) (H : Hp) (Q : VK) (E : XK) (h : sp__law_integer_drawn K vs H Q E) : t__law_integer_drawn K { nx := fun _ H' => Q .non H', rt := Q } (start ["dice", "most"] vs) H := by
  obtain ⟨D, rfl, hD, hq⟩ := h
  unfold t__law_integer_drawn
  walk_at "z"
  have e20 : (10 : Int) ^ (20 : Int).toNat = 10 ^ 20 := rfl
  have e30 : (10 : Int) ^ (30 : Int).toNat = 10 ^ 30 := rfl
  have e60 : (10 : Int) ^ (60 : Int).toNat = 10 ^ 60 := rfl
  refine ⟨cpow (by decide), cpow (by decide), cpow (by decide), by decide, fun M hM => ?_⟩
  have dM : D ≠ M := by
    obtain ⟨_, _, _, h⟩ := hD
    exact ne_of_none h hM
  refine ⟨D, M, _, rfl, hD.same (same_upd hM), dM, upd_same, by simp, by simp, fun u H1 hu k1 d1 => ?_⟩
  obtain ⟨m, rfl, m1, m2⟩ : ∃ m : Int, u = .int m ∧ 1 ≤ m ∧ m < 10 ^ 60 := by
    rw [e20, e30, e60] at hu
    simp only [List.mem_cons, List.not_mem_nil, or_false] at hu
    rcases hu with rfl | rfl | rfl | rfl | rfl | rfl | rfl <;> exact ⟨_, rfl, by omega, by omega⟩
  walk_at "z"
  refine ⟨mulS (by decide), D, _, rfl, d1, by omega, by omega, fun r H2 r0 r1 k2 d2 => ?_⟩
  walk_at "z"
  exact hq _ _ ⟨by omega, by omega⟩ (((Keep.refl D H).new hM).trans (k1.trans k2)) d2
theorem ok__law_integer_drawn {P : Program} {w : World} {K : PySem.W.Frag} {mg : Str → Option Value} {base : Heap} (T : Tx K mg) : Okk P w K mg base 3 "_law_integer_drawn" ["dice"] (sp__law_integer_drawn K) := by
  obtain ⟨fd__law_roll, F__law_roll, b__law_roll, g__law_roll, k__law_roll⟩ := ok__law_roll (P := P) (w := w) (base := base) T
  obtain ⟨fd__law_pick, F__law_pick, b__law_pick, g__law_pick, k__law_pick⟩ := ok__law_pick (P := P) (w := w) (base := base) T
  obtain ⟨fd, F⟩ := T.f__law_integer_drawn
  refine ⟨fd, F.ok sc__law_integer_drawn (fun vs H Q E h => len__law_integer_drawn h) (fun cdv A outer s H vs Q E hr h => ⟨t__law_integer_drawn K, PSs.nox ?_, pure__law_integer_drawn K vs H Q E h⟩), F.bindsN (fun _ _ _ _ _ _ us hl => match us, hl with | [_], _ => rfl), T.g__law_integer_drawn, F.kp⟩
  exact (pss_cons (ps_set (i := 1) sc__law_integer_drawn.nd rfl (by first | exact Or.inl rfl | exact Or.inr rfl) (pe_call F__law_pick (hr.mono (by decide)) rfl g__law_pick k__law_pick b__law_pick .nil pass0 (pa_cons (pv 0) (pa_cons (pe_lst (pa_cons pe_int (pa_cons pe_int (pa_cons pe_int (pa_cons pe_int (pa_cons (pe_op op_pow pe_int pe_int) (pa_cons (pe_op op_sub (pe_op op_pow pe_int pe_int) pe_int) (pa_cons (pe_op op_sub (pe_op op_pow pe_int pe_int) pe_int) pa_nil)))))))) pa_nil))))
      (pss_one (ps_ret (pe_op op_sub (pe_call F__law_roll (hr.mono (by decide)) rfl g__law_roll k__law_roll b__law_roll .nil pass0 (pa_cons (pv 0) (pa_cons (pe_op op_add (pe_op op_mulU pe_int (pv 1)) pe_int) pa_nil))) (pv 1)))))
/-! ### _law_pairs_drawn -/
theorem sc__law_pairs_drawn : FnScope ["dice", "most", "number", "found", "turn", "modulus", "rest"] ["dice"] (defScope s__law_pairs_drawn) := ⟨rfl, rfl, rfl, by decide +kernel, rfl, by decide +kernel, by decide +kernel⟩
def sp__law_pairs_drawn (K : PySem.W.Frag) : Sp := fun vs H Q _ => ∃ d : Addr, vs = [.ref d] ∧ Dice H d ∧ ∀ T xs ps H', Keep d H H' → Dice H' d → d ≠ T → H' T = some (.tup xs) → PQ H' xs ps → PsOk ps → Q (.ref T) H'
theorem len__law_pairs_drawn {K : PySem.W.Frag} {vs : List V} {H : Hp} {Q : VK} {E : XK} (h : sp__law_pairs_drawn K vs H Q E) : vs.length = ["dice"].length := by
  obtain ⟨_, rfl, _⟩ := h
  rfl
def t__law_pairs_drawn_f1_b (K : PySem.W.Frag) : TS := (tSeq (tAsg (tOp rAdd (tC (.int 1)) (tCall (sp__law_roll K) [] E0 (tCons (tVar 0) (tCons (tVar 1) tNil)))) (gName 5))
  (tSeq (tAsg (tOp rAdd (tOp rModU (tCB (rInt1) (tCons (tVar 2) tNil)) (tVar 5)) (tOp rMulU (tVar 5) (tOp rSub (tCall (sp__law_roll K) [] E0 (tCons (tVar 0) (tCons (tC (.int 3)) tNil))) (tC (.int 1))))) (gName 6))
  (tDrop (tBM K "list" rAppend (tVar 3) (tCons (tTup (tCons (tVar 5) (tCons (tIf (tTest (tOp rGtI (tCall (sp__law_roll K) [] E0 (tCons (tVar 0) (tCons (tC (.int 5)) tNil))) (tC (.int 0)))) (tVar 6) (tOp rSub (tCall (sp__law_roll K) [] E0 (tCons (tVar 0) (tCons (tOp rMulU (tC (.int 2)) (tVar 5)) tNil))) (tVar 5))) tNil))) tNil)))))
def t__law_pairs_drawn (K : PySem.W.Frag) : TS := (tSeq (tAsg (tCall (sp__law_pick K) [] E0 (tCons (tVar 0) (tCons (tLst (tCons (tC (.int 4)) (tCons (tC (.int 12)) (tCons (tC (.int 12)) (tCons (tC (.int 30)) (tCons (tOp rPowU (tC (.int 10)) (tC (.int 6))) (tCons (tOp rPowU (tC (.int 10)) (tC (.int 30))) tNil))))))) tNil))) (gName 1))
  (tSeq (tPar 2 3 (tCons (tCall (sp__law_integer_drawn K) [] E0 (tCons (tVar 0) tNil)) (tCons (tLst tNil) tNil)))
  (tSeq (tFor (iRng1 (tCons (tOp rAdd (tC (.int 1)) (tCall (sp__law_roll K) [] E0 (tCons (tVar 0) (tCons (tC (.int 6)) tNil)))) tNil)) (gName 4) (t__law_pairs_drawn_f1_b K))
  (tSeq (tIfS (tTest (tOp rEq (tCall (sp__law_roll K) [] E0 (tCons (tVar 0) (tCons (tC (.int 3)) tNil))) (tC (.int 0)))) (tDrop (tBM K "list" rAppend (tVar 3) (tCons (tCall (sp__law_pick K) [] E0 (tCons (tVar 0) (tCons (tVar 3) tNil))) tNil))) tNext)
  (tRet (tCB (rTupOf K) (tCons (tSl (rSlL K) (tVar 3) tNoPart (tPart (tC (.int 6)))) tNil)))))))
theorem kmut {D F : Addr} {H H' : Hp} {o : HO} (k : Keep D H H') (h : H F = none) : Keep D H (upd H' F o) := fun b u n e => by
  rw [upd_ne (ne_of_none e h)]; exact k b u n e
theorem dmut {D F : Addr} {H : Hp} {o : HO} (d : Dice H D) (h : D ≠ F) : Dice (upd H F o) D := by
  obtain ⟨a, b, c, e⟩ := d
  exact ⟨a, b, c, by rw [upd_ne h]; exact e⟩
theorem pq_keep {D : Addr} {H H' : Hp} {zs : List V} {ps : List (Int × Int)} (d : Dice H D) (k : Keep D H H') (h : PQ H zs ps) : PQ H' zs ps := paired_map h fun v q ⟨t, e, ht⟩ => ⟨t, e, k t _ (fun c => by
  obtain ⟨_, _, _, h2⟩ := d
  rw [c, h2] at ht
  cases ht) ht⟩
theorem pq_upd {F : Addr} {H : Hp} {l : List V} {o : HO} {zs : List V} {ps : List (Int × Int)} (hF : H F = some (.lst l)) (h : PQ H zs ps) : PQ (upd H F o) zs ps := paired_map h fun v q ⟨t, e, ht⟩ => ⟨t, e, by
  rw [upd_ne (fun c => by rw [c, hF] at ht; cases ht)]; exact ht⟩
theorem pq_app {H : Hp} : ∀ {xs ys : List V} {rs ss : List (Int × Int)}, PQ H xs rs → PQ H ys ss → PQ H (xs ++ ys) (rs ++ ss)
  | _, _, _, _, .nil, h => h
  | _, _, _, _, .cons r t, h => .cons r (pq_app t h)
theorem paired_take {α β : Type} {F : α → β → Prop} : ∀ (n : Nat) {xs : List α} {rs : List β}, Paired F xs rs → Paired F (xs.take n) (rs.take n)
  | 0, _, _, _ => .nil
  | _ + 1, _, _, .nil => .nil
  | n + 1, _, _, .cons r t => .cons r (paired_take n t)
theorem cut6 {zs : List V} : cutV zs none (some 6) = zs.take 6 := by
  unfold cutV
  rw [HT.sIx_none, show (some (6 : Int)) = some ((6 : Nat) : Int) from rfl, HT.sIx_nat, List.drop_zero, Nat.sub_zero]
  by_cases h : 6 ≤ zs.length
  · rw [Nat.min_eq_left h]
  · rw [Nat.min_eq_right (by omega), List.take_of_length_le (Nat.le_refl _), List.take_of_length_le (by omega)]
theorem pure__law_pairs_drawn (K : PySem.W.Frag) (vs : List V) (H : Hp) (Q : VK) (E : XK) (h : sp__law_pairs_drawn K vs H Q E) : t__law_pairs_drawn K { nx := fun _ H' => Q .non H', rt := Q } (start ["dice", "most", "number", "found", "turn", "modulus", "rest"] vs) H := by
  obtain ⟨D, rfl, hD, hq⟩ := h
  unfold t__law_pairs_drawn
  walk_at "z"
  have e6 : (10 : Int) ^ (6 : Int).toNat = 10 ^ 6 := rfl
  have e30 : (10 : Int) ^ (30 : Int).toNat = 10 ^ 30 := rfl
  refine ⟨cpow (by decide), cpow (by decide), by decide, fun M hM => ?_⟩
  have dne : ∀ {H' : Hp} {M : Addr}, Dice H' D → H' M = none → D ≠ M := fun d h => by
    obtain ⟨_, _, _, h2⟩ := d
    exact ne_of_none h2 h
  refine ⟨D, M, _, rfl, hD.same (same_upd hM), dne hD hM, upd_same, by simp, by simp, fun u H1 hu k1 d1 => ?_⟩
  obtain ⟨m, rfl, m1, m2⟩ : ∃ m : Int, u = .int m ∧ 1 ≤ m ∧ m ≤ 10 ^ 30 := by
    rw [e6, e30] at hu
    simp only [List.mem_cons, List.not_mem_nil, or_false] at hu
    rcases hu with rfl | rfl | rfl | rfl | rfl | rfl <;> exact ⟨_, rfl, by omega, by omega⟩
  have K1 := ((Keep.refl D H).new hM).trans k1
  refine ⟨D, rfl, d1, fun n0 H2 sn k2 d2 => ⟨by decide, fun F hF => ?_⟩⟩
  have K2 := (K1.trans k2).new (o := .lst []) hF
  have d3 := d2.same (same_upd (o := .lst []) hF)
  have dF := dne d2 hF
  have hF0 : H F = none := by
    cases e : H F with
    | none => rfl
    | some o =>
      have := (K1.trans k2) F o (Ne.symm dF) e
      rw [hF] at this
      cases this
  have hF2 : upd H2 F (.lst []) F = some (.lst []) := upd_same
  revert K2 d3 hF2
  generalize upd H2 F (.lst []) = H3
  intro K2 d3 hF2
  refine ⟨D, 6, rfl, d3, by decide, by decide, fun r H4 r0 r1 k4 d4 => ?_⟩
  walk_at "z"
  have hF4 := k4 _ _ (Ne.symm dF) hF2
  refine ⟨_, rfl, by omega, by omega, for_R (fun i σ H' => ∃ (o4 o5 o6 : Option V) (zs : List V) (ps : List (Int × Int)), σ = [some (.ref D), some (.int m), some (.int n0), some (.ref F), o4, o5, o6] ∧ Keep D H H' ∧ Dice H' D ∧ H' F = some (.lst zs) ∧ PQ H' zs ps ∧ ps.length = i ∧ ∀ p ∈ ps, 1 ≤ p.1 ∧ p.1 < 10 ^ 60 ∧ S60 p.2) ⟨_, _, _, [], [], rfl, K2.trans k4, d4, hF4, .nil, rfl, fun p hp => by cases hp⟩ (fun i σ H' hi h N hN => ?_) (fun σ H' h => ?_)⟩
  · obtain ⟨o4, o5, o6, zs, ps, rfl, kk, dd, hz, hP, hpl, hpo⟩ := h
    unfold t__law_pairs_drawn_f1_b
    walk_at "z"
    refine ⟨D, m, rfl, dd, by omega, by omega, fun ra Ha ra0 ra1 ka da => ?_⟩
    walk_at "z"
    obtain ⟨mo, em, mo1, mo2⟩ : ∃ mo : Int, 1 + ra = mo ∧ 1 ≤ mo ∧ mo ≤ 10 ^ 30 := ⟨_, rfl, by omega, by omega⟩
    rw [em]
    refine ⟨by omega, D, 3, rfl, da, by decide, by decide, fun rb Hb rb0 rb1 kb db => ?_⟩
    walk_at "z"
    obtain ⟨rs, ers, hrs⟩ : ∃ rs : Int, n0 % mo + mo * (rb - 1) = rs ∧ S60 rs := by
      have g0 := Int.emod_nonneg n0 (show mo ≠ 0 by omega)
      have g1 := Int.emod_lt_of_pos n0 (show 0 < mo by omega)
      refine ⟨_, rfl, ?_⟩
      rcases (show rb = 0 ∨ rb = 1 ∨ rb = 2 by omega) with rfl | rfl | rfl <;> exact ⟨by omega, by omega⟩
    rw [ers]
    have kab := ka.trans kb
    have fin : ∀ (Hx : Hp) (z : Int), Keep D H Hx → Dice Hx D → Hx F = some (.lst zs) → PQ Hx zs ps → S60 z → 2 ≤ sizeLine ∧ ∀ p, Hx p = none → rAppend (.ref F) [.ref p] (upd Hx p (.tup [.int mo, .int z])) fun _ H1 => N [some (.ref D), some (.int m), some (.int n0), some (.ref F), some (.int (0 + (i : Int))), some (.int mo), some (.int rs)] H1 := fun Hx z kx dx hx px sz => ⟨by decide, fun p hp => by
      have hx2 := same_upd (o := .tup [.int mo, .int z]) hp _ _ hx
      refine ⟨F, zs, .ref p, rfl, rfl, hx2, by rw [px.len]; exact Nat.lt_of_le_of_lt (show _ ≤ 6 by omega) (by decide), ?_⟩
      refine hN _ _ ⟨_, _, _, zs ++ [.ref p], ps ++ [(mo, z)], rfl, kmut (kx.new hp) hF0, dmut (dx.same (same_upd hp)) dF, upd_same, ?_, by simp [hpl], fun q hq => ?_⟩
      · exact pq_app (pq_upd hx2 (px.same (same_upd hp))) (.cons ⟨p, rfl, by rw [upd_ne (fun c => by rw [c, hx] at hp; cases hp)]; exact upd_same⟩ .nil)
      · rcases List.mem_append.mp hq with h | h
        · exact hpo q h
        · rw [List.mem_singleton] at h
          subst h
          exact ⟨mo1, by show mo < 10 ^ 60; omega, sz⟩⟩
    refine ⟨mulR (by omega), tyL (kab _ _ (Ne.symm dF) hz), D, 5, rfl, db, by decide, by decide, fun rc Hc rc0 rc1 kc dc => ?_⟩
    walk_at "z"
    have kabc := kab.trans kc
    have hzc := kabc _ _ (Ne.symm dF) hz
    have hPc := pq_keep dd kabc hP
    by_cases c : 0 < rc
    · rw [if_pos c]
      exact fin Hc rs (kk.trans kabc) dc hzc hPc hrs
    · rw [if_neg c]
      refine ⟨mulS (by decide), D, _, rfl, dc, by omega, by omega, fun rd Hd rd0 rd1 kd ddd => ?_⟩
      walk_at "z"
      exact fin Hd _ (kk.trans (kabc.trans kd)) ddd (kd _ _ (Ne.symm dF) hzc) (pq_keep dc kd hPc) ⟨by omega, by omega⟩
  · obtain ⟨o4, o5, o6, zs, ps, rfl, kk, dd, hz, hP, hpl, hpo⟩ := h
    have hpl2 : 1 ≤ ps.length ∧ ps.length ≤ 6 := by omega
    walk_at "z"
    refine ⟨D, 3, rfl, dd, by decide, by decide, fun w H5 w0 w1 k5 d5 => ?_⟩
    walk_at "z"
    have endL : ∀ (Hx : Hp) (zs : List V) (ps : List (Int × Int)), Keep D H Hx → Dice Hx D → Hx F = some (.lst zs) → PQ Hx zs ps → 1 ≤ ps.length → (∀ p ∈ ps, 1 ≤ p.1 ∧ p.1 < 10 ^ 60 ∧ S60 p.2) → rSlL K (.ref F) none (some 6) Hx fun x H1 => rTupOf K [x] H1 Q := fun Hx zs ps kx dx hx px p1 po => by
      refine ⟨F, zs, rfl, sqL_of hx, fun L hL => ?_⟩
      rw [cut6]
      refine ⟨L, _, rfl, .inl ⟨sqL_of upd_same, fun T hT => ?_⟩⟩
      have s1 := (same_upd (o := .lst (zs.take 6)) hL).trans (same_upd (o := .tup (zs.take 6)) hT)
      refine hq T _ (ps.take 6) _ (kx.same s1) (dx.same s1) (dne (dx.same (same_upd hL)) hT) upd_same (paired_take 6 (px.same s1)) ⟨by rw [List.length_take]; omega, by rw [List.length_take]; omega, fun p hp => po p (List.mem_of_mem_take hp)⟩
    have hz5 := k5 _ _ (Ne.symm dF) hz
    have hP5 := pq_keep dd k5 hP
    by_cases c : w = 0
    · rw [if_pos c]
      have hzl := hP5.len
      refine ⟨tyL hz5, D, F, zs, rfl, d5, dF, hz5, fun e => by rw [e] at hzl; simp at hzl; omega, Nat.lt_of_le_of_lt (show _ ≤ 6 by omega) (by decide), fun v H6 hv k6 d6 => ?_⟩
      have hz6 := k6 _ _ (Ne.symm dF) hz5
      have hP6 := pq_keep d5 k6 hP5
      obtain ⟨k, hk, ev⟩ := List.getElem_of_mem hv
      obtain ⟨q, t, e1, et, h3⟩ := hP6.get (i := k) (x := v) (by rw [← ev]; exact List.getElem?_eq_getElem hk)
      refine ⟨F, zs, v, rfl, rfl, hz6, Nat.lt_of_le_of_lt (show _ ≤ 6 by omega) (by decide), ?_⟩
      refine endL _ (zs ++ [v]) (ps ++ [q]) (kmut ((kk.trans k5).trans k6) hF0) (dmut d6 dF) upd_same (pq_app (pq_upd hz6 hP6) (.cons ⟨t, et, ?_⟩ .nil)) (by simp) (fun p hp => ?_)
      · rw [upd_ne (fun c => by rw [c, hz6] at h3; cases h3)]
        exact h3
      · rcases List.mem_append.mp hp with h | h
        · exact hpo p h
        · rw [List.mem_singleton] at h
          rw [h]
          exact hpo q (List.mem_of_getElem? e1)
    · rw [if_neg c]
      exact endL _ zs ps (kk.trans k5) d5 hz5 hP5 hpl2.1 hpo

theorem ok__law_pairs_drawn {P : Program} {w : World} {K : PySem.W.Frag} {mg : Str → Option Value} {base : Heap} (T : Tx K mg) : Okk P w K mg base 4 "_law_pairs_drawn" ["dice"] (sp__law_pairs_drawn K) := by
  obtain ⟨fd__law_roll, F__law_roll, b__law_roll, g__law_roll, k__law_roll⟩ := ok__law_roll (P := P) (w := w) (base := base) T
  obtain ⟨fd__law_pick, F__law_pick, b__law_pick, g__law_pick, k__law_pick⟩ := ok__law_pick (P := P) (w := w) (base := base) T
  obtain ⟨fd__law_integer_drawn, F__law_integer_drawn, b__law_integer_drawn, g__law_integer_drawn, k__law_integer_drawn⟩ := ok__law_integer_drawn (P := P) (w := w) (base := base) T
  have hf_int := T.n_int
  have hf_range := T.n_range
  have hf_tuple := T.n_tuple
  obtain ⟨fd, F⟩ := T.f__law_pairs_drawn
  refine ⟨fd, F.ok sc__law_pairs_drawn (fun vs H Q E h => len__law_pairs_drawn h) (fun cdv A outer s H vs Q E hr h => ⟨t__law_pairs_drawn K, PSs.nox ?_, pure__law_pairs_drawn K vs H Q E h⟩), F.bindsN (fun _ _ _ _ _ _ us hl => match us, hl with | [_], _ => rfl), T.g__law_pairs_drawn, F.kp⟩
  exact (pss_cons (ps_set (i := 1) sc__law_pairs_drawn.nd rfl (by first | exact Or.inl rfl | exact Or.inr rfl) (pe_call F__law_pick (hr.mono (by decide)) rfl g__law_pick k__law_pick b__law_pick .nil pass0 (pa_cons (pv 0) (pa_cons (pe_lst (pa_cons pe_int (pa_cons pe_int (pa_cons pe_int (pa_cons pe_int (pa_cons (pe_op op_pow pe_int pe_int) (pa_cons (pe_op op_pow pe_int pe_int) pa_nil))))))) pa_nil))))
      (pss_cons (ps_par (i := 2) (j := 3) rfl sc__law_pairs_drawn.nd rfl rfl (by decide) rfl rfl (pa_cons (pe_call F__law_integer_drawn (hr.mono (by decide)) rfl g__law_integer_drawn k__law_integer_drawn b__law_integer_drawn .nil pass0 (pa_cons (pv 0) pa_nil)) (pa_cons (pe_lst pa_nil) pa_nil)) (by rfl))
      (pss_cons (ps_for PassesOwn.never rfl (pi_range1 rfl hf_range (pa_cons (pe_op op_add pe_int (pe_call F__law_roll (hr.mono (by decide)) rfl g__law_roll k__law_roll b__law_roll .nil pass0 (pa_cons (pv 0) (pa_cons pe_int pa_nil)))) pa_nil)) (pg_name (i := 4) sc__law_pairs_drawn.nd rfl (by first | exact Or.inl rfl | exact Or.inr rfl)) (pss_cons (ps_set (i := 5) sc__law_pairs_drawn.nd rfl (by first | exact Or.inl rfl | exact Or.inr rfl) (pe_op op_add pe_int (pe_call F__law_roll (hr.mono (by decide)) rfl g__law_roll k__law_roll b__law_roll .nil pass0 (pa_cons (pv 0) (pa_cons (pv 1) pa_nil)))))
      (pss_cons (ps_set (i := 6) sc__law_pairs_drawn.nd rfl (by first | exact Or.inl rfl | exact Or.inr rfl) (pe_op op_add (pe_op op_mod (pe_callTy call_int1 (by rfl) hf_int (by decide +kernel) (pa_cons (pv 2) pa_nil)) (pv 5)) (pe_op op_mulU (pv 5) (pe_op op_sub (pe_call F__law_roll (hr.mono (by decide)) rfl g__law_roll k__law_roll b__law_roll .nil pass0 (pa_cons (pv 0) (pa_cons pe_int pa_nil))) pe_int))))
      (pss_one (ps_expr (pe_bm PySem.F.plainAttrs_list PySem.F.slot_list_append PySem.F.type_list_append mt_append (pv 3) (pa_cons (pe_tup (pa_cons (pv 5) (pa_cons (pe_ifExp (pt_cmpR op_gt (pe_call F__law_roll (hr.mono (by decide)) rfl g__law_roll k__law_roll b__law_roll .nil pass0 (pa_cons (pv 0) (pa_cons pe_int pa_nil))) pe_int (nomark _)) (pv 6) (pe_op op_sub (pe_call F__law_roll (hr.mono (by decide)) rfl g__law_roll k__law_roll b__law_roll .nil pass0 (pa_cons (pv 0) (pa_cons (pe_op op_mulU pe_int (pv 5)) pa_nil))) (pv 5))) pa_nil))) pa_nil)))))))
      (pss_cons (ps_if (pt_cmpR op_eq (pe_call F__law_roll (hr.mono (by decide)) rfl g__law_roll k__law_roll b__law_roll .nil pass0 (pa_cons (pv 0) (pa_cons pe_int pa_nil))) pe_int (nomark _)) (pss_one (ps_expr (pe_bm PySem.F.plainAttrs_list PySem.F.slot_list_append PySem.F.type_list_append mt_append (pv 3) (pa_cons (pe_call F__law_pick (hr.mono (by decide)) rfl g__law_pick k__law_pick b__law_pick .nil pass0 (pa_cons (pv 0) (pa_cons (pv 3) pa_nil))) pa_nil)))) pss_nil)
      (pss_one (ps_ret (pe_callTy call_tuple_of (by rfl) hf_tuple (by decide +kernel) (pa_cons (pe_slice sl_list (pv 3) po_none (po_some pe_int)) pa_nil))))))))
/-! ### _law_divisor_right -/
theorem sc__law_divisor_right : FnScope ["dice", "one", "other", "claim", "paper", "found", "u", "v", "first", "last"] ["dice", "one", "other"] (defScope s__law_divisor_right) := ⟨rfl, rfl, rfl, by decide +kernel, rfl, by decide +kernel, by decide +kernel⟩
def sp__law_divisor_right (K : PySem.W.Frag) : Sp := fun vs H Q _ => ∃ (w : V) (a b : Int), vs = [w, .int a, .int b] ∧ S60 a ∧ S60 b ∧ ∀ H', Same H H' → Q (.bl true) H'
theorem len__law_divisor_right {K : PySem.W.Frag} {vs : List V} {H : Hp} {Q : VK} {E : XK} (h : sp__law_divisor_right K vs H Q E) : vs.length = ["dice", "one", "other"].length := by
  obtain ⟨_, _, _, rfl, _⟩ := h
  rfl
def t__law_divisor_right (K : PySem.W.Frag) : TS := (tSeq (tAsg (tCall (sp_divisor_answer K) [] E0 (tCons (tVar 1) (tCons (tVar 2) tNil))) (gTup K 2 (gCons (gName 3) (gCons (gName 4) gNil))))
  (tSeq (tAsg (tCall (sp__law_gcd K) [] E0 (tCons (tVar 1) (tCons (tVar 2) tNil))) (gName 5))
  (tSeq (tIfS (tOr (tTest (tOp (rNeD K) (tVar 3) (tTup (tCons (tC (.str "divisor")) (tCons (tVar 1) (tCons (tVar 2) (tCons (tVar 5) tNil))))))) (tNot (tB (tCall (sp__law_are_plain K) [] E0 (tCons (tVar 4) (tCons (tC (.int 4)) tNil)))))) (tRet (tC (.bl false))) tNext)
  (tSeq (tAsg (tVar 4) (gTup K 4 (gCons (gName 6) (gCons (gName 7) (gCons (gName 8) (gCons (gName 9) gNil))))))
  (tRet (tAndV (tOp rEq (tOp rAdd (tOp rMulU (tVar 6) (tVar 1)) (tOp rMulU (tVar 7) (tVar 2))) (tVar 5)) (tAndV (tOp rEq (tOp rMulU (tVar 8) (tVar 5)) (tVar 1)) (tOp rEq (tOp rMulU (tVar 9) (tVar 5)) (tVar 2)))))))))
theorem pure__law_divisor_right (K : PySem.W.Frag) (vs : List V) (H : Hp) (Q : VK) (E : XK) (h : sp__law_divisor_right K vs H Q E) : t__law_divisor_right K { nx := fun _ H' => Q .non H', rt := Q } (start ["dice", "one", "other", "claim", "paper", "found", "u", "v", "first", "last"] vs) H := by
  obtain ⟨w, a, b, rfl, sa, sb, hq⟩ := h
  unfold t__law_divisor_right
  walk_at "z"
  refine ⟨a, b, rfl, sa, sb, fun A C P u v c d H1 s1 hA hC hP e1 e2 e3 su sv sc sd => ?_⟩
  refine ⟨A, _, rfl, sqT_of hA, rfl, ?_⟩
  walk_at "z"
  refine ⟨a, b, rfl, ?_⟩
  walk_at "z"
  refine ⟨by decide, fun R hR => ?_⟩
  have sR := same_upd (o := .tup [.str dvS, .int a, .int b, .int (gI a b)]) hR
  have sh : SeqAt.shaped (.tuple [.str dvS, .int a, .int b, .int (gI a b)]) = true := by
    simp [SeqAt.shaped, PyData.canLay0, PyData.canLayAll0, PyData.depth, PyData.depthAll, dvS, strOk_of]
  refine ⟨.tuple [.str dvS, .int a, .int b, .int (gI a b)], .tuple [.str dvS, .int a, .int b, .int (gI a b)], .tup (sqT_of (sR _ _ hC)) (.cons (.str _) (.cons (.int _) (.cons (.int _) (.cons (.int _) .nil)))), .tup (sqT_of upd_same) (.cons (.str _) (.cons (.int _) (.cons (.int _) (.cons (.int _) .nil)))), sh, sh, ?_⟩
  have he : PyData.eqv (.tuple [.str dvS, .int a, .int b, .int (gI a b)]) (.tuple [.str dvS, .int a, .int b, .int (gI a b)]) = true := by simp [PyData.eqv, PyData.eqvAll]
  rw [he]
  walk_at "z"
  refine ⟨P, [u, v, c, d], 4, rfl, sR _ _ hP, rfl, by show 4 < 2 ^ 20; decide, fun H2 s2 => ?_⟩
  walk_at "z"
  refine ⟨_, sqT_of (s2 _ _ (sR _ _ hP)), rfl, ?_⟩
  walk_at "z"
  have gl := gI_le sa sb
  have sg : Sz 250 (gI a b) := S60.sz ⟨by omega, gl.2⟩
  have e4 : u * a + v * b = gI a b := by rw [Int.mul_comm u, Int.mul_comm v]; exact e1
  change (CMul u a ∨ CMulW u a) ∧ (CMul v b ∨ CMulW v b) ∧ if u * a + v * b = gI a b then (CMul c (gI a b) ∨ CMulW c (gI a b)) ∧ if c * gI a b = a then (CMul d (gI a b) ∨ CMulW d (gI a b)) ∧ Q (.bl (decide (d * gI a b = b))) H2 else Q (.bl false) H2 else Q (.bl false) H2
  rw [if_pos e4, if_pos e2, decide_eq_true e3]
  exact ⟨mulW su sa.sz (by decide) (by decide) (by decide), mulW sv sb.sz (by decide) (by decide) (by decide), mulW sc sg (by decide) (by decide) (by decide), mulW sd sg (by decide) (by decide) (by decide), hq _ (s1.trans (sR.trans s2))⟩
theorem ok__law_divisor_right {P : Program} {w : World} {K : PySem.W.Frag} {mg : Str → Option Value} {base : Heap} (T : Tx K mg) : Okk P w K mg base 5 "_law_divisor_right" ["dice", "one", "other"] (sp__law_divisor_right K) := by
  obtain ⟨fd_divisor_answer, F_divisor_answer, b_divisor_answer, g_divisor_answer, k_divisor_answer⟩ := ok_divisor_answer (P := P) (w := w) (base := base) T
  obtain ⟨fd__law_gcd, F__law_gcd, b__law_gcd, g__law_gcd, k__law_gcd⟩ := ok__law_gcd (P := P) (w := w) (base := base) T
  obtain ⟨fd__law_are_plain, F__law_are_plain, b__law_are_plain, g__law_are_plain, k__law_are_plain⟩ := ok__law_are_plain (P := P) (w := w) (base := base) T
  obtain ⟨fd, F⟩ := T.f__law_divisor_right
  refine ⟨fd, F.ok sc__law_divisor_right (fun vs H Q E h => len__law_divisor_right h) (fun cdv A outer s H vs Q E hr h => ⟨t__law_divisor_right K, PSs.nox ?_, pure__law_divisor_right K vs H Q E h⟩), F.bindsN (fun _ _ _ _ _ _ us hl => match us, hl with | [_, _, _], _ => rfl), T.g__law_divisor_right, F.kp⟩
  have hu64 := hu64_of hr
  exact (pss_cons (ps_asg (pe_call F_divisor_answer (hr.mono (by decide)) rfl g_divisor_answer k_divisor_answer b_divisor_answer .nil pass0 (pa_cons (pv 1) (pa_cons (pv 2) pa_nil))) (pg_tup rfl (pgs_cons (pg_name (i := 3) sc__law_divisor_right.nd rfl (by first | exact Or.inl rfl | exact Or.inr rfl)) (pgs_cons (pg_name (i := 4) sc__law_divisor_right.nd rfl (by first | exact Or.inl rfl | exact Or.inr rfl)) pgs_nil))))
      (pss_cons (ps_set (i := 5) sc__law_divisor_right.nd rfl (by first | exact Or.inl rfl | exact Or.inr rfl) (pe_call F__law_gcd (hr.mono (by decide)) rfl g__law_gcd k__law_gcd b__law_gcd .nil pass0 (pa_cons (pv 1) (pa_cons (pv 2) pa_nil))))
      (pss_cons (ps_if (PW.pt (pw_or (pt_cmpR (op_neD hu64) (pv 3) (pe_tup (pa_cons pe_str (pa_cons (pv 1) (pa_cons (pv 2) (pa_cons (pv 5) pa_nil))))) (nomark _)) (pw_or1 (pt_not (pt_val (pe_call F__law_are_plain (hr.mono (by decide)) rfl g__law_are_plain k__law_are_plain b__law_are_plain .nil pass0 (pa_cons (pv 4) (pa_cons pe_int pa_nil)))))))) (pss_one (ps_ret pe_bl)) pss_nil)
      (pss_cons (ps_asg (pv 4) (pg_tup rfl (pgs_cons (pg_name (i := 6) sc__law_divisor_right.nd rfl (by first | exact Or.inl rfl | exact Or.inr rfl)) (pgs_cons (pg_name (i := 7) sc__law_divisor_right.nd rfl (by first | exact Or.inl rfl | exact Or.inr rfl)) (pgs_cons (pg_name (i := 8) sc__law_divisor_right.nd rfl (by first | exact Or.inl rfl | exact Or.inr rfl)) (pgs_cons (pg_name (i := 9) sc__law_divisor_right.nd rfl (by first | exact Or.inl rfl | exact Or.inr rfl)) pgs_nil))))))
      (pss_one (ps_ret (pe_and (pe_cmpR op_eq (pe_op op_add (pe_op op_mulU (pv 6) (pv 1)) (pe_op op_mulU (pv 7) (pv 2))) (pv 5) (nomark _)) (pe_and (pe_cmpR op_eq (pe_op op_mulU (pv 8) (pv 5)) (pv 1) (nomark _)) (pe_one (pe_cmpR op_eq (pe_op op_mulU (pv 9) (pv 5)) (pv 2) (nomark _)))))))))))
/-! ### _law_rests_right -/
theorem sc__law_rests_right : FnScope ["pairs", "claim", "paper", "is_there", "modulus", "rest", "one", "other"] ["pairs"] (defScope s__law_rests_right) := ⟨rfl, rfl, rfl, by decide +kernel, rfl, by decide +kernel, by decide +kernel⟩
def sp__law_rests_right (K : PySem.W.Frag) : Sp := fun vs H Q _ => ∃ (T : Addr) (xs : List V) (ps : List (Int × Int)), vs = [.ref T] ∧ H T = some (.tup xs) ∧ PQ H xs ps ∧ PsOk ps ∧ ∀ H', Same H H' → Q (.bl true) H'
theorem len__law_rests_right {K : PySem.W.Frag} {vs : List V} {H : Hp} {Q : VK} {E : XK} (h : sp__law_rests_right K vs H Q E) : vs.length = ["pairs"].length := by
  obtain ⟨_, _, _, rfl, _⟩ := h
  rfl
def t__law_rests_right_k1_b (K : PySem.W.Frag) : TS := (tSeq (tIfS (tOr (tNot (tB (tCall (sp__law_are_plain K) [] E0 (tCons (tVar 2) (tCons (tC (.int 3)) tNil))))) (tOr (tNot (tTest (tChain3 rLeI rLtI rLtI (tC (.int 0)) (tOp (rIxA K) (tVar 2) (tC (.int 0))) (tOp (rIxA K) (tVar 2) (tC (.int 1))) (tCB (rLenU K) (tCons (tVar 0) tNil))))) (tTest (tOp rLtI (tOp (rIxA K) (tVar 2) (tC (.int 2))) (tC (.int 1)))))) (tRet (tC (.bl false))) tNext)
  (tSeq (tPar 6 7 (tCons (tOp (rIxA K) (tVar 0) (tOp (rIxA K) (tVar 2) (tC (.int 0)))) (tCons (tOp (rIxA K) (tVar 0) (tOp (rIxA K) (tVar 2) (tC (.int 1)))) tNil)))
  (tRet (tAndV (tOp rEq (tOp rModU (tCB (rInt1) (tCons (tOp (rIxA K) (tVar 6) (tC (.int 0))) tNil)) (tOp (rIxA K) (tVar 2) (tC (.int 2)))) (tC (.int 0))) (tAndV (tOp rEq (tOp rModU (tCB (rInt1) (tCons (tOp (rIxA K) (tVar 7) (tC (.int 0))) tNil)) (tOp (rIxA K) (tVar 2) (tC (.int 2)))) (tC (.int 0))) (tOp rNe (tOp rModU (tCB (rInt1) (tCons (tOp rSub (tOp (rIxA K) (tVar 6) (tC (.int 1))) (tOp (rIxA K) (tVar 7) (tC (.int 1)))) tNil)) (tOp (rIxA K) (tVar 2) (tC (.int 2)))) (tC (.int 0))))))))
def t__law_rests_right_k2_b (K : PySem.W.Frag) : TS := (tSeq (tIfS (tB (tVar 3)) (tRet (tAndV (tCall (sp__law_is_plain K) [] E0 (tCons (tVar 2) tNil)) (tOp (rEqD K) (tLc (iTup K (tVar 0)) (gTup K 2 (gCons (gName 4) (gCons (gName 5) gNil))) (tTest (tOp rNe (tOp rModU (tCB (rInt1) (tCons (tOp rSub (tVar 2) (tVar 5)) tNil)) (tVar 4)) (tC (.int 0)))) (tC (.int 1)) [4, 5]) (tLst tNil)))) tNext)
  (t__law_rests_right_k1_b K))
def t__law_rests_right_k3_b (K : PySem.W.Frag) : TS := (tSeq (tIfS (tOr (tTest (tOp (rNeD K) (tVar 1) (tTup (tCons (tIf (tB (tVar 3)) (tC (.str "rests")) (tC (.str "no rests"))) (tCons (tVar 0) tNil))))) (tTest (tOp (rIn K true) (tCall (sp__law_tried K) [] E0 (tCons (tVar 0) tNil)) (tTup (tCons (tC .non) (tCons (tVar 3) tNil)))))) (tRet (tC (.bl false))) tNext)
  (t__law_rests_right_k2_b K))
def t__law_rests_right (K : PySem.W.Frag) : TS := (tSeq (tAsg (tCall (sp_rests_answer K) [] E0 (tCons (tVar 0) tNil)) (gTup K 2 (gCons (gName 1) (gCons (gName 2) gNil))))
  (tSeq (tAsg (tIsN (tCall (sp__law_against K) [] E0 (tCons (tVar 0) tNil))) (gName 3))
  (t__law_rests_right_k3_b K)))
def pqD (ps : List (Int × Int)) : List PyData := ps.map fun q => .tuple [.int q.1, .int q.2]
theorem pqD_ok : ∀ ps : List (Int × Int), PyData.canLayAll0 (pqD ps) = true ∧ PyData.depthAll (pqD ps) ≤ 2 ∧ PyData.eqvAll (pqD ps) (pqD ps) = true
  | [] => ⟨rfl, Nat.zero_le _, rfl⟩
  | q :: r => by
    obtain ⟨h1, h2, h3⟩ := pqD_ok r
    have e : pqD (q :: r) = .tuple [.int q.1, .int q.2] :: pqD r := rfl
    rw [e]
    refine ⟨?_, ?_, ?_⟩
    · simp [PyData.canLayAll0, PyData.canLay0, h1]
    · simp [PyData.depthAll, PyData.depth]; omega
    · simp [PyData.eqvAll, PyData.eqv, h3]
theorem pq_dp {K : PySem.W.Frag} {H : Hp} : ∀ {xs : List V} {ps : List (Int × Int)}, PQ H xs ps → DpAll K H xs (pqD ps)
  | _, _, .nil => .nil
  | _, _, .cons ⟨t, e, h⟩ r => by
    subst e
    exact .cons (.tup (sqT_of h) (.cons (.int _) (.cons (.int _) .nil))) (pq_dp r)
theorem claim_dp {K : PySem.W.Frag} {H : Hp} {C R T : Addr} {s : PySem.Str} {xs : List V} {ps : List (Int × Int)} {Q : VK} (hs : PyData.strOk s = true) (hC : H C = some (.tup [.str s, .ref T])) (hR : H R = some (.tup [.str s, .ref T])) (hT : H T = some (.tup xs)) (hP : PQ H xs ps) (q : Q (.bl false) H) : rNeD K (.ref C) (.ref R) H Q := by
  obtain ⟨i1, i2, i3⟩ := pqD_ok ps
  have sh : SeqAt.shaped (.tuple [.str s, .tuple (pqD ps)]) = true := by
    simp [SeqAt.shaped, PyData.canLay0, PyData.canLayAll0, PyData.depth, PyData.depthAll, i1, hs]
    omega
  refine ⟨.tuple [.str s, .tuple (pqD ps)], .tuple [.str s, .tuple (pqD ps)], .tup (sqT_of hC) (.cons (.str _) (.cons (.tup (sqT_of hT) (pq_dp hP)) .nil)), .tup (sqT_of hR) (.cons (.str _) (.cons (.tup (sqT_of hT) (pq_dp hP)) .nil)), sh, sh, ?_⟩
  have he : PyData.eqv (.tuple [.str s, .tuple (pqD ps)]) (.tuple [.str s, .tuple (pqD ps)]) = true := by simp [PyData.eqv, PyData.eqvAll, i3]
  rw [he]
  exact q
theorem pure__law_rests_right (K : PySem.W.Frag) (vs : List V) (H : Hp) (Q : VK) (E : XK) (h : sp__law_rests_right K vs H Q E) : t__law_rests_right K { nx := fun _ H' => Q .non H', rt := Q } (start ["pairs", "claim", "paper", "is_there", "modulus", "rest", "one", "other"] vs) H := by
  obtain ⟨T, xs, ps, rfl, hT, hP, hok, hq⟩ := h
  unfold t__law_rests_right
  walk_at "z"
  refine ⟨T, xs, ps, rfl, hT, hP, hok, fun hn A C x H1 s1 hA hC hs hx => ?_, fun i j p q A C P H1 hi hj hij hc s1 hA hC hPp => ?_⟩
  · refine ⟨A, _, rfl, sqT_of hA, rfl, ?_⟩
    walk_at "z"
    refine ⟨T, xs, ps, rfl, s1 _ _ hT, hP.same s1, hok, fun r H2 s2 hr => ?_⟩
    obtain rfl := hr.mpr hn
    walk_at "z"
    unfold t__law_rests_right_k3_b
    walk_at "z"
    refine ⟨by decide, fun R hR => ?_⟩
    have sR := s2.trans (same_upd (o := .tup [.str rsS, .ref T]) hR)
    have sT := s1.trans sR
    refine claim_dp (s := rsS) (strOk_of _) (sR _ _ hC) upd_same (sT _ _ hT) (hP.same sT) ?_
    walk_at "z"
    refine ⟨T, xs, ps, rfl, sT _ _ hT, hP.same sT, hok, fun r3 H3 s3 hr3 => ⟨by decide, fun R2 hR2 => ?_⟩⟩
    have s4 := s3.trans (same_upd (o := .tup [.non, .bl true]) hR2)
    have hin : flatV r3 = true ∧ inV r3 [.non, .bl true] = true := by
      rcases hr3 with rfl | ⟨b, rfl, hb⟩
      · exact ⟨rfl, rfl⟩
      · rw [hb.mpr hn]; exact ⟨rfl, rfl⟩
    refine ⟨R2, [.non, .bl true], rfl, .inr (sqT_of upd_same), hin.1, rfl, ?_⟩
    rw [hin.2]
    walk_at "z"
    have sE := sT.trans s4
    unfold t__law_rests_right_k2_b
    walk_at "z"
    refine ⟨x, rfl, ?_⟩
    walk_at "z"
    refine ⟨T, rfl, ⟨_, sqT_of (sE _ _ hT)⟩, comp_T (sqT_of (sE _ _ hT)) (triedO ps x) (by have := hP.len; have := hok.2.1; omega) (fun i y H5 hy s5 Qo hQo => ?_) (fun L H5 s5 hL => ?_)⟩
    · obtain ⟨q, t, e1, rfl, h3⟩ := ((hP.same sE).same s5).get hy
      have q1 := (hok.2.2 q (List.mem_of_getElem? e1)).1
      walk_at "z"
      refine ⟨_, sqT_of h3, rfl, ?_⟩
      walk_at "z"
      refine ⟨by omega, ?_⟩
      have := hQo _ (Same.refl _)
      unfold triedO at this
      rw [e1] at this
      by_cases c2 : (x - q.2) % q.1 = 0
      · rw [if_neg (fun h => h c2)]
        simpa [c2] using this
      · rw [if_pos c2]
        simpa [c2] using this
    · rw [hP.len] at hL
      refine ⟨by decide, fun R3 hR3 => ?_⟩
      have sR3 := same_upd (o := .lst []) hR3
      refine ones_eq (tried_ones ps x ps.length) (sR3 _ _ hL) upd_same ?_
      rw [(tried_nil ps x).mpr hs]
      exact hq _ ((sE.trans s5).trans sR3)
  · refine ⟨A, _, rfl, sqT_of hA, rfl, ?_⟩
    walk_at "z"
    refine ⟨T, xs, ps, rfl, s1 _ _ hT, hP.same s1, hok, fun r H2 s2 hr => ?_⟩
    have hn : ¬ NoClash ps := fun h => hc (h i j p q hi hj hij)
    have hr2 : r ≠ .non := fun h => hn (hr.mp h)
    walk_at "z"
    rw [decide_eq_false hr2]
    unfold t__law_rests_right_k3_b
    walk_at "z"
    refine ⟨by decide, fun R hR => ?_⟩
    have sR := s2.trans (same_upd (o := .tup [.str nrS, .ref T]) hR)
    have sT := s1.trans sR
    refine claim_dp (s := nrS) (strOk_of _) (sR _ _ hC) upd_same (sT _ _ hT) (hP.same sT) ?_
    walk_at "z"
    refine ⟨T, xs, ps, rfl, sT _ _ hT, hP.same sT, hok, fun r3 H3 s3 hr3 => ⟨by decide, fun R2 hR2 => ?_⟩⟩
    have s4 := s3.trans (same_upd (o := .tup [.non, .bl false]) hR2)
    have hin : flatV r3 = true ∧ inV r3 [.non, .bl false] = true := by
      rcases hr3 with rfl | ⟨b, rfl, hb⟩
      · exact ⟨rfl, rfl⟩
      · have : b = false := Bool.eq_false_iff.mpr fun c => hn (hb.mp c)
        rw [this]; exact ⟨rfl, rfl⟩
    refine ⟨R2, [.non, .bl false], rfl, .inr (sqT_of upd_same), hin.1, rfl, ?_⟩
    rw [hin.2]
    walk_at "z"
    have sE := sT.trans s4
    have sP := sR.trans s4
    have hPp := sP _ _ hPp
    have hTE := sE _ _ hT
    have hPE := hP.same sE
    have hl := hP.len
    have pi := (List.getElem?_eq_some_iff.mp hi)
    have pj := (List.getElem?_eq_some_iff.mp hj)
    obtain ⟨li, ei⟩ := pi
    obtain ⟨lj, ej⟩ := pj
    obtain ⟨ti, hti, hci⟩ := hPE.at li
    obtain ⟨tj, htj, hcj⟩ := hPE.at lj
    rw [ei] at hci
    rw [ej] at hcj
    have p1 := (hok.2.2 p (List.mem_of_getElem? hi)).1
    have gpos : 0 < Nat.gcd p.1.natAbs q.1.natAbs := Nat.gcd_pos_of_pos_left _ (by omega)
    have gpI : 0 < gI p.1 q.1 := by unfold gI; omega
    unfold t__law_rests_right_k2_b
    walk_at "z"
    unfold t__law_rests_right_k1_b
    walk_at "z"
    refine ⟨P, [(i : Int), (j : Int), gI p.1 q.1], 3, rfl, hPp, rfl, by show 3 < 2 ^ 20; decide, fun H5 s5 => ?_⟩
    have hPp := s5 _ _ hPp
    have hTE := s5 _ _ hTE
    have hci := s5 _ _ hci
    have hcj := s5 _ _ hcj
    walk_at "z"
    have x0 : ∀ {Hx : Hp} {Qx : VK}, Hx P = some (.tup [.int (i : Int), .int (j : Int), .int (gI p.1 q.1)]) → Qx (.int (i : Int)) Hx → rIxA K (.ref P) (.int 0) Hx Qx := fun h qx => ixT (sqT_of h) rfl qx
    have x1 : ∀ {Hx : Hp} {Qx : VK}, Hx P = some (.tup [.int (i : Int), .int (j : Int), .int (gI p.1 q.1)]) → Qx (.int (j : Int)) Hx → rIxA K (.ref P) (.int 1) Hx Qx := fun h qx => ixT (sqT_of h) rfl qx
    have x2 : ∀ {Hx : Hp} {Qx : VK}, Hx P = some (.tup [.int (i : Int), .int (j : Int), .int (gI p.1 q.1)]) → Qx (.int (gI p.1 q.1)) Hx → rIxA K (.ref P) (.int 2) Hx Qx := fun h qx => ixT (sqT_of h) rfl qx
    have dp : gI p.1 q.1 ∣ p.1 := ndvd.mpr (Nat.gcd_dvd_left _ _)
    have dq : gI p.1 q.1 ∣ q.1 := ndvd.mpr (Nat.gcd_dvd_right _ _)
    have hc2 : ¬ (p.2 - q.2) % gI p.1 q.1 = 0 := fun h => hc (Int.dvd_of_emod_eq_zero h)
    refine x0 hPp ?_
    walk_at "z"
    rw [if_pos (by omega)]
    refine x1 hPp ?_
    walk_at "z"
    rw [if_pos (by omega)]
    refine lenT (sqT_of hTE) ?_
    walk_at "z"
    rw [if_neg (fun h => h (by omega))]
    refine x2 hPp ?_
    walk_at "z"
    rw [if_neg (by omega)]
    refine x0 hPp ?_
    refine ixT (sqT_of hTE) (atI_nat2 hti) ?_
    refine x1 hPp ?_
    refine ixT (sqT_of hTE) (atI_nat2 htj) ?_
    walk_at "z"
    refine ixT (sqT_of hci) (v := .int p.1) rfl ?_
    walk_at "z"
    refine x2 hPp ?_
    walk_at "z"
    refine ⟨gpI, ?_⟩
    rw [if_pos (Int.emod_eq_zero_of_dvd dp)]
    refine ixT (sqT_of hcj) (v := .int q.1) rfl ?_
    walk_at "z"
    refine x2 hPp ?_
    walk_at "z"
    refine ⟨gpI, ?_⟩
    rw [if_pos (Int.emod_eq_zero_of_dvd dq)]
    refine ixT (sqT_of hci) (v := .int p.2) rfl ?_
    refine ixT (sqT_of hcj) (v := .int q.2) rfl ?_
    walk_at "z"
    refine x2 hPp ?_
    walk_at "z"
    refine ⟨gpI, ?_⟩
    rw [decide_eq_false hc2]
    exact hq _ (sE.trans s5)
theorem ok__law_rests_right {P : Program} {w : World} {K : PySem.W.Frag} {mg : Str → Option Value} {base : Heap} (T : Tx K mg) : Okk P w K mg base 5 "_law_rests_right" ["pairs"] (sp__law_rests_right K) := by
  obtain ⟨fd_rests_answer, F_rests_answer, b_rests_answer, g_rests_answer, k_rests_answer⟩ := ok_rests_answer (P := P) (w := w) (base := base) T
  obtain ⟨fd__law_is_plain, F__law_is_plain, b__law_is_plain, g__law_is_plain, k__law_is_plain⟩ := ok__law_is_plain (P := P) (w := w) (base := base) T
  obtain ⟨fd__law_are_plain, F__law_are_plain, b__law_are_plain, g__law_are_plain, k__law_are_plain⟩ := ok__law_are_plain (P := P) (w := w) (base := base) T
  obtain ⟨fd__law_against, F__law_against, b__law_against, g__law_against, k__law_against⟩ := ok__law_against (P := P) (w := w) (base := base) T
  obtain ⟨fd__law_tried, F__law_tried, b__law_tried, g__law_tried, k__law_tried⟩ := ok__law_tried (P := P) (w := w) (base := base) T
  have hf_int := T.n_int
  have hf_len := T.n_len
  obtain ⟨fd, F⟩ := T.f__law_rests_right
  refine ⟨fd, F.ok sc__law_rests_right (fun vs H Q E h => len__law_rests_right h) (fun cdv A outer s H vs Q E hr h => ⟨t__law_rests_right K, PSs.nox ?_, pure__law_rests_right K vs H Q E h⟩), F.bindsN (fun _ _ _ _ _ _ us hl => match us, hl with | [_], _ => rfl), T.g__law_rests_right, F.kp⟩
  have hu64 := hu64_of hr
  exact (pss_cons (ps_asg (pe_call F_rests_answer (hr.mono (by decide)) rfl g_rests_answer k_rests_answer b_rests_answer .nil pass0 (pa_cons (pv 0) pa_nil)) (pg_tup rfl (pgs_cons (pg_name (i := 1) sc__law_rests_right.nd rfl (by first | exact Or.inl rfl | exact Or.inr rfl)) (pgs_cons (pg_name (i := 2) sc__law_rests_right.nd rfl (by first | exact Or.inl rfl | exact Or.inr rfl)) pgs_nil))))
      (pss_cons (ps_set (i := 3) sc__law_rests_right.nd rfl (by first | exact Or.inl rfl | exact Or.inr rfl) (pe_cmp (pc_isN (pe_call F__law_against (hr.mono (by decide)) rfl g__law_against k__law_against b__law_against .nil pass0 (pa_cons (pv 0) pa_nil)))))
      (pss_cons (ps_if (PW.pt (pw_or (pt_cmpR (op_neD hu64) (pv 1) (pe_tup (pa_cons (pe_ifExp (pt_val (pv 3)) pe_str pe_str) (pa_cons (pv 0) pa_nil))) (nomark _)) (pw_or1 (pt_cmpR op_notIn_seq (pe_call F__law_tried (hr.mono (by decide)) rfl g__law_tried k__law_tried b__law_tried .nil pass0 (pa_cons (pv 0) pa_nil)) (pe_tup (pa_cons pe_non (pa_cons (pv 3) pa_nil))) rfl)))) (pss_one (ps_ret pe_bl)) pss_nil)
      (pss_cons (ps_if (pt_val (pv 3)) (pss_one (ps_ret (pe_and (pe_call F__law_is_plain (hr.mono (by decide)) rfl g__law_is_plain k__law_is_plain b__law_is_plain .nil pass0 (pa_cons (pv 2) pa_nil)) (pe_one (pe_cmpR (op_eqD hu64) (pe_lc (own := [("modulus", 4), ("rest", 5)]) (g := (gTup K 2 (gCons (gName 4) (gCons (gName 5) gNil)))) (tt := (tTest (tOp rNe (tOp rModU (tCB (rInt1) (tCons (tOp rSub (tVar 2) (tVar 5)) tNil)) (tVar 4)) (tC (.int 0))))) rfl sc__law_rests_right.nd (pi_tup (pv 0)) (blkOk_by (own := [("modulus", 4), ("rest", 5)]) (N := ["pairs", "claim", "paper", "is_there", "modulus", "rest", "one", "other"]) (sc := defScope s__law_rests_right) (by decide +kernel)) (fun _ _ _ _ _ => (pg_tup rfl (pgs_cons (pg_name (i := 4) sc__law_rests_right.nd rfl (by first | exact Or.inl rfl | exact Or.inr rfl)) (pgs_cons (pg_name (i := 5) sc__law_rests_right.nd rfl (by first | exact Or.inl rfl | exact Or.inr rfl)) pgs_nil)))) (fun _ _ _ _ _ => (pts_one (pt_cmpR op_ne (pe_op op_mod (pe_callTy call_int1 (by rfl) hf_int (by decide +kernel) (pa_cons (pe_op op_sub (pv 2) (pv 5)) pa_nil)) (pv 4)) pe_int (nomark _)))) (fun _ _ _ _ _ => pe_int)) (pe_lst pa_nil) (nomark _)))))) pss_nil)
      (pss_cons (ps_if (PW.pt (pw_or (pt_not (pt_val (pe_call F__law_are_plain (hr.mono (by decide)) rfl g__law_are_plain k__law_are_plain b__law_are_plain .nil pass0 (pa_cons (pv 2) (pa_cons pe_int pa_nil))))) (pw_or (pt_not (pt_chain3 op_le op_lt op_lt pe_int (pe_ix ix_lt (pv 2) pe_int (fun _ _ => rfl)) (pe_ix ix_lt (pv 2) pe_int (fun _ _ => rfl)) (pe_callB call_len_seq (by rfl) hf_len (by decide +kernel) (pa_cons (pv 0) pa_nil)))) (pw_or1 (pt_cmpR op_lt (pe_ix ix_lt (pv 2) pe_int (fun _ _ => rfl)) pe_int (nomark _)))))) (pss_one (ps_ret pe_bl)) pss_nil)
      (pss_cons (ps_par (i := 6) (j := 7) rfl sc__law_rests_right.nd rfl rfl (by decide) rfl rfl (pa_cons (pe_ix ix_lt (pv 0) (pe_ix ix_lt (pv 2) pe_int (fun _ _ => rfl)) (fun _ _ => rfl)) (pa_cons (pe_ix ix_lt (pv 0) (pe_ix ix_lt (pv 2) pe_int (fun _ _ => rfl)) (fun _ _ => rfl)) pa_nil)) (by rfl))
      (pss_one (ps_ret (pe_and (pe_cmpR op_eq (pe_op op_mod (pe_callTy call_int1 (by rfl) hf_int (by decide +kernel) (pa_cons (pe_ix ix_lt (pv 6) pe_int (fun _ _ => rfl)) pa_nil)) (pe_ix ix_lt (pv 2) pe_int (fun _ _ => rfl))) pe_int (nomark _)) (pe_and (pe_cmpR op_eq (pe_op op_mod (pe_callTy call_int1 (by rfl) hf_int (by decide +kernel) (pa_cons (pe_ix ix_lt (pv 7) pe_int (fun _ _ => rfl)) pa_nil)) (pe_ix ix_lt (pv 2) pe_int (fun _ _ => rfl))) pe_int (nomark _)) (pe_one (pe_cmpR op_ne (pe_op op_mod (pe_callTy call_int1 (by rfl) hf_int (by decide +kernel) (pa_cons (pe_op op_sub (pe_ix ix_lt (pv 6) pe_int (fun _ _ => rfl)) (pe_ix ix_lt (pv 7) pe_int (fun _ _ => rfl))) pa_nil)) (pe_ix ix_lt (pv 2) pe_int (fun _ _ => rfl))) pe_int (nomark _)))))))))))))
/-! ### law -/
theorem sc_law : FnScope ["script", "spot", "dice", "turn", "one", "other", "many", "some", "pairs", "told"] ["script"] (defScope s_law) := ⟨rfl, rfl, rfl, by decide +kernel, rfl, by decide +kernel, by decide +kernel⟩
def sp_law (K : PySem.W.Frag) : Sp := fun vs H Q _ => ∃ (a : Addr) (ns : List Int), vs = [.ref a] ∧ SqL K H a (ns.map V.int) ∧ ns.length ≤ 63 ∧ ∀ H', Q (.bl true) H'
theorem len_law {K : PySem.W.Frag} {vs : List V} {H : Hp} {Q : VK} {E : XK} (h : sp_law K vs H Q E) : vs.length = ["script"].length := by
  obtain ⟨_, _, rfl, _⟩ := h
  rfl
def t_law_f1_b (K : PySem.W.Frag) : TS := (tSeq (tPar3 4 5 6 (tCons (tCall (sp__law_integer_drawn K) [] E0 (tCons (tVar 2) tNil)) (tCons (tCall (sp__law_integer_drawn K) [] E0 (tCons (tVar 2) tNil)) (tCons (tOp rAdd (tC (.int 1)) (tCall (sp__law_roll K) [] E0 (tCons (tVar 2) (tCons (tC (.int 60)) tNil)))) tNil))))
  (tSeq (tIfS (tOr (tNot (tB (tCall (sp__law_divisor_right K) [] E0 (tCons (tVar 2) (tCons (tVar 4) (tCons (tVar 5) tNil)))))) (tNot (tB (tCall (sp__law_rests_right K) [] E0 (tCons (tCall (sp__law_pairs_drawn K) [] E0 (tCons (tVar 2) tNil)) tNil))))) (tRet (tC (.bl false))) tNext)
  (tIfS (tNot (tB (tCall (sp__law_divisor_right K) [] E0 (tCons (tVar 2) (tCons (tOp rMulU (tOp rDivU (tVar 4) (tC (.int 100))) (tVar 6)) (tCons (tOp rMulU (tOp rDivU (tVar 5) (tC (.int 100))) (tVar 6)) tNil)))))) (tRet (tC (.bl false))) tNext)))
def t_law_f2_b (K : PySem.W.Frag) : TS := (tSeq (tAsg (tCall (sp__law_dice K) [] E0 (tCons (tVar 0) (tCons (tVar 1) tNil))) (gName 2))
  (tFor (iRng1 (tCons (tC (.int 4)) tNil)) (gName 3) (t_law_f1_b K)))
def t_law_f3_b (K : PySem.W.Frag) : TS := (tIfS (tNot (tB (tCall (sp__law_divisor_right K) [] E0 (tCons (tC .non) (tCons (tVar 4) (tCons (tVar 5) tNil)))))) (tRet (tC (.bl false))) tNext)
def t_law_k4_b (K : PySem.W.Frag) : TS := (tRet (tAndV (tOp (rEqD K) (tVar 9) (tLst (tCons (tC (.str "no rests")) (tCons (tC (.str "rests")) (tCons (tC (.str "rests")) (tCons (tC (.str "no rests")) (tCons (tC (.str "rests")) (tCons (tC (.str "no rests")) tNil)))))))) (tOp rEq (tOp (rIxA K) (tOp (rIxA K) (tCall (sp_divisor_answer K) [] E0 (tCons (tC (.int 12)) (tCons (tUn rNeg (tC (.int 18))) tNil))) (tC (.int 0))) (tC (.int 3))) (tC (.int 6)))))
def t_law_k5_b (K : PySem.W.Frag) : TS := (tSeq (tAsg (tLc (iList K (tVar 7)) (gName 8) tYes (tOp (rIxA K) (tOp (rIxA K) (tCall (sp_rests_answer K) [] E0 (tCons (tVar 8) tNil)) (tC (.int 0))) (tC (.int 0))) [8]) (gName 9))
  (t_law_k4_b K))
def t_law_k6_b (K : PySem.W.Frag) : TS := (tSeq (tIfS (tTest (tOp (rNeD K) (tLc (iList K (tVar 7)) (gName 8) (tNot (tB (tCall (sp__law_rests_right K) [] E0 (tCons (tVar 8) tNil)))) (tVar 8) [8]) (tLst tNil))) (tRet (tC (.bl false))) tNext)
  (t_law_k5_b K))
def t_law_k7_b (K : PySem.W.Frag) : TS := (tSeq (tAsg (tLst (tCons (tTup (tCons (tTup (tCons (tC (.int 4)) (tCons (tC (.int 1)) tNil))) (tCons (tTup (tCons (tC (.int 6)) (tCons (tC (.int 2)) tNil))) tNil))) (tCons (tTup (tCons (tTup (tCons (tC (.int 4)) (tCons (tC (.int 1)) tNil))) (tCons (tTup (tCons (tC (.int 6)) (tCons (tC (.int 3)) tNil))) tNil))) (tCons (tTup (tCons (tTup (tCons (tC (.int 1)) (tCons (tC (.int 5)) tNil))) tNil)) (tCons (tTup (tCons (tTup (tCons (tC (.int 2)) (tCons (tC (.int 0)) tNil))) (tCons (tTup (tCons (tC (.int 3)) (tCons (tC (.int 0)) tNil))) (tCons (tTup (tCons (tC (.int 4)) (tCons (tC (.int 1)) tNil))) tNil)))) (tCons (tTup (tCons (tTup (tCons (tC (.int 6)) (tCons (tC (.int 1)) tNil))) (tCons (tTup (tCons (tC (.int 10)) (tCons (tC (.int 1)) tNil))) (tCons (tTup (tCons (tC (.int 15)) (tCons (tC (.int 1)) tNil))) tNil)))) (tCons (tTup (tCons (tTup (tCons (tC (.int 6)) (tCons (tC (.int 1)) tNil))) (tCons (tTup (tCons (tC (.int 10)) (tCons (tC (.int 3)) tNil))) (tCons (tTup (tCons (tC (.int 15)) (tCons (tC (.int 2)) tNil))) tNil)))) tNil))))))) (gName 7))
  (t_law_k6_b K))
def t_law_k8_b (K : PySem.W.Frag) : TS := (tSeq (tFor (iTup K (tTup (tCons (tTup (tCons (tC (.int 0)) (tCons (tC (.int 0)) tNil))) (tCons (tTup (tCons (tC (.int 0)) (tCons (tUn rNeg (tC (.int 7))) tNil))) (tCons (tTup (tCons (tC (.int 12)) (tCons (tUn rNeg (tC (.int 18))) tNil))) (tCons (tTup (tCons (tUn rNeg (tC (.int 1))) (tCons (tC (.int 0)) tNil))) (tCons (tTup (tCons (tC (.int 5)) (tCons (tC (.int 5)) tNil))) (tCons (tTup (tCons (tOp rPowU (tC (.int 10)) (tC (.int 59))) (tCons (tUn rNeg (tOp rPowU (tC (.int 10)) (tC (.int 58)))) tNil))) tNil)))))))) (gTup K 2 (gCons (gName 4) (gCons (gName 5) gNil))) (t_law_f3_b K))
  (t_law_k7_b K))
def t_law (K : PySem.W.Frag) : TS := (tSeq (tFor (iRng1 (tCons (tCB (rMax2) (tCons (tC (.int 1)) (tCons (tCB (rMin2) (tCons (tC (.int 3)) (tCons (tCB (rLenU K) (tCons (tVar 0) tNil)) tNil))) tNil))) tNil)) (gName 1) (t_law_f2_b K))
  (t_law_k8_b K))
theorem keep_new {H : Hp} {b p : Addr} {u o : HO} (h : H b = some u) (hn : H p = none) : upd H p o b = some u := by
  rw [upd_ne (ne_of_none h hn)]; exact h
local macro_rules | `(tactic| walk_at "at") => `(tactic| (repeat (first | exact upd_same | refine keep_new ?_ (by assumption))))
/-- the six rows of pairs told at the end of the law -/
def someP : List (List (Int × Int)) := [[(4, 1), (6, 2)], [(4, 1), (6, 3)], [(1, 5)], [(2, 0), (3, 0), (4, 1)], [(6, 1), (10, 1), (15, 1)], [(6, 1), (10, 3), (15, 2)]]
def ncB (ps : List (Int × Int)) : Bool := (List.range ps.length).all fun j => (List.range j).all fun i => match ps[i]?, ps[j]? with
  | some p, some q => decide (gI p.1 q.1 ∣ p.2 - q.2)
  | _, _ => true
theorem ncB_iff (ps : List (Int × Int)) : ncB ps = true ↔ NoClash ps := by
  unfold ncB
  rw [List.all_eq_true]
  constructor
  · intro h i j p q hi hj hij
    have h1 := h j (List.mem_range.mpr (List.getElem?_eq_some_iff.mp hj).1)
    rw [List.all_eq_true] at h1
    have h2 := h1 i (List.mem_range.mpr hij)
    rw [hi, hj] at h2
    exact of_decide_eq_true h2
  · intro h j hj
    rw [List.all_eq_true]
    intro i hi
    have hij := List.mem_range.mp hi
    have hjl := List.mem_range.mp hj
    rw [List.getElem?_eq_getElem hjl, List.getElem?_eq_getElem (show i < ps.length by omega)]
    exact decide_eq_true (h i j _ _ (List.getElem?_eq_getElem (show i < ps.length by omega)) (List.getElem?_eq_getElem hjl) hij)
def tagV (ps : List (Int × Int)) : V := .str (if ncB ps then rsS else nrS)
def SomeOk (H : Hp) (vs : List V) : Prop := Paired (fun v ps => ∃ T xs, v = V.ref T ∧ H T = some (.tup xs) ∧ PQ H xs ps) vs someP
theorem SomeOk.same {H H' : Hp} {vs : List V} (h : SomeOk H vs) (s : Same H H') : SomeOk H' vs := paired_map h fun v ps ⟨T, xs, e, h1, h2⟩ => ⟨T, xs, e, s _ _ h1, h2.same s⟩
theorem paired_get {α β : Type} {F : α → β → Prop} : ∀ {xs : List α} {rs : List β}, Paired F xs rs → ∀ {i : Nat} {x : α}, xs[i]? = some x → ∃ r, rs[i]? = some r ∧ F x r
  | _, _, .nil, i, x, e => by simp at e
  | _, _, .cons (b := b) r t, 0, x, e => by
    simp at e
    subst e
    exact ⟨b, rfl, r⟩
  | _, _, .cons _ t, i + 1, x, e => by
    obtain ⟨r, h1, h2⟩ := paired_get t (i := i) (x := x) (by simpa using e)
    exact ⟨r, by simpa using h1, h2⟩
theorem some_ok : ∀ ps ∈ someP, PsOk ps := by
  intro ps h
  simp only [someP, List.mem_cons, List.not_mem_nil, or_false] at h
  have one : ∀ a b : Int, 1 ≤ a → a ≤ 15 → 0 ≤ b → b ≤ 5 → 1 ≤ a ∧ a < 10 ^ 60 ∧ S60 b := fun a b h1 h2 h3 h4 => ⟨h1, by omega, by omega, by omega⟩
  rcases h with rfl | rfl | rfl | rfl | rfl | rfl
  all_goals
    refine ⟨by decide, by decide, fun p hp => ?_⟩
    simp only [List.mem_cons, List.not_mem_nil, or_false] at hp
    rcases hp with rfl | hp
    · exact one _ _ (by decide) (by decide) (by decide) (by decide)
    try (rcases hp with rfl | hp; exact one _ _ (by decide) (by decide) (by decide) (by decide))
    try (rcases hp with rfl | hp; exact one _ _ (by decide) (by decide) (by decide) (by decide))
    try (subst hp; exact one _ _ (by decide) (by decide) (by decide) (by decide))
def tagD : List PyData := [.str nrS, .str rsS, .str rsS, .str nrS, .str rsS, .str nrS]
theorem tagD_ok : SeqAt.shaped (.list tagD) = true ∧ PyData.eqv (.list tagD) (.list tagD) = true := by
  constructor
  · simp [tagD, rsS, nrS, SeqAt.shaped, PyData.canLay0, PyData.canLayAll0, PyData.depth, PyData.depthAll, strOk_of]
  · simp [tagD, PyData.eqv, PyData.eqvAll]
theorem tags : someP.map tagV = [.str nrS, .str rsS, .str rsS, .str nrS, .str rsS, .str nrS] := by
  have h : someP.map ncB = [false, true, true, false, true, false] := by decide +kernel
  have e : someP.map tagV = (someP.map ncB).map fun b => V.str (if b then rsS else nrS) := by rw [List.map_map]; rfl
  rw [e, h]
  rfl
theorem pairs6 {H : Hp} {xs : List V} {ps : List (Int × Int)} (hP : PQ H xs ps) {i : Nat} {x : V} (h : xs[i]? = some x) : ∃ q t, q ∈ ps ∧ x = V.ref t ∧ H t = some (.tup [.int q.1, .int q.2]) := by
  obtain ⟨q, t, h1, h2, h3⟩ := hP.get h
  exact ⟨q, t, List.mem_of_getElem? h1, h2, h3⟩
theorem pure_law (K : PySem.W.Frag) (vs : List V) (H : Hp) (Q : VK) (E : XK) (h : sp_law K vs H Q E) : t_law K { nx := fun _ H' => Q .non H', rt := Q } (start ["script", "spot", "dice", "turn", "one", "other", "many", "some", "pairs", "told"] vs) H := by
  obtain ⟨a, ns, rfl, hS, hl, hq⟩ := h
  have key4 : ∀ H' o1 o2 o3 o4 o5 o6 o7 L, H' L = some (.lst (someP.map tagV)) → t_law_k4_b K { nx := fun _ H' => Q V.non H', rt := Q } [some (.ref a), o1, o2, o3, o4, o5, o6, o7, none, some (.ref L)] H' := by
    intro H' o1 o2 o3 o4 o5 o6 o7 L hL
    rw [tags] at hL
    unfold t_law_k4_b
    walk_at "z"
    refine ⟨by decide, fun R hR => ?_⟩
    have sR := same_upd (o := .lst [.str nrS, .str rsS, .str rsS, .str nrS, .str rsS, .str nrS]) hR
    refine ⟨.list tagD, .list tagD, .lst (sqL_of (sR _ _ hL)) (.cons (.str _) (.cons (.str _) (.cons (.str _) (.cons (.str _) (.cons (.str _) (.cons (.str _) .nil)))))), .lst (sqL_of upd_same) (.cons (.str _) (.cons (.str _) (.cons (.str _) (.cons (.str _) (.cons (.str _) (.cons (.str _) .nil)))))), tagD_ok.1, tagD_ok.1, ?_⟩
    rw [tagD_ok.2]
    walk_at "z"
    refine ⟨12, -18, rfl, ⟨by decide, by decide⟩, ⟨by decide, by decide⟩, fun A C P u v c d H2 s2 hA hC hP _ _ _ _ _ _ _ => ?_⟩
    refine ixT (sqT_of hA) (v := .ref C) rfl ?_
    refine ixT (sqT_of hC) (v := .int (gI 12 (-18))) rfl ?_
    have e : gI 12 (-18) = 6 := by decide
    rw [e]
    walk_at "z"
    exact hq _
  have key5 : ∀ H' o1 o2 o3 o4 o5 o6 F vs, H' F = some (.lst vs) → SomeOk H' vs → t_law_k5_b K { nx := fun _ H' => Q V.non H', rt := Q } [some (.ref a), o1, o2, o3, o4, o5, o6, some (.ref F), none, none] H' := by
    intro H' o1 o2 o3 o4 o5 o6 F vs hF hO
    have hvl : vs.length = someP.length := Paired.length hO
    unfold t_law_k5_b
    walk_at "z"
    refine ⟨F, rfl, ⟨_, sqL_of hF⟩, comp_L (sqL_of hF) (fun i => (someP[i]?).map tagV) (by rw [hvl]; decide) (fun i x H2 hx s2 Qo hQo => ?_) (fun L H2 s2 hL => ?_)⟩
    · obtain ⟨ps, e1, T, xs, rfl, hT, hP⟩ := paired_get (hO.same s2) hx
      have hok := some_ok ps (List.mem_of_getElem? e1)
      walk_at "z"
      refine ⟨T, xs, ps, rfl, hT, hP, hok, fun hn A C y H3 s3 hA hC _ _ => ?_, fun i j p q A C P H3 hi hj hij hc s3 hA hC _ => ?_⟩
      · refine ixT (sqT_of hA) (v := .ref C) rfl ?_
        refine ixT (sqT_of hC) (v := .str rsS) rfl ?_
        have := hQo _ s3
        rw [e1] at this
        have e2 : tagV ps = .str rsS := by unfold tagV; rw [(ncB_iff ps).mpr hn]; rfl
        simpa [e2] using this
      · refine ixT (sqT_of hA) (v := .ref C) rfl ?_
        refine ixT (sqT_of hC) (v := .str nrS) rfl ?_
        have := hQo _ s3
        rw [e1] at this
        have e3 : ncB ps = false := Bool.eq_false_iff.mpr fun c => hc ((ncB_iff ps).mp c i j p q hi hj hij)
        have e2 : tagV ps = .str nrS := by unfold tagV; rw [e3]; rfl
        simpa [e2] using this
    · rw [hvl, outL_get someP tagV rfl] at hL
      exact key4 _ _ _ _ _ _ _ _ _ hL
  have key6 : ∀ H' o1 o2 o3 o4 o5 o6 F vs, H' F = some (.lst vs) → SomeOk H' vs → t_law_k6_b K { nx := fun _ H' => Q V.non H', rt := Q } [some (.ref a), o1, o2, o3, o4, o5, o6, some (.ref F), none, none] H' := by
    intro H' o1 o2 o3 o4 o5 o6 F vs hF hO
    have hvl : vs.length = someP.length := Paired.length hO
    unfold t_law_k6_b
    walk_at "z"
    refine ⟨F, rfl, ⟨_, sqL_of hF⟩, comp_L (sqL_of hF) (fun _ => none) (by rw [hvl]; decide) (fun i x H2 hx s2 Qo hQo => ?_) (fun L H2 s2 hL => ?_)⟩
    · obtain ⟨ps, e1, T, xs, rfl, hT, hP⟩ := paired_get (hO.same s2) hx
      have hok := some_ok ps (List.mem_of_getElem? e1)
      walk_at "z"
      refine ⟨T, xs, ps, rfl, hT, hP, hok, fun H3 s3 => ?_⟩
      walk_at "z"
      exact hQo _ s3
    · have e0 : outL (fun _ => none) vs.length = [] := by simp [outL]
      rw [e0] at hL
      refine ⟨by decide, fun R hR => ?_⟩
      have sR := same_upd (o := .lst []) hR
      refine ⟨.list [], .list [], .lst (sqL_of (sR _ _ hL)) .nil, .lst (sqL_of upd_same) .nil, rfl, rfl, ?_⟩
      show (∃ k, V.bl false = V.bl k ∧ _)
      walk_at "z"
      exact key5 _ _ _ _ _ _ _ _ _ (sR _ _ (s2 _ _ hF)) (hO.same (s2.trans sR))
  have key7 : ∀ H' o1 o2 o3 o4 o5 o6, t_law_k7_b K { nx := fun _ H' => Q V.non H', rt := Q } [some (.ref a), o1, o2, o3, o4, o5, o6, none, none, none] H' := by
    intro H' o1 o2 o3 o4 o5 o6
    unfold t_law_k7_b
    walk_at "z"
    refine ⟨by decide, fun a0 g0 => ⟨by decide, fun a1 g1 => ⟨by decide, fun a2 g2 => ⟨by decide, fun a3 g3 => ⟨by decide, fun a4 g4 => ⟨by decide, fun a5 g5 => ⟨by decide, fun a6 g6 => ⟨by decide, fun a7 g7 => ⟨by decide, fun a8 g8 => ⟨by decide, fun a9 g9 => ⟨by decide, fun a10 g10 => ?_⟩⟩⟩⟩⟩⟩⟩⟩⟩⟩⟩
    refine ⟨by decide, fun a11 g11 => ⟨by decide, fun a12 g12 => ⟨by decide, fun a13 g13 => ⟨by decide, fun a14 g14 => ⟨by decide, fun a15 g15 => ⟨by decide, fun a16 g16 => ⟨by decide, fun a17 g17 => ⟨by decide, fun a18 g18 => ⟨by decide, fun a19 g19 => ⟨by decide, fun a20 g20 => ?_⟩⟩⟩⟩⟩⟩⟩⟩⟩⟩
    refine key6 _ _ _ _ _ _ _ a20 _ upd_same ?_
    refine .cons ⟨a2, _, rfl, by walk_at "at", .cons ⟨a0, rfl, by walk_at "at"⟩ (.cons ⟨a1, rfl, by walk_at "at"⟩ .nil)⟩ (.cons ⟨a5, _, rfl, by walk_at "at", .cons ⟨a3, rfl, by walk_at "at"⟩ (.cons ⟨a4, rfl, by walk_at "at"⟩ .nil)⟩ (.cons ⟨a7, _, rfl, by walk_at "at", .cons ⟨a6, rfl, by walk_at "at"⟩ .nil⟩ (.cons ⟨a11, _, rfl, by walk_at "at", .cons ⟨a8, rfl, by walk_at "at"⟩ (.cons ⟨a9, rfl, by walk_at "at"⟩ (.cons ⟨a10, rfl, by walk_at "at"⟩ .nil))⟩ (.cons ⟨a15, _, rfl, by walk_at "at", .cons ⟨a12, rfl, by walk_at "at"⟩ (.cons ⟨a13, rfl, by walk_at "at"⟩ (.cons ⟨a14, rfl, by walk_at "at"⟩ .nil))⟩ (.cons ⟨a19, _, rfl, by walk_at "at", .cons ⟨a16, rfl, by walk_at "at"⟩ (.cons ⟨a17, rfl, by walk_at "at"⟩ (.cons ⟨a18, rfl, by walk_at "at"⟩ .nil))⟩ .nil)))))
  have key8 : ∀ H' o1 o2 o3 o4 o5 o6, t_law_k8_b K { nx := fun _ H' => Q V.non H', rt := Q } [some (.ref a), o1, o2, o3, o4, o5, o6, none, none, none] H' := by
    intro H' o1 o2 o3 o4 o5 o6
    unfold t_law_k8_b
    walk_at "z"
    refine ⟨by decide, fun a0 g0 => ⟨by decide, fun a1 g1 => ⟨by decide, fun a2 g2 => ⟨by decide, fun a3 g3 => ⟨by decide, fun a4 g4 => ⟨cpow (by decide), cpow (by decide), by decide, fun a5 g5 => ⟨by decide, fun a6 g6 => ?_⟩⟩⟩⟩⟩⟩⟩
    have e59 : (10 : Int) ^ (59 : Int).toNat = 10 ^ 59 := rfl
    have e58 : (10 : Int) ^ (58 : Int).toNat = 10 ^ 58 := rfl
    rw [e59, e58] at *
    have hP : PQ (upd (upd (upd (upd (upd (upd (upd H' a0 (.tup [.int 0, .int 0])) a1 (.tup [.int 0, .int (-7)])) a2 (.tup [.int 12, .int (-18)])) a3 (.tup [.int (-1), .int 0])) a4 (.tup [.int 5, .int 5])) a5 (.tup [.int (10 ^ 59), .int (-10 ^ 58)])) a6 (.tup [.ref a0, .ref a1, .ref a2, .ref a3, .ref a4, .ref a5])) [.ref a0, .ref a1, .ref a2, .ref a3, .ref a4, .ref a5] [(0, 0), (0, -7), (12, -18), (-1, 0), (5, 5), (10 ^ 59, -10 ^ 58)] :=
      .cons ⟨a0, rfl, by walk_at "at"⟩ (.cons ⟨a1, rfl, by walk_at "at"⟩ (.cons ⟨a2, rfl, by walk_at "at"⟩ (.cons ⟨a3, rfl, by walk_at "at"⟩ (.cons ⟨a4, rfl, by walk_at "at"⟩ (.cons ⟨a5, rfl, by walk_at "at"⟩ .nil)))))
    have hT : upd (upd (upd (upd (upd (upd (upd H' a0 (.tup [.int 0, .int 0])) a1 (.tup [.int 0, .int (-7)])) a2 (.tup [.int 12, .int (-18)])) a3 (.tup [.int (-1), .int 0])) a4 (.tup [.int 5, .int 5])) a5 (.tup [.int (10 ^ 59), .int (-10 ^ 58)])) a6 (.tup [.ref a0, .ref a1, .ref a2, .ref a3, .ref a4, .ref a5]) a6 = some (.tup [.ref a0, .ref a1, .ref a2, .ref a3, .ref a4, .ref a5]) := upd_same
    revert hP hT
    generalize upd (upd (upd (upd (upd (upd (upd H' a0 (.tup [.int 0, .int 0])) a1 (.tup [.int 0, .int (-7)])) a2 (.tup [.int 12, .int (-18)])) a3 (.tup [.int (-1), .int 0])) a4 (.tup [.int 5, .int 5])) a5 (.tup [.int (10 ^ 59), .int (-10 ^ 58)])) a6 (.tup [.ref a0, .ref a1, .ref a2, .ref a3, .ref a4, .ref a5]) = Hf
    intro hP hT
    refine ⟨a6, rfl, ⟨_, sqT_of hT⟩, for_T (xs := [.ref a0, .ref a1, .ref a2, .ref a3, .ref a4, .ref a5]) (fun i σ H2 => ∃ o4 o5, σ = [some (.ref a), o1, o2, o3, o4, o5, o6, none, none, none] ∧ Same Hf H2) ⟨o4, o5, rfl, Same.refl _⟩ (fun i σ H2 _ h => by obtain ⟨_, _, _, s⟩ := h; exact sqT_of (s _ _ hT)) (fun i x σ H2 hx h N hN => ?_) (fun σ H2 h => ?_)⟩
    · obtain ⟨o4', o5', rfl, s2⟩ := h
      obtain ⟨q, t, hq6, rfl, h3⟩ := pairs6 hP hx
      have hs : S60 q.1 ∧ S60 q.2 := by
        simp only [List.mem_cons, List.not_mem_nil, or_false] at hq6
        rcases hq6 with rfl | rfl | rfl | rfl | rfl | rfl <;> exact ⟨⟨by omega, by omega⟩, by omega, by omega⟩
      unfold t_law_f3_b
      walk_at "z"
      refine ⟨_, sqT_of (s2 _ _ h3), rfl, ?_⟩
      walk_at "z"
      refine ⟨.non, q.1, q.2, rfl, hs.1, hs.2, fun H3 s3 => ?_⟩
      walk_at "z"
      exact hN _ _ ⟨_, _, rfl, s2.trans s3⟩
    · obtain ⟨o4', o5', rfl, s2⟩ := h
      exact key7 _ _ _ _ _ _ _
  unfold t_law
  walk_at "z"
  refine lenL hS ?_
  walk_at "z"
  have hb : ∃ n : Nat, (if (if ((ns.map V.int).length : Int) < 3 then ((ns.map V.int).length : Int) else 3) > 1 then (if ((ns.map V.int).length : Int) < 3 then ((ns.map V.int).length : Int) else 3) else 1) = (n : Int) ∧ n ≤ 3 := by
    rw [List.length_map]
    refine ⟨(if (if (ns.length : Int) < 3 then (ns.length : Int) else 3) > 1 then (if (ns.length : Int) < 3 then (ns.length : Int) else 3) else 1).toNat, ?_, ?_⟩
    · split <;> split <;> omega
    · split <;> split <;> omega
  obtain ⟨n, hn, hn3⟩ := hb
  rw [hn]
  refine ⟨_, rfl, by omega, by omega, for_R (fun i σ H' => ∃ o1 o2 o3 o4 o5 o6, σ = [some (.ref a), o1, o2, o3, o4, o5, o6, none, none, none] ∧ Same H H') ⟨_, _, _, _, _, _, rfl, Same.refl H⟩ (fun i σ H' hi h N hN => ?_) (fun σ H' h => ?_)⟩
  · obtain ⟨o1, o2, o3, o4, o5, o6, rfl, s1⟩ := h
    unfold t_law_f2_b
    walk_at "z"
    refine ⟨a, ns, i, by rw [Int.zero_add], s1.seq hS, fun D H2 hD s2 d2 => ?_⟩
    walk_at "z"
    refine ⟨_, rfl, by decide, by decide, for_R (fun i' σ H' => ∃ o3 o4 o5 o6, σ = [some (.ref a), some (.int (0 + (i : Int))), some (.ref D), o3, o4, o5, o6, none, none, none] ∧ Keep D H2 H' ∧ Dice H' D) ⟨_, _, _, _, rfl, Keep.refl D H2, d2⟩ (fun j σ H3 hj h N2 hN2 => ?_) (fun σ H3 h => ?_)⟩
    · obtain ⟨o3, o4, o5, o6, rfl, k3, d3⟩ := h
      unfold t_law_f1_b
      walk_at "z"
      refine ⟨D, rfl, d3, fun n1 H4 sn1 k4 d4 => ?_⟩
      refine ⟨D, rfl, d4, fun n2 H5 sn2 k5 d5 => ?_⟩
      refine ⟨D, 60, rfl, d5, by decide, by decide, fun r H6 r0 r1 k6 d6 => ?_⟩
      walk_at "z"
      refine ⟨.ref D, n1, n2, rfl, sn1, sn2, fun H7 s7 => ?_⟩
      walk_at "z"
      have d7 := d6.same s7
      refine ⟨D, rfl, d7, fun T xs ps H8 k8 d8 _ hT hP hok => ?_⟩
      walk_at "z"
      refine ⟨T, xs, ps, rfl, hT, hP, hok, fun H9 s9 => ?_⟩
      walk_at "z"
      have small : ∀ z : Int, S60 z → S60 (z / 100 * (1 + r)) := fun z hz => by
        have h1 := hz.1
        have h2 := hz.2
        have h3 : -(10 ^ 58) ≤ z / 100 := by omega
        have h4 : z / 100 < 10 ^ 58 := by omega
        have h5 : z / 100 * (1 + r) ≤ 10 ^ 58 * 60 := by
          by_cases c : 0 ≤ z / 100
          · exact Int.mul_le_mul (by omega) (by omega) (by omega) (by decide)
          · have : z / 100 * (1 + r) ≤ 0 := Int.mul_nonpos_of_nonpos_of_nonneg (by omega) (by omega)
            omega
        have h6 : -(10 ^ 58 * 60) ≤ z / 100 * (1 + r) := by
          by_cases c : 0 ≤ z / 100
          · have : 0 ≤ z / 100 * (1 + r) := Int.mul_nonneg c (by omega)
            omega
          · have h7 : -(z / 100) * (1 + r) ≤ 10 ^ 58 * 60 := Int.mul_le_mul (by omega) (by omega) (by omega) (by decide)
            rw [Int.neg_mul] at h7
            omega
        exact ⟨by omega, by omega⟩
      refine ⟨divS (by decide) (by decide), mulR (by omega), divS (by decide) (by decide), mulR (by omega), ?_⟩
      refine ⟨.ref D, _, _, rfl, small n1 sn1, small n2 sn2, fun H10 s10 => ?_⟩
      walk_at "z"
      exact hN2 _ _ ⟨_, _, _, _, rfl, ((((k3.trans k4).trans (k5.trans k6)).same s7).trans k8).same (s9.trans s10), d8.same (s9.trans s10)⟩
    · obtain ⟨o3, o4, o5, o6, rfl, k3, d3⟩ := h
      exact hN _ _ ⟨_, _, _, _, _, _, rfl, s1.trans (k3.out s2 hD)⟩
  · obtain ⟨o1, o2, o3, o4, o5, o6, rfl, s1⟩ := h
    exact key8 _ _ _ _ _ _ _

theorem okF_law {P : Program} {w : World} {K : PySem.W.Frag} {mg : Str → Option Value} {base : Heap} {fd : FuncData} (T : Tx K mg) (F : FunD K "law" "law" (defArgs s_law) (defBody s_law) (defScope s_law) [] [] (He.ga K "law") fd) : FnOk P w K mg base CX0 6 (He.ga K "law") fd ["script"] (sp_law K) := by
  obtain ⟨fd_divisor_answer, F_divisor_answer, b_divisor_answer, g_divisor_answer, k_divisor_answer⟩ := ok_divisor_answer (P := P) (w := w) (base := base) T
  obtain ⟨fd_rests_answer, F_rests_answer, b_rests_answer, g_rests_answer, k_rests_answer⟩ := ok_rests_answer (P := P) (w := w) (base := base) T
  obtain ⟨fd__law_dice, F__law_dice, b__law_dice, g__law_dice, k__law_dice⟩ := ok__law_dice (P := P) (w := w) (base := base) T
  obtain ⟨fd__law_roll, F__law_roll, b__law_roll, g__law_roll, k__law_roll⟩ := ok__law_roll (P := P) (w := w) (base := base) T
  obtain ⟨fd__law_integer_drawn, F__law_integer_drawn, b__law_integer_drawn, g__law_integer_drawn, k__law_integer_drawn⟩ := ok__law_integer_drawn (P := P) (w := w) (base := base) T
  obtain ⟨fd__law_divisor_right, F__law_divisor_right, b__law_divisor_right, g__law_divisor_right, k__law_divisor_right⟩ := ok__law_divisor_right (P := P) (w := w) (base := base) T
  obtain ⟨fd__law_pairs_drawn, F__law_pairs_drawn, b__law_pairs_drawn, g__law_pairs_drawn, k__law_pairs_drawn⟩ := ok__law_pairs_drawn (P := P) (w := w) (base := base) T
  obtain ⟨fd__law_rests_right, F__law_rests_right, b__law_rests_right, g__law_rests_right, k__law_rests_right⟩ := ok__law_rests_right (P := P) (w := w) (base := base) T
  have hf_len := T.n_len
  have hf_max := T.n_max
  have hf_min := T.n_min
  have hf_range := T.n_range
  refine F.ok sc_law (fun vs H Q E h => len_law h) (fun cdv A outer s H vs Q E hr h => ⟨t_law K, PSs.nox ?_, pure_law K vs H Q E h⟩)
  have hu64 := hu64_of hr
  exact (pss_cons (ps_for PassesOwn.never rfl (pi_range1 rfl hf_range (pa_cons (pe_callB (call_max2 rfl) (by rfl) hf_max (by decide +kernel) (pa_cons pe_int (pa_cons (pe_callB (call_min2 rfl) (by rfl) hf_min (by decide +kernel) (pa_cons pe_int (pa_cons (pe_callB call_len_seq (by rfl) hf_len (by decide +kernel) (pa_cons (pv 0) pa_nil)) pa_nil))) pa_nil))) pa_nil)) (pg_name (i := 1) sc_law.nd rfl (by first | exact Or.inl rfl | exact Or.inr rfl)) (pss_cons (ps_set (i := 2) sc_law.nd rfl (by first | exact Or.inl rfl | exact Or.inr rfl) (pe_call F__law_dice (hr.mono (by decide)) rfl g__law_dice k__law_dice b__law_dice .nil pass0 (pa_cons (pv 0) (pa_cons (pv 1) pa_nil))))
      (pss_one (ps_for PassesOwn.never rfl (pi_range1 rfl hf_range (pa_cons pe_int pa_nil)) (pg_name (i := 3) sc_law.nd rfl (by first | exact Or.inl rfl | exact Or.inr rfl)) (pss_cons (ps_par3 (i := 4) (j := 5) (l := 6) rfl sc_law.nd rfl rfl rfl (by decide) (by decide) (by decide) rfl rfl rfl (pa_cons (pe_call F__law_integer_drawn (hr.mono (by decide)) rfl g__law_integer_drawn k__law_integer_drawn b__law_integer_drawn .nil pass0 (pa_cons (pv 2) pa_nil)) (pa_cons (pe_call F__law_integer_drawn (hr.mono (by decide)) rfl g__law_integer_drawn k__law_integer_drawn b__law_integer_drawn .nil pass0 (pa_cons (pv 2) pa_nil)) (pa_cons (pe_op op_add pe_int (pe_call F__law_roll (hr.mono (by decide)) rfl g__law_roll k__law_roll b__law_roll .nil pass0 (pa_cons (pv 2) (pa_cons pe_int pa_nil)))) pa_nil))) (by rfl))
      (pss_cons (ps_if (PW.pt (pw_or (pt_not (pt_val (pe_call F__law_divisor_right (hr.mono (by decide)) rfl g__law_divisor_right k__law_divisor_right b__law_divisor_right .nil pass0 (pa_cons (pv 2) (pa_cons (pv 4) (pa_cons (pv 5) pa_nil)))))) (pw_or1 (pt_not (pt_val (pe_call F__law_rests_right (hr.mono (by decide)) rfl g__law_rests_right k__law_rests_right b__law_rests_right .nil pass0 (pa_cons (pe_call F__law_pairs_drawn (hr.mono (by decide)) rfl g__law_pairs_drawn k__law_pairs_drawn b__law_pairs_drawn .nil pass0 (pa_cons (pv 2) pa_nil)) pa_nil))))))) (pss_one (ps_ret pe_bl)) pss_nil)
      (pss_one (ps_if (pt_not (pt_val (pe_call F__law_divisor_right (hr.mono (by decide)) rfl g__law_divisor_right k__law_divisor_right b__law_divisor_right .nil pass0 (pa_cons (pv 2) (pa_cons (pe_op op_mulU (pe_op op_fdivW (pv 4) pe_int) (pv 6)) (pa_cons (pe_op op_mulU (pe_op op_fdivW (pv 5) pe_int) (pv 6)) pa_nil)))))) (pss_one (ps_ret pe_bl)) pss_nil))))))))
      (pss_cons (ps_for PassesOwn.never rfl (pi_tup (pe_tup (pa_cons (pe_tup (pa_cons pe_int (pa_cons pe_int pa_nil))) (pa_cons (pe_tup (pa_cons pe_int (pa_cons (pe_un un_neg pe_int) pa_nil))) (pa_cons (pe_tup (pa_cons pe_int (pa_cons (pe_un un_neg pe_int) pa_nil))) (pa_cons (pe_tup (pa_cons (pe_un un_neg pe_int) (pa_cons pe_int pa_nil))) (pa_cons (pe_tup (pa_cons pe_int (pa_cons pe_int pa_nil))) (pa_cons (pe_tup (pa_cons (pe_op op_pow pe_int pe_int) (pa_cons (pe_un un_neg (pe_op op_pow pe_int pe_int)) pa_nil))) pa_nil)))))))) (pg_tup rfl (pgs_cons (pg_name (i := 4) sc_law.nd rfl (by first | exact Or.inl rfl | exact Or.inr rfl)) (pgs_cons (pg_name (i := 5) sc_law.nd rfl (by first | exact Or.inl rfl | exact Or.inr rfl)) pgs_nil))) (pss_one (ps_if (pt_not (pt_val (pe_call F__law_divisor_right (hr.mono (by decide)) rfl g__law_divisor_right k__law_divisor_right b__law_divisor_right .nil pass0 (pa_cons pe_non (pa_cons (pv 4) (pa_cons (pv 5) pa_nil)))))) (pss_one (ps_ret pe_bl)) pss_nil)))
      (pss_cons (ps_set (i := 7) sc_law.nd rfl (by first | exact Or.inl rfl | exact Or.inr rfl) (pe_lst (pa_cons (pe_tup (pa_cons (pe_tup (pa_cons pe_int (pa_cons pe_int pa_nil))) (pa_cons (pe_tup (pa_cons pe_int (pa_cons pe_int pa_nil))) pa_nil))) (pa_cons (pe_tup (pa_cons (pe_tup (pa_cons pe_int (pa_cons pe_int pa_nil))) (pa_cons (pe_tup (pa_cons pe_int (pa_cons pe_int pa_nil))) pa_nil))) (pa_cons (pe_tup (pa_cons (pe_tup (pa_cons pe_int (pa_cons pe_int pa_nil))) pa_nil)) (pa_cons (pe_tup (pa_cons (pe_tup (pa_cons pe_int (pa_cons pe_int pa_nil))) (pa_cons (pe_tup (pa_cons pe_int (pa_cons pe_int pa_nil))) (pa_cons (pe_tup (pa_cons pe_int (pa_cons pe_int pa_nil))) pa_nil)))) (pa_cons (pe_tup (pa_cons (pe_tup (pa_cons pe_int (pa_cons pe_int pa_nil))) (pa_cons (pe_tup (pa_cons pe_int (pa_cons pe_int pa_nil))) (pa_cons (pe_tup (pa_cons pe_int (pa_cons pe_int pa_nil))) pa_nil)))) (pa_cons (pe_tup (pa_cons (pe_tup (pa_cons pe_int (pa_cons pe_int pa_nil))) (pa_cons (pe_tup (pa_cons pe_int (pa_cons pe_int pa_nil))) (pa_cons (pe_tup (pa_cons pe_int (pa_cons pe_int pa_nil))) pa_nil)))) pa_nil))))))))
      (pss_cons (ps_if (pt_cmpR (op_neD hu64) (pe_lc (own := [("pairs", 8)]) (g := (gName 8)) (tt := (tNot (tB (tCall (sp__law_rests_right K) [] E0 (tCons (tVar 8) tNil))))) rfl sc_law.nd (pi_list (pv 7)) (blkOk_by (own := [("pairs", 8)]) (N := ["script", "spot", "dice", "turn", "one", "other", "many", "some", "pairs", "told"]) (sc := defScope s_law) (by decide +kernel)) (fun _ _ _ _ _ => (pg_name (i := 8) sc_law.nd rfl (by first | exact Or.inl rfl | exact Or.inr rfl))) (fun _ _ _ _ _ => (pts_one (pt_not (pt_val (pe_call F__law_rests_right (hr.mono (by decide)) rfl g__law_rests_right k__law_rests_right b__law_rests_right .nil pass0 (pa_cons (pv 8) pa_nil)))))) (fun _ _ _ _ _ => (pv 8))) (pe_lst pa_nil) (nomark _)) (pss_one (ps_ret pe_bl)) pss_nil)
      (pss_cons (ps_setLc (i := 9) (own := [("pairs", 8)]) (g := (gName 8)) (tt := tYes) rfl sc_law.nd rfl rfl (sw_true rfl rfl rfl (by decide +kernel)) (pi_list (pv 7)) (blkOk_by (own := [("pairs", 8)]) (N := ["script", "spot", "dice", "turn", "one", "other", "many", "some", "pairs", "told"]) (sc := defScope s_law) (by decide +kernel)) (fun _ _ _ _ _ => (pg_name (i := 8) sc_law.nd rfl (by first | exact Or.inl rfl | exact Or.inr rfl))) (fun _ _ _ _ _ => pts_nil) (fun _ _ _ _ _ => (pe_ix ix_lt (pe_ix ix_lt (pe_call F_rests_answer (hr.mono (by decide)) rfl g_rests_answer k_rests_answer b_rests_answer .nil pass0 (pa_cons (pv 8) pa_nil)) pe_int (fun _ _ => rfl)) pe_int (fun _ _ => rfl))))
      (pss_one (ps_ret (pe_and (pe_cmpR (op_eqD hu64) (pv 9) (pe_lst (pa_cons pe_str (pa_cons pe_str (pa_cons pe_str (pa_cons pe_str (pa_cons pe_str (pa_cons pe_str pa_nil))))))) (nomark _)) (pe_one (pe_cmpR op_eq (pe_ix ix_lt (pe_ix ix_lt (pe_call F_divisor_answer (hr.mono (by decide)) rfl g_divisor_answer k_divisor_answer b_divisor_answer .nil pass0 (pa_cons pe_int (pa_cons (pe_un un_neg pe_int) pa_nil))) pe_int (fun _ _ => rfl)) pe_int (fun _ _ => rfl)) pe_int (nomark _)))))))))))
/-! ### the head: facts by names, and what the imports bring -/
def bulOk (K : PySem.W.Frag) (bl : List (Str × String)) : Bool := bl.all fun q => decide (PySem.W.nsIn K mainGlobals q.1 = some (some (.builtin q.2)))
def obsB (bl : List (Str × String)) (fa : List He.Fa) (fn : List He.DefD) (K : PySem.W.Frag) : Bool × He.AlD := (bulOk K bl, He.obsD fa fn K)
def obsBG (n : Nat) (bl : List (Str × String)) (fa : List He.Fa) (fn : List He.DefD) (g : Addr → Option Obj) : Bool × He.AlD := obsB bl fa fn (He.frG g (He.asD g n))
def hookB (n : Nat) (bl : List (Str × String)) (fa : List He.Fa) (fn : List He.DefD) : PySem.W.Hook where
  α := Bool × He.AlD
  obs := fun s => obsBG n bl fa fn s.heap.get?
  val := fun _ => (true, He.valD fn)
  says := fun _ h => ∃ K : PySem.W.Frag, K.In h ∧ bulOk K bl = true ∧ He.SaysD fa fn K
  of := fun _ _ e => ⟨_, He.frG_in, congrArg (fun z : Bool × He.AlD => z.1) e, congrArg (fun z : Bool × He.AlD => z.2) e⟩
  keeps := fun _ _ _ ⟨K, hK, c⟩ k => ⟨K, PySem.W.Frag.In.keeps hK k, c⟩
theorem obsBG_eq {n : Nat} {bl : List (Str × String)} {fa : List He.Fa} {fn : List He.DefD} {g : Addr → Option Obj} {s : Shared} (h : ∀ a, g a = s.heap.get? a) : obsBG n bl fa fn g = (hookB n bl fa fn).obs s := by
  have e : g = s.heap.get? := funext h
  rw [e] <;> rfl
theorem bul_ok {K : PySem.W.Frag} {h : Heap} {mg : Str → Option Value} {bl : List (Str × String)} (X : K.In h) (G : h.Ns mainGlobals mg) (c : bulOk K bl = true) (i : Nat) {q : Str × String} (hi : bl[i]? = some q := by rfl) : mg q.1 = some (.builtin q.2) :=
  PySem.W.mg_of X G (of_decide_eq_true (List.all_eq_true.mp c q (List.mem_of_getElem? hi)))
def d_is_int : He.DefD := ⟨("is_int", none), "is_int", "is_int", defArgs s_is_int, defBody s_is_int, defScope s_is_int, [], []⟩
def d_bezout : He.DefD := ⟨("bezout", none), "bezout", "bezout", defArgs s_bezout, defBody s_bezout, defScope s_bezout, [], []⟩
def d_first_clash : He.DefD := ⟨("first_clash", none), "first_clash", "first_clash", defArgs s_first_clash, defBody s_first_clash, defScope s_first_clash, [], []⟩
def d_is_below : He.DefD := ⟨("is_below", none), "is_below", "is_below", defArgs s_is_below, defBody s_is_below, defScope s_is_below, [], []⟩
def d_joint_rest : He.DefD := ⟨("joint_rest", none), "joint_rest", "joint_rest", defArgs s_joint_rest, defBody s_joint_rest, defScope s_joint_rest, [], []⟩
def d_check_integer : He.DefD := ⟨("check_integer", none), "check_integer", "check_integer", defArgs s_check_integer, defBody s_check_integer, defScope s_check_integer, [], []⟩
def d_are_pairs : He.DefD := ⟨("are_pairs", none), "are_pairs", "are_pairs", defArgs s_are_pairs, defBody s_are_pairs, defScope s_are_pairs, [], []⟩
def d_divisor_answer : He.DefD := ⟨("divisor_answer", none), "divisor_answer", "divisor_answer", defArgs s_divisor_answer, defBody s_divisor_answer, defScope s_divisor_answer, [], []⟩
def d_rests_answer : He.DefD := ⟨("rests_answer", none), "rests_answer", "rests_answer", defArgs s_rests_answer, defBody s_rests_answer, defScope s_rests_answer, [], []⟩
def d__law_dice : He.DefD := ⟨("_law_dice", none), "_law_dice", "_law_dice", defArgs s__law_dice, defBody s__law_dice, defScope s__law_dice, [], []⟩
def d__law_roll : He.DefD := ⟨("_law_roll", none), "_law_roll", "_law_roll", defArgs s__law_roll, defBody s__law_roll, defScope s__law_roll, [], []⟩
def d__law_gcd : He.DefD := ⟨("_law_gcd", none), "_law_gcd", "_law_gcd", defArgs s__law_gcd, defBody s__law_gcd, defScope s__law_gcd, [], []⟩
def d__law_is_plain : He.DefD := ⟨("_law_is_plain", none), "_law_is_plain", "_law_is_plain", defArgs s__law_is_plain, defBody s__law_is_plain, defScope s__law_is_plain, [], []⟩
def d__law_pick : He.DefD := ⟨("_law_pick", none), "_law_pick", "_law_pick", defArgs s__law_pick, defBody s__law_pick, defScope s__law_pick, [], []⟩
def d__law_are_plain : He.DefD := ⟨("_law_are_plain", none), "_law_are_plain", "_law_are_plain", defArgs s__law_are_plain, defBody s__law_are_plain, defScope s__law_are_plain, [], []⟩
def d__law_against : He.DefD := ⟨("_law_against", none), "_law_against", "_law_against", defArgs s__law_against, defBody s__law_against, defScope s__law_against, [], []⟩
def d__law_tried : He.DefD := ⟨("_law_tried", none), "_law_tried", "_law_tried", defArgs s__law_tried, defBody s__law_tried, defScope s__law_tried, [], []⟩
def d__law_integer_drawn : He.DefD := ⟨("_law_integer_drawn", none), "_law_integer_drawn", "_law_integer_drawn", defArgs s__law_integer_drawn, defBody s__law_integer_drawn, defScope s__law_integer_drawn, [], []⟩
def d__law_pairs_drawn : He.DefD := ⟨("_law_pairs_drawn", none), "_law_pairs_drawn", "_law_pairs_drawn", defArgs s__law_pairs_drawn, defBody s__law_pairs_drawn, defScope s__law_pairs_drawn, [], []⟩
def d__law_divisor_right : He.DefD := ⟨("_law_divisor_right", none), "_law_divisor_right", "_law_divisor_right", defArgs s__law_divisor_right, defBody s__law_divisor_right, defScope s__law_divisor_right, [], []⟩
def d__law_rests_right : He.DefD := ⟨("_law_rests_right", none), "_law_rests_right", "_law_rests_right", defArgs s__law_rests_right, defBody s__law_rests_right, defScope s__law_rests_right, [], []⟩
def d_law : He.DefD := ⟨("law", none), "law", "law", defArgs s_law, defBody s_law, defScope s_law, [], []⟩
def fnl : List He.DefD := [d_is_int, d_bezout, d_first_clash, d_is_below, d_joint_rest, d_check_integer, d_are_pairs, d_divisor_answer, d_rests_answer, d__law_dice, d__law_roll, d__law_gcd, d__law_is_plain, d__law_pick, d__law_are_plain, d__law_against, d__law_tried, d__law_integer_drawn, d__law_pairs_drawn, d__law_divisor_right, d__law_rests_right, d_law]
def fal : List He.Fa := [.glo "is_int", .glo "bezout", .glo "first_clash", .glo "is_below", .glo "joint_rest", .glo "check_integer", .glo "are_pairs", .glo "divisor_answer", .glo "rests_answer", .glo "_law_dice", .glo "_law_roll", .glo "_law_gcd", .glo "_law_is_plain", .glo "_law_pick", .glo "_law_are_plain", .glo "_law_against", .glo "_law_tried", .glo "_law_integer_drawn", .glo "_law_pairs_drawn", .glo "_law_divisor_right", .glo "_law_rests_right", .glo "law", .int "SIXTY_DIGITS" 1000000000000000000000000000000000000000000000000000000000000, .int "MAX_RESTS" 6, .free "abs", .free "bool", .free "enumerate", .free "int", .free "isinstance", .free "len", .free "max", .free "min", .free "range", .free "tuple"]
def bul : List (Str × String) := [("gcd", "math.gcd")]
def loose0 : List PySem.Str := ["PaperError", "InvalidOperation", "InvalidNumber", "is_int", "is_below", "bezout", "SIXTY_DIGITS", "check_integer", "MAX_RESTS", "divisor_answer", "are_pairs", "first_clash", "joint_rest", "rests_answer", "_law_dice", "_law_roll", "_law_pick", "_law_gcd", "_law_is_plain", "_law_integer_drawn", "_law_are_plain", "_law_divisor_right", "_law_pairs_drawn", "_law_against", "_law_tried", "_law_rests_right"]
def looseL : List PySem.Str := loose0
abbrev RR : PySem.W.OpenRow := PySem.W.OpenLaw.row PySem.Challenge.rw_zeroorone_k01_whole_divisors_and_rests
abbrev hk : PySem.W.Hook := hookB 5 bul fal fnl
def obz (s : PySem.W.SharedT) : Bool × He.AlD := obsBG 5 bul fal fnl (HandSHeadRun.getT s)
theorem obz_eq (s : PySem.W.SharedT) : obz s = hk.obs s.abs := obsBG_eq (HandSHeadRun.getT_eq s)
theorem run (w : World) : HandSHeadRun.RunEqI RR (PySem.W.view RR.prog [0, 32]) hk obz 4000 looseL w := by
  unfold HandSHeadRun.RunEqI
  kernel_rfl
theorem tx_of {K : PySem.W.Frag} {h : Heap} {mg : Str → Option Value} (X : K.In h) (G : h.Ns mainGlobals mg) (b : bulOk K bul = true) (c : He.SaysD fal fnl K) : Tx K mg where
  f_is_int := c.def_ 0 (d := d_is_int) rfl
  g_is_int := He.glo_ok X G (c.fact 0 (f := .glo "is_int") rfl)
  f_bezout := c.def_ 1 (d := d_bezout) rfl
  g_bezout := He.glo_ok X G (c.fact 1 (f := .glo "bezout") rfl)
  f_first_clash := c.def_ 2 (d := d_first_clash) rfl
  g_first_clash := He.glo_ok X G (c.fact 2 (f := .glo "first_clash") rfl)
  f_is_below := c.def_ 3 (d := d_is_below) rfl
  g_is_below := He.glo_ok X G (c.fact 3 (f := .glo "is_below") rfl)
  f_joint_rest := c.def_ 4 (d := d_joint_rest) rfl
  g_joint_rest := He.glo_ok X G (c.fact 4 (f := .glo "joint_rest") rfl)
  f_check_integer := c.def_ 5 (d := d_check_integer) rfl
  g_check_integer := He.glo_ok X G (c.fact 5 (f := .glo "check_integer") rfl)
  f_are_pairs := c.def_ 6 (d := d_are_pairs) rfl
  g_are_pairs := He.glo_ok X G (c.fact 6 (f := .glo "are_pairs") rfl)
  f_divisor_answer := c.def_ 7 (d := d_divisor_answer) rfl
  g_divisor_answer := He.glo_ok X G (c.fact 7 (f := .glo "divisor_answer") rfl)
  f_rests_answer := c.def_ 8 (d := d_rests_answer) rfl
  g_rests_answer := He.glo_ok X G (c.fact 8 (f := .glo "rests_answer") rfl)
  f__law_dice := c.def_ 9 (d := d__law_dice) rfl
  g__law_dice := He.glo_ok X G (c.fact 9 (f := .glo "_law_dice") rfl)
  f__law_roll := c.def_ 10 (d := d__law_roll) rfl
  g__law_roll := He.glo_ok X G (c.fact 10 (f := .glo "_law_roll") rfl)
  f__law_gcd := c.def_ 11 (d := d__law_gcd) rfl
  g__law_gcd := He.glo_ok X G (c.fact 11 (f := .glo "_law_gcd") rfl)
  f__law_is_plain := c.def_ 12 (d := d__law_is_plain) rfl
  g__law_is_plain := He.glo_ok X G (c.fact 12 (f := .glo "_law_is_plain") rfl)
  f__law_pick := c.def_ 13 (d := d__law_pick) rfl
  g__law_pick := He.glo_ok X G (c.fact 13 (f := .glo "_law_pick") rfl)
  f__law_are_plain := c.def_ 14 (d := d__law_are_plain) rfl
  g__law_are_plain := He.glo_ok X G (c.fact 14 (f := .glo "_law_are_plain") rfl)
  f__law_against := c.def_ 15 (d := d__law_against) rfl
  g__law_against := He.glo_ok X G (c.fact 15 (f := .glo "_law_against") rfl)
  f__law_tried := c.def_ 16 (d := d__law_tried) rfl
  g__law_tried := He.glo_ok X G (c.fact 16 (f := .glo "_law_tried") rfl)
  f__law_integer_drawn := c.def_ 17 (d := d__law_integer_drawn) rfl
  g__law_integer_drawn := He.glo_ok X G (c.fact 17 (f := .glo "_law_integer_drawn") rfl)
  f__law_pairs_drawn := c.def_ 18 (d := d__law_pairs_drawn) rfl
  g__law_pairs_drawn := He.glo_ok X G (c.fact 18 (f := .glo "_law_pairs_drawn") rfl)
  f__law_divisor_right := c.def_ 19 (d := d__law_divisor_right) rfl
  g__law_divisor_right := He.glo_ok X G (c.fact 19 (f := .glo "_law_divisor_right") rfl)
  f__law_rests_right := c.def_ 20 (d := d__law_rests_right) rfl
  g__law_rests_right := He.glo_ok X G (c.fact 20 (f := .glo "_law_rests_right") rfl)
  f_law := c.def_ 21 (d := d_law) rfl
  g_law := He.glo_ok X G (c.fact 21 (f := .glo "law") rfl)
  c_SIXTY_DIGITS := He.int_ok X G (c.fact 22 (f := .int "SIXTY_DIGITS" 1000000000000000000000000000000000000000000000000000000000000) rfl)
  c_MAX_RESTS := He.int_ok X G (c.fact 23 (f := .int "MAX_RESTS" 6) rfl)
  n_abs := He.free_ok X G (c.fact 24 (f := .free "abs") rfl)
  n_bool := He.free_ok X G (c.fact 25 (f := .free "bool") rfl)
  n_enumerate := He.free_ok X G (c.fact 26 (f := .free "enumerate") rfl)
  n_int := He.free_ok X G (c.fact 27 (f := .free "int") rfl)
  n_isinstance := He.free_ok X G (c.fact 28 (f := .free "isinstance") rfl)
  n_len := He.free_ok X G (c.fact 29 (f := .free "len") rfl)
  n_max := He.free_ok X G (c.fact 30 (f := .free "max") rfl)
  n_min := He.free_ok X G (c.fact 31 (f := .free "min") rfl)
  n_range := He.free_ok X G (c.fact 32 (f := .free "range") rfl)
  n_tuple := He.free_ok X G (c.fact 33 (f := .free "tuple") rfl)
  b_gcd := bul_ok X G b 0
end L2.Z
open PySem PySem.W PySem.Calls PyProof.Rows
theorem PySem.Challenge.cw_zeroorone_k01_whole_divisors_and_rests_holds : PySem.Challenge.rw_zeroorone_k01_whole_divisors_and_rests.Holds := by
  w_on; o_law
  refine HandSHeadRun.head_imp (r := (OpenLaw.row PySem.Challenge.rw_zeroorone_k01_whole_divisors_and_rests)) (q := view (OpenLaw.row PySem.Challenge.rw_zeroorone_k01_whole_divisors_and_rests).prog [0, 32]) (H := L2.Z.hk) (ob := L2.Z.obz) (loose := L2.Z.looseL) (d := HandSHeadRun.topDef (OpenLaw.row PySem.Challenge.rw_zeroorone_k01_whole_divisors_and_rests).prog 32) (kwd := []) L2.Z.obz_eq
    L2.Z.run (by kernel_rfl) (by kernel_rfl) (by kernel_rfl) (by rfl) (by first | assumption | decide +kernel) (by decide +kernel) ⟨rfl, rfl, rfl, rfl, rfl, by decide +kernel⟩ ?hw ?hc
  case hw => w_witness2
  case hc =>
    refine L2.walk_ofE (l := PySem.Challenge.rw_zeroorone_k01_whole_divisors_and_rests) (n := 63) (k := 6) (x := "script") (CX := L2.CX0) rfl (by decide) (by kernel_rfl) ⟨rfl, by decide, by decide⟩ ?F (fun _ _ _ _ z => z)
    intro w mg fa h Y G hmg0
    obtain ⟨K, KX, bb, cc⟩ := Y
    have T := L2.Z.tx_of KX G bb cc
    have hmg : mg ("law" : PySem.Str) = some (.ref fa) := by
      have e : (HandSHeadRun.topDef (OpenLaw.row PySem.Challenge.rw_zeroorone_k01_whole_divisors_and_rests).prog 32).name = ("law" : PySem.Str) := by kernel_rfl
      rw [← e]
      exact hmg0
    have e := hmg.symm.trans T.g_law
    cases e
    obtain ⟨fd, F⟩ := T.f_law
    have hb := L2.FunD.bindsA (ps := ["script"]) F fun _ _ _ _ _ _ us hl => match us, hl with | [_], _ => rfl
    refine ⟨K, fd, L2.Z.sp_law K, KX, fun s v => hb s [v] rfl, fun H a ns hl _ hS => ⟨a, ns, rfl, hS, hl, fun _ => rfl⟩, fun base _ _ => L2.Z.okF_law T F⟩
