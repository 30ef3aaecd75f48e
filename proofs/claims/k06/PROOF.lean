import PyProof.Rows.All
import Wide.All
import OpenK.AllK
import Wide.FinOn
import HandS.ForMost
import HandS.Wide
import HandS.Gcd
import HandS.More
import HandS.IsInst
import HandS.Defaults
import HandS.SortInts
import HandS.Zip
import HandS.TupAny
import HandS.Conv
import HandS.Style
import HandS.RaiseMore
import HandS.Head0
import HandS.Head1
import HandS.Head2
import HandS.Head3
import HandS.HeadEnd
import HandS.HeadHook1
import HandS.HeadHook2
import HandS.Small
import KE.GoesEnum
import PySem.Challenge.RW_zeroorone_k06_whole_orders_and_makers
set_option Elab.async false
set_option linter.all false
set_option maxRecDepth 100000
set_option maxHeartbeats 2000000
namespace L2.Z
open PySem PySem.Spec PyProof.Rows
abbrev rAdd : R2 := rI0 fun i j => .int (i + j)
abbrev rSub : R2 := rI0 fun i j => .int (i - j)
abbrev rModU : R2 := rI (fun _ j => 0 < j) fun i j => .int (i % j)
abbrev rDivU : R2 := rI CDivW fun i j => .int (i / j)
abbrev rPowU : R2 := rI CPow fun i j => .int (i ^ j.toNat)
abbrev rMulU : R2 := rI (fun i j => CMul i j ∨ CMulW i j) fun i j => .int (i * j)
abbrev rNeg : V → Hp → VK → Prop := rU fun i => .int (-i)
/-- // by any divisor but 0 below 2 ^ 9000 -/
def CDivZ (_ j : Int) : Prop := j ≠ 0 ∧ j.natAbs.log2 < 9000
abbrev rDivZ : R2 := rI CDivZ fun i j => .int (i.fdiv j)
theorem op_fdivZ {X : Cx} : OpR X (binaryOp .FloorDiv) rDivZ := opI fun i j _ _ _ _ _ hc q => floordiv_int hc.1 q (.inl (PyProof.noPylong_of_log2 hc.2))
abbrev rStrI : List V → Hp → VK → Prop := fun xs H Q => ∃ i : Int, xs = [.int i] ∧ i.natAbs.log2 < 1920 ∧ Q (.str (toString i)) H
/-- repr of plain values -/
def tTru (K : PySem.W.Frag) (te : TE) : TT := fun σ H Qt => te σ H fun x H1 => ∃ k, TruV K x H1 k ∧ Qt k H1
theorem pt_tru {X : Cx} {K : PySem.W.Frag} {a : PySem.Expr} {ta : TE} (hk : X.K = K) (h : PE X a ta) (he : ∀ whole : PySem.Sem PySem.Value, PySem.isTrue a X.env whole = do
          let v ← whole
          PySem.standAt a.pos
          PySem.holding [v] (PySem.truthy v)) : PT X a (tTru K ta) := by
  subst hk
  exact pt_truth h he
def rMinT : List V → Hp → VK → Prop := fun vs H Q => ∃ (a : Addr) (ns : List Int), vs = [.ref a] ∧ H a = some (.tup (ns.map V.int)) ∧ 0 < ns.length ∧ ∀ m, m ∈ ns → (∀ y ∈ ns, m ≤ y) → Q (.int m) H
theorem vals_ints : ∀ {ns : List Int} {its : List Value}, Vals (ns.map V.int) its → its.length = ns.length ∧ ∀ (i : Nat) (v : Value), its[i]? = some v → ∃ t, v = Value.int (ns.getD i 0) t := by
  intro ns
  induction ns with
  | nil => intro its h; cases h; exact ⟨rfl, fun i v e => by simp at e⟩
  | cons n r ih =>
    intro its h
    cases h with
    | cons h1 h2 =>
      obtain ⟨l, g⟩ := ih h2
      refine ⟨by simp [l], fun i v e => ?_⟩
      cases i with
      | zero =>
        simp only [List.getElem?_cons_zero, Option.some.injEq] at e
        subst e
        obtain ⟨t, e⟩ := h1
        exact ⟨t, by simpa using e⟩
      | succ i =>
        rw [List.getElem?_cons_succ] at e
        obtain ⟨t, e⟩ := g i v e
        exact ⟨t, by simpa using e⟩
theorem cr_minT {X : Cx} (hc : X.calm = true) : CallR X (.builtin "min") rMinT := by
  intro pins s σ H xs us Q I r h
  obtain ⟨a, ns, rfl, hT, hn, hq⟩ := h
  obtain ⟨u, rfl, r1⟩ := vals1 r
  cases (show u = Value.ref a from r1)
  obtain ⟨its, hv, hI, _⟩ := I.tuple (.inl (.inl hT))
  obtain ⟨hl, hg⟩ := vals_ints hv
  refine PySem.call_min_walk ?_
  refine PySem.wpAny_pyIter_tuple (items := its.toArray) ?_ ?_
  · exact hI
  · obtain ⟨o, ho, hcl, hdt⟩ := hI
    have hlt : a < s.heap.objs.size := by
      refine Nat.lt_of_not_le fun c => ?_
      have : s.heap.get? a = none := by
        simp [PySem.Heap.get?, c]
      rw [ho] at this
      cases this
    have hne : a ≠ s.heap.objs.size := Nat.ne_of_lt hlt
    have push_old : ∀ (b : Addr) (u x : Obj), s.heap.get? b = some u → (s.heap.push x).get? b = some u := fun b u x hb => by
      have hlb : b < s.heap.objs.size := by
        refine Nat.lt_of_not_le fun c => ?_
        have : s.heap.get? b = none := by simp [PySem.Heap.get?, c]
        rw [hb] at this
        cases this
      simp only [PySem.Heap.get?, PySem.Heap.push] at hb ⊢
      rw [Array.getElem?_push, if_neg (Nat.ne_of_lt hlb)]
      exact hb
    refine ⟨_, _, _, _, _, _, _, rfl, PySem.Walks.tuple ?_ s.heap.objs.size a hne its.toArray, ⟨⟨{ cls := Value.type "tuple_iterator", data := Data.fields #[Value.ref a, Value.int 0 0] }, ?_, rfl, rfl⟩, ⟨o, push_old a o _ ho, hcl, hdt⟩⟩, ?_, ?_, PySem.CmpOf.ints_lt (fun i => ns.getD i 0) (fun i v e => hg i v (by simpa using e)), fun v h' tk hP hk => ?_⟩
    · exact (I.ok.hd hc)
    · simp [PySem.Heap.get?, PySem.Heap.push]
    · intro b hb
      have : (s.heap.push { cls := Value.type "tuple_iterator", data := Data.fields #[Value.ref a, Value.int 0 0] }).objs.size = s.heap.objs.size + 1 := by simp [PySem.Heap.push]
      show b < (s.heap.push { cls := Value.type "tuple_iterator", data := Data.fields #[Value.ref a, Value.int 0 0] }).objs.size
      rw [this]
      simp only [List.mem_cons, List.not_mem_nil, or_false] at hb
      rcases hb with rfl | rfl
      · exact Nat.lt_succ_self _
      · exact Nat.lt_succ_of_lt hlt
    · simp only [List.size_toArray]; omega
    · obtain ⟨b1, b2⟩ := PySem.argBest_lt (fun i => ns.getD i 0) (its.toArray.size - 1)
      generalize argBest (fun i j => decide (ns.getD i 0 < ns.getD j 0)) (its.toArray.size - 1) = k at *
      simp only [List.size_toArray] at b1 b2
      obtain ⟨t, rfl⟩ := hg k v (by simpa using hP)
      have hk1 : k < ns.length := by omega
      refine ⟨.int (ns.getD k 0), H, I.kept (h' := h') (t' := tk) (fun b u hb => hk b u ?_ (push_old b u _ hb)), ⟨t, rfl⟩, hq _ ?_ fun y hy => ?_⟩
      · intro c
        rw [List.mem_singleton] at c
        subst c
        simp [PySem.Heap.get?] at hb
      · rw [List.getD_eq_getElem?_getD, List.getElem?_eq_getElem hk1]
        exact List.getElem_mem hk1
      · obtain ⟨j, hj, rfl⟩ := List.getElem_of_mem hy
        have := b2 j (by omega)
        rw [List.getD_eq_getElem?_getD (i := j), List.getElem?_eq_getElem hj] at this
        exact this
def rSortedDI : List V → Hp → VK → Prop := fun xs H Q => ∃ (a : Addr) (kvs : List (Key × V)) (ks : List Int), xs = [.ref a] ∧ Rd H a (.dK kvs) ∧ kvs.map (·.1) = ks.map Sum.inl ∧ ks.length < 64 ∧ ∀ (ys : List Int) (p : Addr), ys.Perm ks → ys.Pairwise (· ≤ ·) → H p = none → Q (.ref p) (upd H p (.lst (ys.map V.int)))
theorem cr_sortedDI {X : Cx} (hc : X.calm = true) : CallR X (.builtin "sorted") rSortedDI := call_sortedDI hc
def rReprU : List V → Hp → VK → Prop := fun xs H Q => (∃ i : Int, xs = [.int i] ∧ i.natAbs.log2 < 1920 ∧ Q (.str (toString i)) H) ∨ (∃ b : Bool, xs = [.bl b] ∧ Q (.str (if b then "True" else "False")) H) ∨ (xs = [.non] ∧ Q (.str "None") H)
theorem cr_reprU {X : Cx} : CallR X (.builtin "repr") rReprU := by
  intro pins s σ H xs us Q I r h
  rcases h with h | ⟨b, e, q⟩ | ⟨e, q⟩
  · exact SkE.call_repr_int pins s σ H xs us Q I r h
  · subst e
    obtain ⟨u, e1, r1⟩ := vals1 r
    subst e1
    cases (show u = Value.bool b from r1)
    exact PySem.P.repr_of_bool ⟨.str _, H, I.tok _, ⟨_, rfl⟩, q⟩
  · subst e
    obtain ⟨u, e1, r1⟩ := vals1 r
    subst e1
    cases (show u = Value.none from r1)
    exact PySem.P.repr_of_none ⟨.str _, H, I.tok _, ⟨_, rfl⟩, q⟩
abbrev rLtI : R2 := rI0 fun i j => .bl (decide (i < j))
abbrev rLeI : R2 := rI0 fun i j => .bl (decide (i ≤ j))
abbrev rGtI : R2 := rI0 fun i j => .bl (decide (j < i))
abbrev rGeI : R2 := rI0 fun i j => .bl (decide (j ≤ i))
abbrev rLenU (K : PySem.W.Frag) : List V → Hp → VK → Prop := fun xs H Q => ∃ p ys, xs = [.ref p] ∧ (SqL K H p ys ∨ SqT K H p ys) ∧ Q (.int ys.length) H
abbrev rAbs : List V → Hp → VK → Prop := fun xs H Q => ∃ i : Int, xs = [.int i] ∧ Q (.int (if i < 0 then -i else i)) H
abbrev rMax2 : List V → Hp → VK → Prop := fun xs H Q => ∃ i j : Int, xs = [.int i, .int j] ∧ Q (.int (if j > i then j else i)) H
abbrev rMin2 : List V → Hp → VK → Prop := fun xs H Q => ∃ i j : Int, xs = [.int i, .int j] ∧ Q (.int (if j < i then j else i)) H
abbrev rInt1 : List V → Hp → VK → Prop := fun xs H Q => (∃ i, xs = [.int i] ∧ Q (.int i) H) ∨ ∃ k, xs = [.bl k] ∧ Q (.int (if k then 1 else 0)) H
abbrev rTupOf (K : PySem.W.Frag) : List V → Hp → VK → Prop := fun xs H Q => ∃ p ys, xs = [.ref p] ∧ ((SqL K H p ys ∧ ∀ l, H l = none → Q (.ref l) (upd H l (.tup ys))) ∨ (SqT K H p ys ∧ Q (.ref p) H))
abbrev rListOf (K : PySem.W.Frag) : List V → Hp → VK → Prop := fun xs H Q => ∃ p ys, xs = [.ref p] ∧ (SqL K H p ys ∨ SqT K H p ys) ∧ ∀ l, H l = none → Q (.ref l) (upd H l (.lst ys))
abbrev rIxA (K : PySem.W.Frag) : R2 := fun x y H Q => rIxL K x y H Q ∨ rIxT K x y H Q
theorem ix_lt {X : Cx} : IxR X (rIxA X.K) := ix_list.or ix_tup
theorem op_mulU {X : Cx} : OpR X (binaryOp .Mult) rMulU := opI fun _ _ _ _ _ _ _ hc q => mul_int q (hc.elim CMul.ok CMulW.ok)
theorem hu64_of {A : Around} {k : Nat} (hr : Room k A) : A.units + 64 < cLine := by have := hr.un; omega
def Okk (P : Program) (w : World) (K : PySem.W.Frag) (mg : Str → Option Value) (base : Heap) (k : Nat) (x : Str) (ps : List Str) (sp : Sp) : Prop :=
  ∃ fd, FnOk P w K mg base CX0 k (He.ga K x) fd ps sp ∧ Binds K fd ps [] ∧ mg x = some (.ref (He.ga K x)) ∧ PySem.W.keepIn K (.ref (He.ga K x)) = true
def LcW (J : It) (H1 : Hp) (g : TG) (tt : TT) (te : TE) (vs : List Nat) (σ : St) (Q : VK) : Prop := tLc (fun _ _ R => R J H1) g tt te vs σ H1 Q
def ForW (J : It) (H1 : Hp) (g : TG) (tb : TS) (D : Ends) (σ : St) : Prop := tFor (fun _ _ R => R J H1) g tb D σ H1
section
variable {σ : St} {H : Hp} {Q : VK} {v x y : V} {ta tb tc te : TE} {r r' : R2} {t u : TT} {n : Nat} {D : Ends} {s s' : TS} {g : TG} {K : PySem.W.Frag} {tl : TA} {QA : List V → Hp → Prop} {QT : Bool → Hp → Prop}
theorem z_var0 : tVar 0 (some v :: σ) H Q = Q v H := propext ⟨fun ⟨_, h, q⟩ => by cases h; exact q, fun q => ⟨_, rfl, q⟩⟩
theorem z_varS {o : Option V} : tVar (n + 1) (o :: σ) H Q = tVar n σ H Q := rfl
theorem z_C : tC v σ H Q = Q v H := rfl
theorem z_op : tOp r ta tb σ H Q = ta σ H fun x H1 => tb σ H1 fun y H2 => r x y H2 Q := rfl
theorem z_un {f : V → Hp → VK → Prop} : tUn f ta σ H Q = ta σ H fun x H1 => f x H1 Q := rfl
theorem z_I0 {f : Int → Int → V} {i j : Int} : rI0 f (.int i) (.int j) H Q = Q (f i j) H := propext ⟨fun ⟨_, _, e1, e2, q⟩ => by cases e1; cases e2; exact q, fun q => ⟨_, _, rfl, rfl, q⟩⟩
theorem z_I {C : Int → Int → Prop} {f : Int → Int → V} {i j : Int} : rI C f (.int i) (.int j) H Q = (C i j ∧ Q (f i j) H) := propext ⟨fun ⟨_, _, e1, e2, q⟩ => by cases e1; cases e2; exact q, fun q => ⟨_, _, rfl, rfl, q⟩⟩
theorem z_U {f : Int → V} {i : Int} : rU f (.int i) H Q = Q (f i) H := propext ⟨fun ⟨_, e1, q⟩ => by cases e1; exact q, fun q => ⟨_, rfl, q⟩⟩
theorem z_eqI {i j : Int} : rEq (.int i) (.int j) H Q = Q (.bl (decide (i = j))) H := by
  have e : decide (V.int i = V.int j) = decide (i = j) := by simp
  unfold rEq; rw [e]; exact propext ⟨fun h => h.2, fun h => ⟨rfl, h⟩⟩
theorem z_neI {i j : Int} : rNe (.int i) (.int j) H Q = Q (.bl (!decide (i = j))) H := by
  have e : decide (V.int i = V.int j) = decide (i = j) := by simp
  unfold rNe; rw [e]; exact propext ⟨fun h => h.2, fun h => ⟨rfl, h⟩⟩
theorem z_bl {b : Bool} {p : Bool → Prop} : (∃ k, V.bl b = V.bl k ∧ p k) = p b := propext ⟨fun ⟨_, e, q⟩ => by cases e; exact q, fun q => ⟨_, rfl, q⟩⟩
theorem z_test : tTest te σ H QT = te σ H fun x H' => ∃ k, x = .bl k ∧ QT k H' := rfl
theorem z_B : tB te σ H QT = te σ H fun x H' => ∃ k, x = .bl k ∧ QT k H' := rfl
theorem z_and : tAnd t u σ H QT = t σ H fun c H1 => if c = true then u σ H1 QT else QT false H1 := rfl
theorem z_or : tOr t u σ H QT = t σ H fun c H1 => if c = true then QT true H1 else u σ H1 QT := rfl
theorem z_not : tNot t σ H QT = t σ H fun c H1 => QT (!c) H1 := rfl
theorem z_andV : tAndV ta tb σ H Q = ta σ H fun x H1 => ∃ c, x = .bl c ∧ if c = true then tb σ H1 Q else Q (.bl false) H1 := rfl
theorem z_orV : tOrV ta tb σ H Q = ta σ H fun x H1 => ∃ c, x = .bl c ∧ if c = true then Q (.bl true) H1 else tb σ H1 Q := rfl
theorem z_notV : tNotV ta σ H Q = ta σ H fun x H1 => ∃ c, x = .bl c ∧ Q (.bl (!c)) H1 := rfl
theorem z_if : tIf t ta tb σ H Q = t σ H fun c H1 => if c = true then ta σ H1 Q else tb σ H1 Q := rfl
theorem z_ifS : tIfS t s s' D σ H = t σ H fun b H1 => if b = true then s D σ H1 else s' D σ H1 := rfl
theorem z_seq : tSeq s s' D σ H = s { D with nx := s' D } σ H := rfl
theorem z_next : tNext D σ H = D.nx σ H := rfl
theorem z_ret : tRet te D σ H = te σ H D.rt := rfl
theorem z_retN : tRetN D σ H = D.rt .non H := rfl
theorem z_asg : tAsg te g D σ H = te σ H fun x H1 => g x σ H1 D.nx := rfl
theorem z_gname {Qg : St → Hp → Prop} : gName n v σ H Qg = Qg (σ.set n (some v)) H := rfl
theorem z_drop : tDrop te D σ H = te σ H fun _ H1 => D.nx σ H1 := rfl
theorem z_nil : tNil σ H QA = QA [] H := rfl
theorem z_cons : tCons te tl σ H QA = te σ H fun x H1 => tl σ H1 fun xs H2 => QA (x :: xs) H2 := rfl
theorem z_call {sp : Sp} {E : XK} : tCall sp [] E tl σ H Q = tl σ H fun vs H1 => sp vs H1 Q E := by unfold tCall; simp only [List.append_nil]
theorem z_CB {f : List V → Hp → VK → Prop} : tCB f tl σ H Q = tl σ H fun vs H1 => f vs H1 Q := rfl
theorem z_par {i j : Nat} : tPar i j tl D σ H = tl σ H fun vs H1 => ∃ v w, vs = [v, w] ∧ D.nx ((σ.set i (some v)).set j (some w)) H1 := rfl
theorem z_pair {v w : V} {p : V → V → Prop} : (∃ a b, [v, w] = [a, b] ∧ p a b) = p v w := propext ⟨fun ⟨_, _, e, q⟩ => by cases e; exact q, fun q => ⟨_, _, rfl, q⟩⟩
theorem z_aug0 {ti : TIp} {σ' : St} {i : Nat} : tAug i te ti D σ H = ∃ x, σ[i]? = some (some x) ∧ te σ H fun y H1 => ti x y H1 fun z H2 => D.nx (σ.set i (some z)) H2 := rfl
theorem z_ipI {f : Int → Int → Int} {i j : Int} : ipI f (.int i) (.int j) H Q = Q (.int (f i j)) H := propext ⟨fun ⟨_, _, e1, e2, q⟩ => by cases e1; cases e2; exact q, fun q => ⟨_, _, rfl, rfl, q⟩⟩
theorem z_abs {i : Int} : rAbs [.int i] H Q = Q (.int (if i < 0 then -i else i)) H := propext ⟨fun ⟨_, e1, q⟩ => by cases e1; exact q, fun q => ⟨_, rfl, q⟩⟩
theorem z_max {i j : Int} : rMax2 [.int i, .int j] H Q = Q (.int (if j > i then j else i)) H := propext ⟨fun ⟨_, _, e1, q⟩ => by cases e1; exact q, fun q => ⟨_, _, rfl, q⟩⟩
theorem z_min {i j : Int} : rMin2 [.int i, .int j] H Q = Q (.int (if j < i then j else i)) H := propext ⟨fun ⟨_, _, e1, q⟩ => by cases e1; exact q, fun q => ⟨_, _, rfl, q⟩⟩
theorem z_int {i : Int} : rInt1 [.int i] H Q = Q (.int i) H := by
  apply propext
  constructor
  · intro h
    rcases h with ⟨_, e, q⟩ | ⟨_, e, _⟩
    · cases e; exact q
    · cases e
  · intro q
    exact Or.inl ⟨_, rfl, q⟩
theorem z_intB {b : Bool} : rInt1 [.bl b] H Q = Q (.int (if b then 1 else 0)) H := by
  apply propext
  constructor
  · intro h
    rcases h with ⟨_, e, _⟩ | ⟨_, e, q⟩
    · cases e
    · cases e; exact q
  · intro q
    exact Or.inr ⟨_, rfl, q⟩
theorem z_gcd {i j : Int} : rGcd [.int i, .int j] H Q = Q (.int ((Nat.gcd i.natAbs j.natAbs : Nat) : Int)) H := propext ⟨fun ⟨_, _, e, q⟩ => by cases e; exact q, fun q => ⟨_, _, rfl, q⟩⟩
theorem z_tup : tTup tl σ H Q = tl σ H fun xs H1 => xs.length ≤ sizeLine ∧ ∀ p, H1 p = none → Q (.ref p) (upd H1 p (.tup xs)) := rfl
theorem z_lst : tLst tl σ H Q = tl σ H fun xs H1 => xs.length ≤ sizeLine ∧ ∀ p, H1 p = none → Q (.ref p) (upd H1 p (.lst xs)) := rfl
theorem z_chain : tChain r r' ta tb tc σ H Q = ta σ H fun x H1 => tb σ H1 fun y H2 => r x y H2 fun z H3 => ∃ k, z = .bl k ∧ (if k = true then tc σ H3 fun w' H4 => r' y w' H4 Q else Q (.bl false) H3) := rfl
theorem z_bm {T : String} {f : V → List V → Hp → VK → Prop} {to : TE} : tBM K T f to tl σ H Q = to σ H fun x H1 => tyV K T x H1 ∧ tl σ H1 fun xs H2 => f x xs H2 Q := rfl
theorem z_bm0 {T : String} {f : V → List V → Hp → VK → Prop} {to : TE} : tBM0 K T f to σ H Q = to σ H fun x H1 => tyV K T x H1 ∧ f x [] H1 Q := rfl
theorem tyL {p : Addr} {xs : List V} (h : H p = some (.lst xs)) : tyV K "list" (.ref p) H := .inl ⟨rfl, _, .inl (.inl h)⟩
theorem z_gtup {m : Nat} {a : Addr} {gs : TGs} {Qg : St → Hp → Prop} : gTup K m gs (.ref a) σ H Qg = ∃ xs, SqT K H a xs ∧ xs.length = m ∧ gs xs σ H Qg := propext ⟨fun ⟨_, xs, e, h⟩ => by cases e; exact ⟨xs, h⟩, fun ⟨xs, h⟩ => ⟨a, xs, rfl, h⟩⟩
theorem z_gcons {gs : TGs} {r : List V} {Qg : St → Hp → Prop} : gCons g gs (v :: r) σ H Qg = g v σ H fun σ' H' => gs r σ' H' Qg := propext ⟨fun ⟨_, _, e, h⟩ => by cases e; exact h, fun h => ⟨v, r, rfl, h⟩⟩
theorem z_gnil {Qg : St → Hp → Prop} : gNil [] σ H Qg = Qg σ H := propext ⟨fun h => h.2, fun h => ⟨rfl, h⟩⟩
theorem z_yes : tYes σ H QT = QT true H := rfl
theorem z_wipe0 : wipe σ [] = σ := rfl
theorem z_wipeS {i : Nat} {is : List Nat} : wipe σ (i :: is) = (wipe σ is).set i none := rfl
theorem z_itup {R : It → Hp → Prop} : iTup K te σ H R = te σ H fun x H1 => ∃ a, x = .ref a ∧ (∃ xs, SqT K H1 a xs) ∧ R (Itt K a) H1 := rfl
theorem z_ilist {R : It → Hp → Prop} : iList K te σ H R = te σ H fun x H1 => ∃ a, x = .ref a ∧ (∃ xs, SqL K H1 a xs) ∧ R (Itl K a) H1 := rfl
theorem z_irng1 {R : It → Hp → Prop} : iRng1 tl σ H R = tl σ H fun vs H1 => ∃ j : Int, vs = [.int j] ∧ -(2 ^ 62) ≤ j ∧ j < 2 ^ 62 ∧ R (Itr 0 j.toNat) H1 := rfl
theorem z_irng2 {R : It → Hp → Prop} : iRng2 tl σ H R = tl σ H fun vs H1 => ∃ i j : Int, vs = [.int i, .int j] ∧ (-(2 ^ 62) ≤ i ∧ i < 2 ^ 62 ∧ -(2 ^ 62) ≤ j ∧ j < 2 ^ 62) ∧ R (Itr i (j - i).toNat) H1 := rfl
theorem z_lc {wi : TI} {vs : List Nat} : tLc wi g t te vs σ H Q = wi σ H fun J H1 => LcW J H1 g t te vs σ Q := rfl
theorem z_for {wi : TI} {tb : TS} : tFor wi g tb D σ H = wi σ H fun J H1 => ForW J H1 g tb D σ := rfl
theorem z_gsub {to ti : TE} {f : TSet} {Qg : St → Hp → Prop} : gSub to ti f v σ H Qg = to σ H fun o H1 => ti σ H1 fun i H2 => f o i v H2 fun H3 => Qg σ H3 := rfl
theorem ixL {p : Addr} {xs : List V} {i : Int} (h : SqL K H p xs) (e : atI xs i = some v) (q : Q v H) : rIxA K (.ref p) (.int i) H Q := .inl ⟨p, xs, i, v, rfl, rfl, h, e, q⟩
theorem ixT {p : Addr} {xs : List V} {i : Int} (h : SqT K H p xs) (e : atI xs i = some v) (q : Q v H) : rIxA K (.ref p) (.int i) H Q := .inr ⟨p, xs, i, v, rfl, rfl, h, e, q⟩
theorem setL {p : Addr} {xs : List V} {i : Int} {j : Nat} {Qh : Hp → Prop} (h : H p = some (.lst xs)) (e : ixN xs.length i = some j) (q : Qh (upd H p (.lst (xs.set j v)))) : rSetL (.ref p) (.int i) v H Qh := ⟨p, xs, i, j, rfl, rfl, h, e, q⟩
theorem lenL {p : Addr} {xs : List V} (h : SqL K H p xs) (q : Q (.int (xs.length : Int)) H) : rLenU K [.ref p] H Q := ⟨p, xs, rfl, .inl h, q⟩
theorem lenT {p : Addr} {xs : List V} (h : SqT K H p xs) (q : Q (.int (xs.length : Int)) H) : rLenU K [.ref p] H Q := ⟨p, xs, rfl, .inr h, q⟩
theorem z_par3 {i j l : Nat} : tPar3 i j l tl D σ H = tl σ H fun vs H1 => ∃ u v w, vs = [u, v, w] ∧ D.nx (((σ.set i (some u)).set j (some v)).set l (some w)) H1 := rfl
theorem z_trip {u v w : V} {p : V → V → V → Prop} : (∃ a b c, [u, v, w] = [a, b, c] ∧ p a b c) = p u v w := propext ⟨fun ⟨_, _, _, e, q⟩ => by cases e; exact q, fun q => ⟨_, _, _, rfl, q⟩⟩
theorem z_rg1 {f : Int → Int → Hp → Prop} : tRg1 te σ H f = te σ H fun x H1 => ∃ n, x = .int n ∧ f 0 n H1 := rfl
theorem z_rg2 {f : Int → Int → Hp → Prop} : tRg2 ta tb σ H f = ta σ H fun x H1 => tb σ H1 fun y H2 => ∃ i j, x = .int i ∧ y = .int j ∧ f i j H2 := rfl
theorem z_ii {i j : Int} {p : Int → Int → Prop} : (∃ a b, V.int i = V.int a ∧ V.int j = V.int b ∧ p a b) = p i j := propext ⟨fun ⟨_, _, e1, e2, q⟩ => by cases e1; cases e2; exact q, fun q => ⟨_, _, rfl, rfl, q⟩⟩
theorem z_i1 {i : Int} {p : Int → Prop} : (∃ a, V.int i = V.int a ∧ p a) = p i := propext ⟨fun ⟨_, e1, q⟩ => by cases e1; exact q, fun q => ⟨_, rfl, q⟩⟩
theorem z_lstrg {f : St → Hp → (Int → Int → Hp → Prop) → Prop} : tLstRg f σ H Q = f σ H fun a b H1 => RgOk a b ∧ ∀ q, H1 q = none → Q (.ref q) (upd H1 q (.lst (rgV a b))) := rfl
theorem z_disp {trs : List (TE × TE)} : tDisp trs σ H Q = ∀ p, H p = none → tPairs trs σ (upd H p (.dK [])) fun ps H2 => H2 p = some (.dK []) ∧ ∃ kvs : List (Key × V), ps = kvs.map (fun kv => (kV kv.1, kv.2)) ∧ kvs.length ≤ 15 ∧ Q (.ref p) (upd H2 p (.dK (mergeK [] kvs))) := rfl
theorem z_tp0 {f : List (V × V) → Hp → Prop} : tPairs [] σ H f = f [] H := rfl
theorem z_tpS {r : List (TE × TE)} {f : List (V × V) → Hp → Prop} : tPairs ((ta, tb) :: r) σ H f = ta σ H fun x H1 => tb σ H1 fun y H2 => tPairs r σ H2 fun ps H3 => f ((x, y) :: ps) H3 := rfl
theorem z_tru : tTru K ta σ H QT = ta σ H fun x H' => ∃ k, TruV K x H' k ∧ QT k H' := rfl
theorem z_din : tDIn ta tb σ H Q = ta σ H fun y H1 => tb σ H1 fun x H2 => ∃ a o, x = V.ref a ∧ DGet H2 a y o ∧ Q (.bl o.isSome) H2 := rfl
theorem z_dget : tDGet ta tb σ H Q = ta σ H fun x H1 => tb σ H1 fun y H2 => ∃ a v, x = V.ref a ∧ DGet H2 a y (some v) ∧ Q v H2 := rfl
theorem z_dput : sDPut ta tb te D σ H = te σ H fun v H1 => ta σ H1 fun x H2 => tb σ H2 fun y H3 => ∃ a H4, x = V.ref a ∧ DPut H3 a y v H4 ∧ D.nx σ H4 := rfl
theorem z_cont : tCont D σ H = D.ct σ H := rfl
theorem z_dnew : tDNewK σ H Q = ∀ p, H p = none → Q (.ref p) (upd H p (.dK [])) := rfl
theorem z_sl {f : V → Option Int → Option Int → Hp → VK → Prop} {ul uh : TO} : tSl f te ul uh σ H Q = te σ H fun x H1 => ul σ H1 fun l H2 => uh σ H2 fun u H3 => f x l u H3 Q := rfl
theorem z_part {f : Option Int → Hp → Prop} : tPart te σ H f = te σ H fun x H1 => ∃ i, x = .int i ∧ f (some i) H1 := rfl
theorem z_nopart {f : Option Int → Hp → Prop} : tNoPart σ H f = f none H := rfl
theorem z_strI {i : Int} : rStrI [.int i] H Q = (i.natAbs.log2 < 1920 ∧ Q (.str (toString i)) H) := propext ⟨fun ⟨_, e, q⟩ => by cases e; exact q, fun q => ⟨_, rfl, q⟩⟩
theorem z_isN : tIsN ta σ H Q = ta σ H fun x H1 => Q (.bl (decide (x = .non))) H1 := rfl
theorem z_notN : tNotN ta σ H Q = ta σ H fun x H1 => Q (.bl (!decide (x = .non))) H1 := rfl
theorem z_dn1 {i : Int} : decide (V.int i = V.non) = false := rfl
theorem z_dn2 {i : Addr} : decide (V.ref i = V.non) = false := rfl
theorem z_dn3 {i : Bool} : decide (V.bl i = V.non) = false := rfl
theorem z_dn4 {i : Str} : decide (V.str i = V.non) = false := rfl
theorem z_dn5 : decide (V.non = V.non) = true := rfl
theorem z_some {a : V} {p : V → Prop} : (∃ x, some (some a) = some (some x) ∧ p x) = p a := propext ⟨fun ⟨_, e, q⟩ => by cases e; exact q, fun q => ⟨_, rfl, q⟩⟩
end
/-! comprehensions: outs i is what the i-th item gives, if anything -/
def OutOf (D : Addr) (nx : Hp → Prop) : Option V → Hp → Prop
  | some y, H4 => ∃ acc, H4 D = some (.lst acc) ∧ acc.length < sizeLine ∧ nx (upd H4 D (.lst (acc ++ [y])))
  | none, H3 => nx H3
def outL (outs : Nat → Option V) (n : Nat) : List V := (List.range n).filterMap outs
theorem outL_succ (outs : Nat → Option V) (n : Nat) : outL outs (n + 1) = outL outs n ++ (outs n).toList := by
  unfold outL
  rw [List.range_succ, List.filterMap_append]
  cases h : outs n <;> simp [h]
theorem outL_len (outs : Nat → Option V) (n : Nat) : (outL outs n).length ≤ n := by
  unfold outL
  exact Nat.le_trans (List.length_filterMap_le _ _) (by simp)
theorem same_mutD {H H' : Hp} {p : Addr} {o : HO} (s : Same H H') (hn : H p = none) : Same H (upd H' p o) := fun b u h => by
  rw [upd_ne (ne_of_none h hn)]; exact s b u h
theorem out_ok {H1 : Hp} {D : Addr} (hD : H1 D = none) (outs : Nat → Option V) {i n : Nat} (hi : i < n) (hn : n < 2 ^ 22) {H' H2 : Hp} (h : Same H1 H' ∧ H' D = some (.lst (outL outs i))) (s : Same H' H2) :
    OutOf D (fun H' => Same H1 H' ∧ H' D = some (.lst (outL outs (i + 1)))) (outs i) H2 := by
  have h2 := s _ _ h.2
  have h3 : Same H1 H2 := h.1.trans s
  cases e : outs i with
  | none =>
    refine ⟨h3, ?_⟩
    rw [outL_succ, e]
    simpa using h2
  | some y =>
    refine ⟨_, h2, Nat.lt_of_lt_of_le (Nat.lt_of_le_of_lt (Nat.le_trans (outL_len outs i) (Nat.le_of_lt hi)) hn) (by decide), same_mutD h3 hD, ?_⟩
    rw [upd_same, outL_succ, e]
    rfl
theorem comp_R {lo : Int} {n : Nat} {g : TG} {tt : TT} {te : TE} {vs : List Nat} {σ : St} {H1 : Hp} {Q : VK} (outs : Nat → Option V) (hn : n < 2 ^ 22)
    (turn : ∀ i H', i < n → Same H1 H' → ∀ Qo : Option V → Hp → Prop, (∀ H2, Same H' H2 → Qo (outs i) H2) → g (.int (lo + i)) (wipe σ vs) H' fun σ2 H2 => wipe σ2 vs = wipe σ vs ∧ tt σ2 H2 fun b H3 => if b = true then te σ2 H3 fun y H4 => Qo (some y) H4 else Qo none H3)
    (fin : ∀ D H', Same H1 H' → H' D = some (.lst (outL outs n)) → Q (.ref D) H') : LcW (Itr lo n) H1 g tt te vs σ Q := fun D hD =>
  lc_range (lo := lo) (n := n) (fun i H' => Same H1 H' ∧ H' D = some (.lst (outL outs i))) ⟨fun b u h => by rw [upd_ne (ne_of_none h hD)]; exact h, upd_same⟩
    (fun i H' hi p => turn i H' hi p.1 (OutOf D fun H' => Same H1 H' ∧ H' D = some (.lst (outL outs (i + 1)))) fun H2 s => out_ok hD outs hi hn p s) (fun H' p => fin D H' p.1 p.2)
theorem comp_T {K : PySem.W.Frag} {a : Addr} {xs : List V} {g : TG} {tt : TT} {te : TE} {vs : List Nat} {σ : St} {H1 : Hp} {Q : VK} (hT : SqT K H1 a xs) (outs : Nat → Option V) (hn : xs.length < 2 ^ 22)
    (turn : ∀ i x H', xs[i]? = some x → Same H1 H' → ∀ Qo : Option V → Hp → Prop, (∀ H2, Same H' H2 → Qo (outs i) H2) → g x (wipe σ vs) H' fun σ2 H2 => wipe σ2 vs = wipe σ vs ∧ tt σ2 H2 fun b H3 => if b = true then te σ2 H3 fun y H4 => Qo (some y) H4 else Qo none H3)
    (fin : ∀ D H', Same H1 H' → H' D = some (.lst (outL outs xs.length)) → Q (.ref D) H') : LcW (Itt K a) H1 g tt te vs σ Q := fun D hD => by
  have hsq : ∀ H', Same H1 H' → SqT K H' a xs := fun H' s => by
    rcases hT with (h | ⟨o, h⟩) | h
    · exact .inl (.inl (s _ _ h))
    · exact .inl (.inr ⟨o, s _ _ h⟩)
    · exact .inr h
  exact lc_tup (K := K) (a := a) (xs := xs) (fun i H' => Same H1 H' ∧ H' D = some (.lst (outL outs i))) ⟨fun b u h => by rw [upd_ne (ne_of_none h hD)]; exact h, upd_same⟩ (fun i H' _ p => hsq H' p.1)
    (fun i x H' hx p => turn i x H' hx p.1 (OutOf D fun H' => Same H1 H' ∧ H' D = some (.lst (outL outs (i + 1)))) fun H2 s => out_ok hD outs (by
      have := List.getElem?_eq_some_iff.mp hx
      exact this.1) hn p s) (fun H' p => fin D H' p.1 p.2)
theorem comp_L {K : PySem.W.Frag} {a : Addr} {xs : List V} {g : TG} {tt : TT} {te : TE} {vs : List Nat} {σ : St} {H1 : Hp} {Q : VK} (hT : SqL K H1 a xs) (outs : Nat → Option V) (hn : xs.length < 2 ^ 22)
    (turn : ∀ i x H', xs[i]? = some x → Same H1 H' → ∀ Qo : Option V → Hp → Prop, (∀ H2, Same H' H2 → Qo (outs i) H2) → g x (wipe σ vs) H' fun σ2 H2 => wipe σ2 vs = wipe σ vs ∧ tt σ2 H2 fun b H3 => if b = true then te σ2 H3 fun y H4 => Qo (some y) H4 else Qo none H3)
    (fin : ∀ D H', Same H1 H' → H' D = some (.lst (outL outs xs.length)) → Q (.ref D) H') : LcW (Itl K a) H1 g tt te vs σ Q := fun D hD =>
  lc_list (K := K) (a := a) (xs := xs) (fun i H' => Same H1 H' ∧ H' D = some (.lst (outL outs i))) ⟨fun b u h => by rw [upd_ne (ne_of_none h hD)]; exact h, upd_same⟩ (fun i H' _ p => p.1.seq hT)
    (fun i x H' hx p => turn i x H' hx p.1 (OutOf D fun H' => Same H1 H' ∧ H' D = some (.lst (outL outs (i + 1)))) fun H2 s => out_ok hD outs (by
      have := List.getElem?_eq_some_iff.mp hx
      exact this.1) hn p s) (fun H' p => fin D H' p.1 p.2)
theorem for_T {K : PySem.W.Frag} {a : Addr} {xs : List V} {g : TG} {tb : TS} {D : Ends} {σ : St} {H : Hp} (Pv : Nat → St → Hp → Prop) (h0 : Pv 0 σ H) (hl : ∀ i σ H, i ≤ xs.length → Pv i σ H → SqT K H a xs)
    (hs : ∀ i x σ H, xs[i]? = some x → Pv i σ H → ∀ N : St → Hp → Prop, (∀ σ' H', Pv (i + 1) σ' H' → N σ' H') → g x σ H fun σ2 H2 => tb { D with nx := N, ct := N, bk := D.nx } σ2 H2) (hd : ∀ σ H, Pv xs.length σ H → D.nx σ H) : ForW (Itt K a) H g tb D σ :=
  for_tup (xs := xs) Pv h0 hl (fun i x σ H hx p => hs i x σ H hx p _ fun _ _ h => h) hd
theorem for_L {K : PySem.W.Frag} {a : Addr} {xs : List V} {g : TG} {tb : TS} {D : Ends} {σ : St} {H : Hp} (Pv : Nat → St → Hp → Prop) (h0 : Pv 0 σ H) (hl : ∀ i σ H, i ≤ xs.length → Pv i σ H → SqL K H a xs)
    (hs : ∀ i x σ H, xs[i]? = some x → Pv i σ H → ∀ N : St → Hp → Prop, (∀ σ' H', Pv (i + 1) σ' H' → N σ' H') → g x σ H fun σ2 H2 => tb { D with nx := N, ct := N, bk := D.nx } σ2 H2) (hd : ∀ σ H, Pv xs.length σ H → D.nx σ H) : ForW (Itl K a) H g tb D σ :=
  for_list (xs := xs) Pv h0 hl (fun i x σ H hx p => hs i x σ H hx p _ fun _ _ h => h) hd
theorem for_R {lo : Int} {n : Nat} {g : TG} {tb : TS} {D : Ends} {σ : St} {H : Hp} (Pv : Nat → St → Hp → Prop) (h0 : Pv 0 σ H)
    (hs : ∀ i σ H, i < n → Pv i σ H → ∀ N : St → Hp → Prop, (∀ σ' H', Pv (i + 1) σ' H' → N σ' H') → g (.int (lo + i)) σ H fun σ2 H2 => tb { D with nx := N, ct := N, bk := D.nx } σ2 H2) (hd : ∀ σ H, Pv n σ H → D.nx σ H) : ForW (Itr lo n) H g tb D σ :=
  for_range (lo := lo) (n := n) Pv h0 (fun i σ H hx p => hs i σ H hx p _ fun _ _ h => h) hd
/-- while: the invariant W by its measure; N is what a turn is to reach -/
theorem while_of {c : TT} {tb : TS} {D : Ends} {σ : St} {H : Hp} (W : Nat → St → Hp → Prop) (m0 : Nat) (h0 : W m0 σ H)
    (hs : ∀ m σ H, W m σ H → ∀ N : St → Hp → Prop, (∀ m' σ' H', m' < m → W m' σ' H' → N σ' H') → (∀ σ' H', N σ' H' → ∃ m', m' < m ∧ W m' σ' H') →
      c σ H fun b H1 => if b = true then ∃ N : St → Hp → Prop, (∀ σ' H', N σ' H' → ∃ m', m' < m ∧ W m' σ' H') ∧ tb { D with nx := N, ct := N, bk := D.nx } σ H1 else D.nx σ H1) : tWhile c tb D σ H :=
  ⟨W, ⟨m0, h0⟩, fun m σ H w => hs m σ H w _ (fun m' _ _ a b => ⟨m', a, b⟩) (fun _ _ h => h)⟩
/-- a comprehension over zip of two tuples of one length -/
theorem comp_ZT {K : PySem.W.Frag} {a b : Addr} {xs ys : List V} {g : TG} {tt : TT} {te : TE} {vs : List Nat} {σ : St} {H1 : Hp} {Q : VK} (hl : xs.length = ys.length) (hA : SqT K H1 a xs) (hB : SqT K H1 b ys) (outs : Nat → Option V) (hn : xs.length < 2 ^ 22)
    (turn : ∀ i x y T H', xs[i]? = some x → ys[i]? = some y → Same H1 H' → H' T = none → ∀ Qo : Option V → Hp → Prop, (∀ H2, Same H' H2 → Qo (outs i) H2) → g (.ref T) (wipe σ vs) (upd H' T (.tup [x, y])) fun σ2 H2 => wipe σ2 vs = wipe σ vs ∧ tt σ2 H2 fun b H3 => if b = true then te σ2 H3 fun y H4 => Qo (some y) H4 else Qo none H3)
    (fin : ∀ D H', Same H1 H' → H' D = some (.lst (outL outs xs.length)) → Q (.ref D) H') : LcW (RZ.ItzT K a b) H1 g tt te vs σ Q := fun D hD => by
  have hsq : ∀ {a xs H'}, SqT K H1 a xs → Same H1 H' → SqT K H' a xs := fun hT s => by
    rcases hT with (h | ⟨o, h⟩) | h
    · exact .inl (.inl (s _ _ h))
    · exact .inl (.inr ⟨o, s _ _ h⟩)
    · exact .inr h
  refine ⟨fun i m H => m = xs.length - i ∧ i ≤ xs.length ∧ Same H1 H ∧ H D = some (.lst (outL outs i)), ⟨xs.length, by simp, Nat.zero_le _, fun b u h => by rw [upd_ne (ne_of_none h hD)]; exact h, upd_same⟩, ?_⟩
  rintro i m H ⟨rfl, hi, s1, hL⟩
  by_cases hlt : i < xs.length
  · have jlt : i < ys.length := by omega
    refine .inr ⟨⟨xs, ys, _, _, hsq hA s1, hsq hB s1, List.getElem?_eq_getElem hlt, List.getElem?_eq_getElem jlt⟩, fun H => Same H1 H ∧ H D = some (.lst (outL outs (i + 1))), fun H' p' => ⟨xs.length - (i + 1), by omega, rfl, hlt, p'⟩, fun v H' y => ?_⟩
    obtain ⟨T, u, v, rfl, hT, rfl, f1, f2⟩ := y
    exact turn i u v T H (f1 xs (hsq hA s1)) (f2 ys (hsq hB s1)) s1 hT (OutOf D fun H' => Same H1 H' ∧ H' D = some (.lst (outL outs (i + 1)))) fun H2 s => out_ok hD outs hlt hn ⟨s1, hL⟩ s
  · obtain rfl : i = xs.length := by omega
    exact .inl ⟨⟨xs, ys, hsq hA s1, hsq hB s1, Or.inl (Nat.le_refl _)⟩, fin D H s1 hL⟩
def Lc2W (J : It) (H1 : Hp) (g : TG) (tt : TT) (wi1 : TI) (g1 : TG) (tt1 : TT) (te : TE) (vs vs1 : List Nat) (σ : St) (Q : VK) : Prop := tLc2 (fun _ _ R => R J H1) g tt wi1 g1 tt1 te vs vs1 σ H1 Q
theorem z_lc2 {wi wi1 : TI} {g g1 : TG} {tt tt1 : TT} {te : TE} {vs vs1 : List Nat} {σ : St} {H : Hp} {Q : VK} : tLc2 wi g tt wi1 g1 tt1 te vs vs1 σ H Q = wi σ H fun J H1 => Lc2W J H1 g tt wi1 g1 tt1 te vs vs1 σ Q := rfl
/-- [f x y for x in xs for y in ys], both lists, f without a trace on the heap -/
theorem comp2_LL {K : PySem.W.Frag} {a b : Addr} {xs ys : List V} {g g1 : TG} {wi1 : TI} {te : TE} {vs vs1 : List Nat} {σ : St} {H1 : Hp} {Q : VK} (f : V → V → V) (σ1 : V → St) (σ2 : V → V → St) (hA : SqL K H1 a xs) (hB : SqL K H1 b ys) (hn : xs.length * ys.length < 2 ^ 22)
    (hg : ∀ x H' (P : St → Hp → Prop), P (σ1 x) H' → g x (wipe σ vs) H' P) (hw : ∀ x, wipe (σ1 x) vs = wipe σ vs)
    (hi : ∀ x H' R, Same H1 H' → R (Itl K b) H' → wi1 (σ1 x) H' R)
    (hg1 : ∀ x y H' (P : St → Hp → Prop), P (σ2 x y) H' → g1 y (wipe (σ1 x) vs1) H' P) (hw1 : ∀ x y, wipe (σ2 x y) vs1 = wipe (σ1 x) vs1)
    (he : ∀ x y H' Qe, x ∈ xs → y ∈ ys → Same H1 H' → Qe (f x y) H' → te (σ2 x y) H' Qe)
    (fin : ∀ D H', Same H1 H' → H' D = some (.lst (xs.flatMap fun x => ys.map (f x))) → Q (.ref D) H') :
    Lc2W (Itl K a) H1 g tYes wi1 g1 tYes te vs vs1 σ Q := fun D hD => by
  have full : ∀ i j : Nat, i < xs.length → j ≤ ys.length → (((xs.take i).flatMap fun x => ys.map (f x)) ++ ((ys.take j).map (f (xs[i]?.getD .non)))).length ≤ xs.length * ys.length := fun i j hi hj => by
    have e : ∀ l : List V, (l.flatMap fun x => ys.map (f x)).length = l.length * ys.length := fun l => by
      induction l with
      | nil => simp
      | cons x t ih => rw [List.flatMap_cons, List.length_append, ih, List.length_map, List.length_cons, Nat.add_mul, Nat.one_mul, Nat.add_comm]
    rw [List.length_append, e, List.length_map, List.length_take, List.length_take, Nat.min_eq_left (by omega), Nat.min_eq_left hj]
    have : (i + 1) * ys.length ≤ xs.length * ys.length := Nat.mul_le_mul_right _ hi
    rw [Nat.add_mul, Nat.one_mul] at this
    omega
  refine ⟨fun i m H => m = xs.length - i ∧ i ≤ xs.length ∧ Same H1 H ∧ H D = some (.lst ((xs.take i).flatMap fun x => ys.map (f x))), ⟨xs.length, by simp, Nat.zero_le _, fun b u h => by rw [upd_ne (ne_of_none h hD)]; exact h, by rw [upd_same]; simp⟩, ?_⟩
  rintro i m H ⟨rfl, hi', s1, hL⟩
  by_cases hlt : i < xs.length
  · have hx := List.getElem?_eq_getElem hlt
    refine .inr ⟨⟨xs, _, s1.seq hA, hx⟩, fun H => Same H1 H ∧ H D = some (.lst ((xs.take (i + 1)).flatMap fun x => ys.map (f x))), fun H' p' => ⟨xs.length - (i + 1), by omega, rfl, hlt, p'⟩, fun v H' y => ?_⟩
    obtain ⟨rfl, f1⟩ := y
    have hv := f1 xs (s1.seq hA)
    have ev : v = xs[i] := by rw [hx] at hv; exact (Option.some.inj hv).symm
    refine hg _ _ _ ⟨hw _, ?_⟩
    show wi1 _ _ _
    refine hi _ _ _ s1 ?_
    refine ⟨fun j k H => k = ys.length - j ∧ j ≤ ys.length ∧ Same H1 H ∧ H D = some (.lst (((xs.take i).flatMap fun x => ys.map (f x)) ++ ((ys.take j).map (f v)))), ⟨ys.length, by simp, Nat.zero_le _, s1, by simpa using hL⟩, ?_⟩
    rintro j k H ⟨rfl, hj, s2, hM⟩
    by_cases hjt : j < ys.length
    · have hy : ys[j]? = some ys[j] := List.getElem?_eq_getElem hjt
      refine .inr ⟨⟨ys, _, s2.seq hB, hy⟩, fun H => Same H1 H ∧ H D = some (.lst (((xs.take i).flatMap fun x => ys.map (f x)) ++ ((ys.take (j + 1)).map (f v)))), fun H' p' => ⟨ys.length - (j + 1), by omega, rfl, hjt, p'⟩, fun u H' y => ?_⟩
      obtain ⟨rfl, f2⟩ := y
      have hu := f2 ys (s2.seq hB)
      refine hg1 _ _ _ _ ⟨hw1 _ _, ?_⟩
      show te _ _ _
      refine he _ _ _ _ (List.mem_of_getElem? hv) (List.mem_of_getElem? hu) s2 ?_
      have fl := full i j hlt hj
      rw [hv] at fl
      refine ⟨_, hM, Nat.lt_of_le_of_lt fl (Nat.lt_of_lt_of_le hn (by decide)), same_mutD s2 hD, ?_⟩
      rw [upd_same, List.take_succ, hu, List.append_assoc]
      simp
    · have e : j = ys.length := by omega
      subst e
      refine .inl ⟨⟨ys, s2.seq hB, Nat.le_refl _⟩, s2, ?_⟩
      rw [hM, List.take_length, List.take_succ, hv]
      simp
  · obtain rfl : i = xs.length := by omega
    exact .inl ⟨⟨xs, s1.seq hA, Nat.le_refl _⟩, fin D H s1 (by rw [hL, List.take_length])⟩
theorem z_dget2 {σ : St} {H : Hp} {Q : VK} {ta tb te : TE} : tDGet2 ta tb te σ H Q = ta σ H fun x H1 => ∃ a, x = .ref a ∧ IsD H1 a ∧ tb σ H1 fun y H2 => te σ H2 fun z H3 => ∃ o, DGet H3 a y o ∧ Q (o.getD z) H3 := rfl
theorem z_izip {K : PySem.W.Frag} {σ : St} {H : Hp} {tl : TA} {R : It → Hp → Prop} : RZ.iZipA K tl σ H R = tl σ H fun vs H1 => ∃ a b xs ys, vs = [.ref a, .ref b] ∧ ((SqL K H1 a xs ∧ SqL K H1 b ys ∧ R (Itz K a b) H1) ∨ (SqT K H1 a xs ∧ SqT K H1 b ys ∧ R (RZ.ItzT K a b) H1)) := rfl
open Sem (wp)
/-! enumerate over a tuple -/
def itO (a : Addr) : Obj := { cls := .type "tuple_iterator", data := .fields #[.ref a, .int 0 0] }
def enO (it : Addr) : Obj := { cls := .type "enumerate", data := .fields #[.none, .bool false, .ref it, rawInt 0, .none, .none] }
theorem en_new (a : Addr) (its : Array Value) : Meets (Builtin.«enumerate.__new__» ⟨[.type "enumerate", .ref a], []⟩) (fun _ R s0 => s0.heap.IsTuple a its ∧ R (.ok (.ret (.ref (s0.heap.push (itO a)).objs.size))) { s0 with heap := (s0.heap.push (itO a)).push (enO s0.heap.objs.size) }) :=
  .of_wp fun prg wd AA RR s0 hs => by
    obtain ⟨hp, gg, dd, tk, os⟩ := s0
    obtain ⟨hT, hs⟩ := hs
    have hsub := PySem.sub_enumerate
    have go : ∀ {A' : Around} {E' : Value → Shared → Prop} {Q' : Value → Shared → Prop}, Q' (.ref hp.objs.size) ⟨hp.push (itO a), gg, dd, tk, os⟩ → wpAny (model prg wd) A' (pyIter (.ref a)) Q' E' ⟨hp, gg, dd, tk, os⟩ := fun q => (begins_tuple a its).iter prg wd _ _ ⟨hp, gg, dd, tk, os⟩ _ hT q
    wp_walk using go
    refine wpAny_stack_any fun stk => wpAny_pure ?_
    split
    · rename_i cc _ _ _ _ _
      cases (cc == Value.type "enumerate") <;> (wp_walk using go; exact ⟨_, rfl, hs⟩)
    · wp_walk using go
      exact ⟨_, rfl, hs⟩
theorem en_call {prg : Program} {wd : World} {AA : Around} {EE : Value → Shared → Prop} {s0 : Shared} {a : Addr} {its : Array Value} {Q : Value → Shared → Prop} (hT : s0.heap.IsTuple a its)
    (h : ∀ h1, IsEnum h1 (s0.heap.objs.size + 1) s0.heap.objs.size 0 .none → h1.IsTupleIter s0.heap.objs.size a 0 → (∀ b ob, s0.heap.get? b = some ob → h1.get? b = some ob) → Q (.ref (s0.heap.objs.size + 1)) { s0 with heap := h1 }) :
    wpAny (model prg wd) AA (call (.type "enumerate") [.ref a]) Q EE s0 := by
  refine callType_new F.called_enumerate (by decide) (F.typeCall_enumerate_1 _) (F.newCall_enumerate_1 _) (fun ob => F.args_object_init_2 ob _) F.entry_enumerate_new (en_new a its) ⟨hT, ?_⟩
  have z1 : (s0.heap.push (itO a)).objs.size = s0.heap.objs.size + 1 := Heap.size_push ..
  have z2 : IsEnum ((s0.heap.push (itO a)).push (enO s0.heap.objs.size)) (s0.heap.objs.size + 1) s0.heap.objs.size 0 .none := by
    have z3 := Heap.get?_push_size (s0.heap.push (itO a)) (o := enO s0.heap.objs.size) rfl
    rw [z1] at z3
    exact z3
  show _ ∧ _
  rw [z1]
  exact ⟨⟨_, z2, rfl⟩, h _ z2 ⟨_, Heap.get?_push_of_some _ (Heap.get?_push_size _ rfl), rfl, rfl⟩ fun b ob y => Heap.get?_push_of_some _ (Heap.get?_push_of_some _ y)⟩
/-- the tuple at a, each item in a new pair with its index -/
def IteT (K : PySem.W.Frag) (a : Addr) : It :=
  ⟨fun i H => ∃ (xs : List V) (x : V), SqT K H a xs ∧ xs[i]? = some x,
   fun i H v H' => ∃ T x, v = .ref T ∧ H T = none ∧ H' = upd H T (.tup [.int (i : Nat), x]) ∧ ∀ xs, SqT K H a xs → xs[i]? = some x,
   fun i H => ∃ xs : List V, SqT K H a xs ∧ xs.length = i⟩
theorem en_apart {h : Heap} {e it a : Addr} {n : Int} {old : Value} {its : Array Value} {i : Nat} (he : IsEnum h e it n old) (hi : h.IsTupleIter it a i) (ha : h.IsTuple a its) : a ≠ it ∧ e ∉ [it, a] ∧ e ≠ it := by
  obtain ⟨o1, g1, c1, _⟩ := hi
  obtain ⟨o2, g2, c2, _⟩ := ha
  have n1 : a ≠ it := fun q => by
    rw [q, g1] at g2
    cases g2
    rw [c1] at c2
    exact absurd c2 (by decide)
  have n2 : e ≠ it := fun q => by
    rw [q] at he
    have := g1.symm.trans he
    cases this
    exact (show (Value.type "enumerate") ≠ Value.type "tuple_iterator" by decide) c1
  have n3 : e ≠ a := fun q => by
    rw [q] at he
    have := g2.symm.trans he
    cases this
    exact (show (Value.type "enumerate") ≠ Value.type "tuple" by decide) c2
  exact ⟨n1, by simp [n2, n3], n2⟩
theorem turn_enT {prg : Program} {wd : World} {K : PySem.W.Frag} {elts : List Expr} {kk : Nat} {tpos : Pos} (a e it : Addr) : Turn prg wd K (.Tuple elts kk tpos) (IteT K a) [e, it] e (fun i h => (∃ old, IsEnum h e it ((i : Nat) : Int) old) ∧ h.IsTupleIter it a i) where
  mem := List.mem_cons_self
  obj := fun i h st b hb => by
    obtain ⟨⟨old, he⟩, o, ho, _, hd⟩ := st
    rcases List.mem_cons.mp hb with z | z
    · subst z
      exact ⟨_, he, fun v q => nomatch q⟩
    · obtain rfl := List.mem_singleton.mp z
      exact ⟨o, ho, fun v q => by rw [hd] at q; cases q⟩
  keep := fun i h h' st k => by
    obtain ⟨⟨old, he⟩, hi⟩ := st
    exact ⟨⟨old, k e List.mem_cons_self _ he⟩, hi.at fun o q => k it (List.mem_cons_of_mem _ List.mem_cons_self) o q⟩
  item := by
    intro X hP hw hK hc i pins s0 σ H EE I hf st hg
    subst hP hw hK
    obtain ⟨⟨old, he⟩, hi⟩ := st
    obtain ⟨xs, x, hq, hx⟩ := hg
    obtain ⟨its, rv, p, _⟩ := I.tuple hq
    have p : s0.heap.IsTuple a its.toArray := p
    obtain ⟨u, hu, relu⟩ := rv.get hx
    obtain ⟨n1, n2, n3⟩ := en_apart he hi p
    have hlt : i < its.toArray.size := by
      have := (List.getElem?_eq_some_iff.mp hu).1
      simpa using this
    have szE : e < s0.heap.objs.size := Heap.lt_size he
    have szI : it < s0.heap.objs.size := by
      obtain ⟨_, q, _⟩ := hi
      exact Heap.lt_size q
    refine wpAny_pyNext_enum_itemD (Draws.tuple (A := X.A.in1) (I.ok.hd hc) it a n1 its.toArray) he ⟨hi, p⟩ hlt n3 n2 fun y h1 tk hy ho hs hT _ hk => ?_
    have ey : y = u := by
      have : its[i]? = some y := by simpa using hy
      rw [hu] at this
      exact (Option.some.inj this).symm
    subst ey
    refine ⟨_, rfl, wpAny_letOwnedTupleGo_enum (s := { s0 with heap := h1, toks := tk + 1 }) ho fun h2 he2 sb => ?_⟩
    have hT2 := (sb.2 _ (Nat.ne_of_gt szE)).trans hT
    have fresh : H s0.heap.objs.size = none := I.hok.fresh (Nat.le_refl _)
    have neu : ObjOk X.prog X.w (upd H s0.heap.objs.size (.tup [.int (i : Nat), x])) h2 s0.heap.objs.size (.tup [.int (i : Nat), x]) := ⟨by show 2 ≤ sizeLine; decide, [.int i tk, y], .cons ⟨_, rfl⟩ (.cons relu .nil), ⟨_, hT2, rfl, _, rfl⟩⟩
    have kept : ∀ b ob, b ∉ [e, it] → s0.heap.get? b = some ob → h2.get? b = some ob := fun b ob hb q => by
      have hb' : b ≠ e ∧ b ≠ it := by simpa using hb
      exact (sb.2 b hb'.1).trans (hk b ob hb'.1 hb'.2 q)
    have J := I.turnedNew (t' := tk + 1) kept hf (Nat.le_refl _) neu
    refine ⟨.ref s0.heap.objs.size, _, J, rfl, ⟨_, x, rfl, fresh, rfl, fun ys hy => by rw [I.tuple_inj hy hq]; exact hx⟩, ⟨⟨y, ?_⟩, hs.1.at fun o q => (sb.2 it (Ne.symm n3)).trans q⟩, fun b hb => ?_⟩
    · rw [show ((i + 1 : Nat) : Int) = (i : Int) + 1 by omega]; exact he2
    · have hlt2 : b < s0.heap.objs.size := by
        rcases List.mem_cons.mp hb with z | z
        · rw [z]; exact szE
        · rw [List.mem_singleton.mp z]; exact szI
      rw [upd_ne (Nat.ne_of_lt hlt2)]
      exact (hf b hb).1
  done := by
    intro X hP hw hK hc i pins s0 σ H EE I hf st hg
    subst hP hw hK
    obtain ⟨⟨old, he⟩, hi⟩ := st
    obtain ⟨xs, hq, hx⟩ := hg
    obtain ⟨its, rv, p, _⟩ := I.tuple hq
    have p : s0.heap.IsTuple a its.toArray := p
    obtain ⟨n1, n2, n3⟩ := en_apart he hi p
    obtain ⟨f0, f1, f2, f3, f4, f5⟩ := hf it (List.mem_cons_of_mem _ List.mem_cons_self)
    have e1 : i = its.toArray.size := by
      have := rv.length
      simp
      omega
    subst e1
    exact wpAny_pyNext_enum_endD (Draws.tuple (A := X.A.in1) (I.ok.hd hc) it a n1 its.toArray) he ⟨hi, p⟩ fun h1 eb => ⟨rfl, I.turned (t' := s0.toks) (fun b ob hb q => eb b ob hb q) f0 f1 f3 f4 f5⟩
  self := fun AA i s0 Q EE st h => by
    obtain ⟨⟨_, he⟩, _⟩ := st
    exact wpAny_pyIter_enum he h
def iEnT (K : PySem.W.Frag) (ta : TA) : TI := fun σ H R => ta σ H fun vs H1 => ∃ a xs, vs = [.ref a] ∧ SqT K H1 a xs ∧ R (IteT K a) H1
theorem pi_enT {X : Cx} {e : Expr} {ta : TA} {p pos tpos : Pos} {elts : List Expr} {kk : Nat} (hg : Gl X "enumerate") (hm : X.mg "enumerate" = none) (ha : PA X [e] ta) (hs : starEach [e] X.env = [(false, eval e X.env)] := by rfl) : PI X (.Tuple elts kk tpos) (.Call (.Name "enumerate" p) [e] [] pos) (iEnT X.K ta) := by
  refine ⟨fun pins s0 σ H R I h => Call_ (ld_blt I hg hm boot_enumerate (PyProof.Rows.callWith_type1 (thn (ha.run pos pins s0 σ H _ I h) fun us s1 ⟨vs, H1, I1, r1, q1⟩ => ?_) hs rfl))⟩
  obtain ⟨a, xs, rfl, hq, q⟩ := q1
  cases r1 with
  | cons r rr =>
    cases rr
    cases r
    obtain ⟨its, rv, p', _⟩ := I1.tuple hq
    refine en_call (show s1.heap.IsTuple a its.toArray from p') fun h1 he hi hk => wpAny_pyIter_enum he ?_
    have J : Inv X pins σ H1 { s1 with heap := h1 } := I1.kept (t' := s1.toks) hk
    refine ⟨s1.heap.objs.size + 1, [s1.heap.objs.size + 1, s1.heap.objs.size], _, _, H1, rfl, J, turn_enT a (s1.heap.objs.size + 1) s1.heap.objs.size, ⟨⟨.none, he⟩, hi⟩, fun b hb => ?_, q⟩
    have above : s1.heap.objs.size ≤ b := (List.mem_cons.mp hb).elim (fun q => by rw [q]; exact Nat.le_succ _) (fun q => by rw [List.mem_singleton.mp q]; exact Nat.le_refl _)
    exact I1.fpOk above (I1.hok.fresh above)
/-- for i, x in enumerate(a tuple) -/
theorem for_enT {K : PySem.W.Frag} {a : Addr} {xs : List V} {g : TG} {tb : TS} {D : Ends} {σ : L2.St} {H : Hp} (Pv : Nat → L2.St → Hp → Prop) (h0 : Pv 0 σ H) (hl : ∀ i σ H, Pv i σ H → SqT K H a xs)
    (hs : ∀ (i : Nat) (x : V) (T : Addr) (σ : L2.St) (H : Hp), xs[i]? = some x → Pv i σ H → H T = none → ∀ N : L2.St → Hp → Prop, (∀ σ' H', Pv (i + 1) σ' H' → N σ' H') → g (.ref T) σ (upd H T (.tup [.int (i : Nat), x])) fun σ2 H2 => tb { D with nx := N, ct := N, bk := D.nx } σ2 H2) (hd : ∀ σ H, Pv xs.length σ H → D.nx σ H) : ForW (IteT K a) H g tb D σ := by
  refine ⟨fun k m σ H => m + k = xs.length ∧ Pv k σ H, ⟨xs.length, by omega, h0⟩, ?_⟩
  rintro i m σ H ⟨em, p⟩
  have q := hl i σ H p
  by_cases hlt : i < xs.length
  · refine .inr ⟨⟨xs, _, q, List.getElem?_eq_getElem hlt⟩, Pv (i + 1), fun σ' H' p' => ⟨xs.length - (i + 1), by omega, by omega, p'⟩, fun v H' y => ?_⟩
    obtain ⟨T, x', rfl, hT, rfl, f1⟩ := y
    exact hs i x' T σ H (f1 xs q) p hT _ fun _ _ h => h
  · obtain rfl : i = xs.length := by omega
    exact .inl ⟨⟨xs, q, rfl⟩, hd σ H p⟩
theorem z_ient {K : PySem.W.Frag} {σ : L2.St} {H : Hp} {tl : TA} {R : It → Hp → Prop} : iEnT K tl σ H R = tl σ H fun vs H1 => ∃ a xs, vs = [.ref a] ∧ SqT K H1 a xs ∧ R (IteT K a) H1 := rfl
/-! a chain of three comparisons -/
def tChain3 (r r' r'' : R2) (ta tb tc td : TE) : TE := fun σ H Q => ta σ H fun x H1 => tb σ H1 fun y H2 => r x y H2 fun z H3 => ∃ k, z = .bl k ∧ (if k = true then tc σ H3 fun u H4 => r' y u H4 fun z2 H5 => ∃ k2, z2 = .bl k2 ∧ (if k2 = true then td σ H5 fun v H6 => r'' u v H6 Q else Q (.bl false) H5) else Q (.bl false) H3)
theorem pt_chain3 {X : Cx} {pos : Pos} {a b c d : Expr} {ta tb tc td : TE} {op op' op'' : CmpOp} {r r' r'' : R2} (ho : OpR X (compareOp op) r) (ho' : OpR X (compareOp op') r') (ho'' : OpR X (compareOp op'') r'') (ha : PE X a ta) (hb : PE X b tb) (hc : PE X c tc) (hd : PE X d td)
    (hm : lastMarks [op, op', op''] [b, c, d] = false := by with_unfolding_all rfl) : PT X (.Compare a [op, op', op''] [b, c, d] pos) (tTest (tChain3 r r' r'' ta tb tc td)) := by
  refine ⟨fun pins s0 σ H Q I h => isTrue_chain (thn (ha.run pins s0 σ H _ I h) fun v s1 ⟨x, H1, I1, r1, q1⟩ => test_link (thn (hb.run pins s1 σ H1 _ I1 q1) fun u s2 ⟨y, H2, I2, r2, q2⟩ => thn (ho pins s2 σ H2 x y v u _ I2 r1 r2 q2) fun dd s3 ⟨z, H3, I3, r3, k, e, q3⟩ => ?_)) hm⟩
  subst e
  cases r3
  refine wpAny_truthy_bool ?_
  cases k with
  | false =>
    obtain ⟨k', e', q'⟩ := q3
    cases e'
    exact ite_ff ⟨H3, I3, q'⟩
  | true =>
    refine ite_tt (test_link (thn (hc.run pins s3 σ H3 _ I3 q3) fun w' s4 ⟨z', H4, I4, r4, q4⟩ => thn (ho' pins s4 σ H4 y z' u w' _ I4 r2 r4 q4) fun d' s5 ⟨z2, H5, I5, r5, k2, e2, q5⟩ => ?_))
    subst e2
    cases r5
    refine wpAny_truthy_bool ?_
    cases k2 with
    | false =>
      obtain ⟨k', e', q'⟩ := q5
      cases e'
      exact ite_ff ⟨H5, I5, q'⟩
    | true =>
      refine ite_tt (test_last (thn (hd.run pins s5 σ H5 _ I5 q5) fun w2 s6 ⟨z3, H6, I6, r6, q6⟩ => thn (ho'' pins s6 σ H6 z' z3 w' w2 _ I6 r4 r6 q6) fun d2 s7 ⟨z4, H7, I7, r7, k3, e3, q7⟩ => ?_))
      subst e3
      cases r7
      exact wpAny_truthy_bool ⟨H7, I7, q7⟩
theorem z_chain3 {K : PySem.W.Frag} {σ : L2.St} {H : Hp} {Q : VK} {r r' r'' : R2} {ta tb tc td : TE} : tChain3 r r' r'' ta tb tc td σ H Q = ta σ H fun x H1 => tb σ H1 fun y H2 => r x y H2 fun z H3 => ∃ k, z = .bl k ∧ (if k = true then tc σ H3 fun u H4 => r' y u H4 fun z2 H5 => ∃ k2, z2 = .bl k2 ∧ (if k2 = true then td σ H5 fun v H6 => r'' u v H6 Q else Q (.bl false) H5) else Q (.bl false) H3) := rfl
/-! x in (a, b, ..): the tuple is forgotten at once -/
def tInT (neg : Bool) (ta : TE) (ts : TA) : TE := fun σ H Q => ta σ H fun x H1 => ts σ H1 fun xs H2 => xs.length ≤ sizeLine ∧ flatV x = true ∧ xs.all flatV = true ∧ Q (.bl (if neg then !inV x xs else inV x xs)) H2
theorem z_inT {neg : Bool} {ta : TE} {ts : TA} {σ : L2.St} {H : Hp} {Q : VK} : tInT neg ta ts σ H Q = ta σ H fun x H1 => ts σ H1 fun xs H2 => xs.length ≤ sizeLine ∧ flatV x = true ∧ xs.all flatV = true ∧ Q (.bl (if neg then !inV x xs else inV x xs)) H2 := rfl
theorem pe_inT {X : Cx} {a : Expr} {ta : TE} {es : List Expr} {ts : TA} {x1} {p pos : Pos} (ha : PE X a ta) (h : PA X es ts) (hm : behindInMarks .In (.Tuple es x1 p) = false) : PE X (.Compare a [.In] [.Tuple es x1 p] pos) (tInT false ta ts) := by
  refine ⟨fun pins s σ H Q I hq => ?_⟩
  refine wpAny_Compare1 (thn (ha.run pins s σ H _ I hq) fun v s1 ⟨x, H1, I1, r1, q1⟩ => wpAny_Tuple_spliced (thn (h.run p pins s1 σ H1 _ I1 q1) fun us s2 ⟨xs, H2, I2, r, z, fx, fs, q⟩ => ⟨by rw [← r.length]; exact z, ?_⟩)) hm
  have I3 : Inv X pins σ H2 { s2 with heap := s2.heap.push { cls := .type "tuple", data := .seq us.toArray } } := I2.kept (t' := s2.toks) fun b u e => Heap.get?_push_of_some _ e
  refine SeqAt.in_tupleAt (eqU x) ⟨_, Heap.get?_push_size _ rfl, rfl, _, rfl⟩ (fun w hw => mem_eqAt r1 fx r fs w (by simpa using hw)) ⟨.bl _, H2, I3, rfl, ?_⟩
  rw [show us.toArray.any (eqU x) = us.any (eqU x) by simp, any_eqU r fs]
  exact q
theorem pe_notInT {X : Cx} {a : Expr} {ta : TE} {es : List Expr} {ts : TA} {x1} {p pos : Pos} (ha : PE X a ta) (h : PA X es ts) (hm : behindInMarks .NotIn (.Tuple es x1 p) = false) : PE X (.Compare a [.NotIn] [.Tuple es x1 p] pos) (tInT true ta ts) := by
  refine ⟨fun pins s σ H Q I hq => ?_⟩
  refine wpAny_Compare1 (thn (ha.run pins s σ H _ I hq) fun v s1 ⟨x, H1, I1, r1, q1⟩ => wpAny_Tuple_spliced (thn (h.run p pins s1 σ H1 _ I1 q1) fun us s2 ⟨xs, H2, I2, r, z, fx, fs, q⟩ => ⟨by rw [← r.length]; exact z, ?_⟩)) hm
  have I3 : Inv X pins σ H2 { s2 with heap := s2.heap.push { cls := .type "tuple", data := .seq us.toArray } } := I2.kept (t' := s2.toks) fun b u e => Heap.get?_push_of_some _ e
  refine SeqAt.notIn_tupleAt (eqU x) ⟨_, Heap.get?_push_size _ rfl, rfl, _, rfl⟩ (fun w hw => mem_eqAt r1 fx r fs w (by simpa using hw)) ⟨.bl _, H2, I3, rfl, ?_⟩
  rw [show us.toArray.any (eqU x) = us.any (eqU x) by simp, any_eqU r fs]
  exact q
end L2.Z

namespace L2.Z
open PySem PySem.Spec PyProof.Rows
local macro_rules | `(tactic| walk_at "z") => `(tactic| (try simp only [↓z_var0, ↓z_varS, ↓z_C, ↓z_op, ↓z_un, ↓z_I0, ↓z_I, ↓z_U, ↓z_eqI, ↓z_neI, ↓z_bl, ↓z_test, ↓z_B, ↓z_and, ↓z_or, ↓z_not, ↓z_andV, ↓z_orV, ↓z_notV, ↓z_if, ↓z_ifS, ↓z_seq, ↓z_next, ↓z_ret, ↓z_retN, ↓z_asg, ↓z_gname, ↓z_drop, ↓z_nil, ↓z_cons, ↓z_call, ↓z_CB, ↓z_par, ↓z_pair, ↓z_aug0, ↓z_ipI, ↓z_abs, ↓z_max, ↓z_min, ↓z_int, ↓z_intB, ↓z_gcd, ↓z_tup, ↓z_lst, ↓z_chain, z_some, z_bl, z_pair, decide_eq_true_eq, Bool.not_eq_true', decide_eq_false_iff_not, List.set_cons_zero, List.set_cons_succ, List.getElem?_cons_zero, List.getElem?_cons_succ, Bool.false_eq_true, Bool.true_eq_false, if_true, if_false, ↓reduceIte, ↓z_isN, ↓z_gtup, ↓z_gcons, ↓z_gnil, ↓z_yes, ↓z_wipe0, ↓z_wipeS, ↓z_itup, ↓z_ilist, ↓z_irng1, ↓z_irng2, ↓z_lc, ↓z_lc2, ↓z_izip, ↓z_ient, ↓z_chain3, ↓z_inT, ↓z_par3, z_trip, ↓z_rg1, ↓z_rg2, z_ii, z_i1, ↓z_lstrg, ↓z_disp, ↓z_tp0, ↓z_tpS, ↓z_dnew, ↓z_din, ↓z_tru, ↓z_dget, ↓z_dget2, ↓z_dput, ↓z_cont, ↓z_sl, ↓z_part, ↓z_nopart, ↓z_strI, ↓z_gsub, ↓z_for, true_and, and_true, decide_true, decide_false, not_true_eq_false, not_false_eq_true, ↓z_bm, ↓z_bm0, ↓z_notN, z_dn1, z_dn2, z_dn3, z_dn4, z_dn5, Nat.zero_add, Nat.reduceAdd, Nat.reduceSub, List.replicate_succ, List.replicate_zero, start, List.map_cons, List.map_nil, List.length_cons, List.length_nil, List.cons_append, List.nil_append]))
def top (i : Nat) : Stmt := PySem.Challenge.pw_zeroorone_k06_whole_orders_and_makers.main.body.getD i (.Pass ⟨0, 0, 0, 0⟩)
abbrev s_is_int : Stmt := top 6
abbrev s_has_no_parts : Stmt := top 8
abbrev s_power_modulo : Stmt := top 9
abbrev s_integer_power : Stmt := top 10
abbrev s_prime_powers : Stmt := top 18
abbrev s_is_below : Stmt := top 7
abbrev s_check_between : Stmt := top 14
abbrev s_least_maker_by : Stmt := top 19
abbrev s_count_units : Stmt := top 20
abbrev s_check_integer : Stmt := top 13
abbrev s_is_prime : Stmt := top 17
abbrev s_units_number : Stmt := top 21
abbrev s_least_maker : Stmt := top 23
abbrev s_order_of : Stmt := top 22
abbrev s__law_dice : Stmt := top 25
abbrev s__law_roll : Stmt := top 26
abbrev s__law_gcd : Stmt := top 28
abbrev s__law_pr_times : Stmt := top 29
abbrev s__law_order : Stmt := top 30
abbrev s__law_pick : Stmt := top 27
abbrev s__law_order_of_power : Stmt := top 32
abbrev s__law_makers : Stmt := top 33
abbrev s__law_order_right : Stmt := top 31
abbrev s__law_maker_right : Stmt := top 34
abbrev s_law : Stmt := top 35
structure Tx (K : PySem.W.Frag) (mg : Str → Option Value) : Prop where
  f_is_int : ∃ fd, FunD K "is_int" "is_int" (defArgs s_is_int) (defBody s_is_int) (defScope s_is_int) [] [] (He.ga K "is_int") fd
  g_is_int : mg "is_int" = some (.ref (He.ga K "is_int"))
  f_has_no_parts : ∃ fd, FunD K "has_no_parts" "has_no_parts" (defArgs s_has_no_parts) (defBody s_has_no_parts) (defScope s_has_no_parts) [] [] (He.ga K "has_no_parts") fd
  g_has_no_parts : mg "has_no_parts" = some (.ref (He.ga K "has_no_parts"))
  f_power_modulo : ∃ fd, FunD K "power_modulo" "power_modulo" (defArgs s_power_modulo) (defBody s_power_modulo) (defScope s_power_modulo) [] [] (He.ga K "power_modulo") fd
  g_power_modulo : mg "power_modulo" = some (.ref (He.ga K "power_modulo"))
  f_integer_power : ∃ fd, FunD K "integer_power" "integer_power" (defArgs s_integer_power) (defBody s_integer_power) (defScope s_integer_power) [] [] (He.ga K "integer_power") fd
  g_integer_power : mg "integer_power" = some (.ref (He.ga K "integer_power"))
  f_prime_powers : ∃ fd, FunD K "prime_powers" "prime_powers" (defArgs s_prime_powers) (defBody s_prime_powers) (defScope s_prime_powers) [] [] (He.ga K "prime_powers") fd
  g_prime_powers : mg "prime_powers" = some (.ref (He.ga K "prime_powers"))
  f_is_below : ∃ fd, FunD K "is_below" "is_below" (defArgs s_is_below) (defBody s_is_below) (defScope s_is_below) [] [] (He.ga K "is_below") fd
  g_is_below : mg "is_below" = some (.ref (He.ga K "is_below"))
  f_check_between : ∃ fd, FunD K "check_between" "check_between" (defArgs s_check_between) (defBody s_check_between) (defScope s_check_between) [] [] (He.ga K "check_between") fd
  g_check_between : mg "check_between" = some (.ref (He.ga K "check_between"))
  f_least_maker_by : ∃ fd, FunD K "least_maker_by" "least_maker_by" (defArgs s_least_maker_by) (defBody s_least_maker_by) (defScope s_least_maker_by) [] [] (He.ga K "least_maker_by") fd
  g_least_maker_by : mg "least_maker_by" = some (.ref (He.ga K "least_maker_by"))
  f_count_units : ∃ fd, FunD K "count_units" "count_units" (defArgs s_count_units) (defBody s_count_units) (defScope s_count_units) [] [] (He.ga K "count_units") fd
  g_count_units : mg "count_units" = some (.ref (He.ga K "count_units"))
  f_check_integer : ∃ fd, FunD K "check_integer" "check_integer" (defArgs s_check_integer) (defBody s_check_integer) (defScope s_check_integer) [] [] (He.ga K "check_integer") fd
  g_check_integer : mg "check_integer" = some (.ref (He.ga K "check_integer"))
  f_is_prime : ∃ fd, FunD K "is_prime" "is_prime" (defArgs s_is_prime) (defBody s_is_prime) (defScope s_is_prime) [] [] (He.ga K "is_prime") fd
  g_is_prime : mg "is_prime" = some (.ref (He.ga K "is_prime"))
  f_units_number : ∃ fd, FunD K "units_number" "units_number" (defArgs s_units_number) (defBody s_units_number) (defScope s_units_number) [] [] (He.ga K "units_number") fd
  g_units_number : mg "units_number" = some (.ref (He.ga K "units_number"))
  f_least_maker : ∃ fd, FunD K "least_maker" "least_maker" (defArgs s_least_maker) (defBody s_least_maker) (defScope s_least_maker) [] [] (He.ga K "least_maker") fd
  g_least_maker : mg "least_maker" = some (.ref (He.ga K "least_maker"))
  f_order_of : ∃ fd, FunD K "order_of" "order_of" (defArgs s_order_of) (defBody s_order_of) (defScope s_order_of) [] [] (He.ga K "order_of") fd
  g_order_of : mg "order_of" = some (.ref (He.ga K "order_of"))
  f__law_dice : ∃ fd, FunD K "_law_dice" "_law_dice" (defArgs s__law_dice) (defBody s__law_dice) (defScope s__law_dice) [] [] (He.ga K "_law_dice") fd
  g__law_dice : mg "_law_dice" = some (.ref (He.ga K "_law_dice"))
  f__law_roll : ∃ fd, FunD K "_law_roll" "_law_roll" (defArgs s__law_roll) (defBody s__law_roll) (defScope s__law_roll) [] [] (He.ga K "_law_roll") fd
  g__law_roll : mg "_law_roll" = some (.ref (He.ga K "_law_roll"))
  f__law_gcd : ∃ fd, FunD K "_law_gcd" "_law_gcd" (defArgs s__law_gcd) (defBody s__law_gcd) (defScope s__law_gcd) [] [] (He.ga K "_law_gcd") fd
  g__law_gcd : mg "_law_gcd" = some (.ref (He.ga K "_law_gcd"))
  f__law_pr_times : ∃ fd, FunD K "_law_pr_times" "_law_pr_times" (defArgs s__law_pr_times) (defBody s__law_pr_times) (defScope s__law_pr_times) [] [] (He.ga K "_law_pr_times") fd
  g__law_pr_times : mg "_law_pr_times" = some (.ref (He.ga K "_law_pr_times"))
  f__law_order : ∃ fd, FunD K "_law_order" "_law_order" (defArgs s__law_order) (defBody s__law_order) (defScope s__law_order) [] [] (He.ga K "_law_order") fd
  g__law_order : mg "_law_order" = some (.ref (He.ga K "_law_order"))
  f__law_pick : ∃ fd, FunD K "_law_pick" "_law_pick" (defArgs s__law_pick) (defBody s__law_pick) (defScope s__law_pick) [] [] (He.ga K "_law_pick") fd
  g__law_pick : mg "_law_pick" = some (.ref (He.ga K "_law_pick"))
  f__law_order_of_power : ∃ fd, FunD K "_law_order_of_power" "_law_order_of_power" (defArgs s__law_order_of_power) (defBody s__law_order_of_power) (defScope s__law_order_of_power) [] [] (He.ga K "_law_order_of_power") fd
  g__law_order_of_power : mg "_law_order_of_power" = some (.ref (He.ga K "_law_order_of_power"))
  f__law_makers : ∃ fd, FunD K "_law_makers" "_law_makers" (defArgs s__law_makers) (defBody s__law_makers) (defScope s__law_makers) [] [] (He.ga K "_law_makers") fd
  g__law_makers : mg "_law_makers" = some (.ref (He.ga K "_law_makers"))
  f__law_order_right : ∃ fd, FunD K "_law_order_right" "_law_order_right" (defArgs s__law_order_right) (defBody s__law_order_right) (defScope s__law_order_right) [] [] (He.ga K "_law_order_right") fd
  g__law_order_right : mg "_law_order_right" = some (.ref (He.ga K "_law_order_right"))
  f__law_maker_right : ∃ fd, FunD K "_law_maker_right" "_law_maker_right" (defArgs s__law_maker_right) (defBody s__law_maker_right) (defScope s__law_maker_right) [] [] (He.ga K "_law_maker_right") fd
  g__law_maker_right : mg "_law_maker_right" = some (.ref (He.ga K "_law_maker_right"))
  f_law : ∃ fd, FunD K "law" "law" (defArgs s_law) (defBody s_law) (defScope s_law) [] [] (He.ga K "law") fd
  g_law : mg "law" = some (.ref (He.ga K "law"))
  c_SIXTY_DIGITS : ∃ t, mg "SIXTY_DIGITS" = some (.int 1000000000000000000000000000000000000000000000000000000000000 t)
  c_MOST : ∃ t, mg "MOST" = some (.int 100000000 t)
  n_abs : mg "abs" = none
  n_bool : mg "bool" = none
  n_int : mg "int" = none
  n_isinstance : mg "isinstance" = none
  n_len : mg "len" = none
  n_max : mg "max" = none
  n_min : mg "min" = none
  n_range : mg "range" = none
  n_tuple : mg "tuple" = none
  b_gcd : mg "gcd" = some (.builtin "math.gcd")
/-- all that was tracked but at d is as it was -/
def Keep (d : Addr) (H H' : Hp) : Prop := ∀ b o, b ≠ d → H b = some o → H' b = some o
theorem isi_int {K : PySem.W.Frag} {i : Int} {H : Hp} {Q : VK} (q : Q (.bl true) H) : rIsi K [.int i, .ty "int"] H Q :=
  ⟨_, _, _, _, _, rfl, .ty "int", .base (.int i), kit_ty (by decide +kernel), q⟩
theorem isi_intB {K : PySem.W.Frag} {i : Int} {H : Hp} {Q : VK} (q : Q (.bl false) H) : rIsi K [.int i, .ty "bool"] H Q :=
  ⟨_, _, _, _, _, rfl, .ty "bool", .base (.int i), kit_ty (by decide +kernel), q⟩
theorem mulS {i j : Int} (h : -(2 ^ 64) < i ∧ i < 2 ^ 64) : CMul i j ∨ CMulW i j := .inl (.inl h)
theorem mulR {i j : Int} (h : -(2 ^ 64) < j ∧ j < 2 ^ 64) : CMul i j ∨ CMulW i j := .inl (.inr h)
theorem divS {i j : Int} (h : 0 < j) (h2 : j < 2 ^ 64) : CDivW i j := wide_div (b := 64) h (by omega) (by decide) (by decide)
/-- d is the least divisor of n from 2 on -/
def Least (d n : Int) : Prop := 2 ≤ d ∧ d ∣ n ∧ ∀ k, 2 ≤ k → k < d → ¬ k ∣ n
theorem emod_small {a m : Int} (h0 : 0 ≤ a) (h1 : a < m) : a % m = a := Int.emod_eq_of_lt h0 h1
theorem emod_emod' (a m : Int) : a % m % m = a % m := Int.emod_emod_of_dvd a (Int.dvd_refl m)
theorem pow_emod (x m : Int) (k : Nat) : (x % m) ^ k % m = x ^ k % m := by
  induction k with
  | zero => rw [Int.pow_zero, Int.pow_zero]
  | succ k ih => rw [Int.pow_succ, Int.pow_succ, Int.mul_emod, ih, emod_emod', ← Int.mul_emod]
theorem pow_two_mul (b : Int) (e : Nat) : b ^ (2 * e) = (b * b) ^ e := by
  rw [Int.pow_mul, Int.pow_succ, Int.pow_succ, Int.pow_zero, Int.one_mul]
/-! heaps -/
theorem same_new {H H' : Hp} {p : Addr} {o : HO} (s : Same H H') (hn : H' p = none) : Same H (upd H' p o) := fun b u h => by
  rw [upd_ne (ne_of_none (s b u h) hn)]; exact s b u h
theorem same_mut {H H' : Hp} {p : Addr} {o : HO} (s : Same H H') (hn : H p = none) : Same H (upd H' p o) := fun b u h => by
  rw [upd_ne (ne_of_none h hn)]; exact s b u h
theorem same_upd {H : Hp} {p : Addr} {o : HO} (hn : H p = none) : Same H (upd H p o) := same_new (Same.refl H) hn
theorem sqT_of {K : PySem.W.Frag} {H : Hp} {a : Addr} {xs : List V} (h : H a = some (.tup xs)) : SqT K H a xs := .inl (.inl h)
theorem sqL_of {K : PySem.W.Frag} {H : Hp} {a : Addr} {xs : List V} (h : H a = some (.lst xs)) : SqL K H a xs := .inl (.inl h)
/-- references to pairs of numbers -/
def PR (H : Hp) : List V → List (Nat × Nat) → Prop := Paired fun v q => ∃ t, v = V.ref t ∧ H t = some (.tup [.int q.1, .int q.2])
theorem paired_map {α β : Type} {F G : α → β → Prop} : ∀ {l₁ : List α} {l₂ : List β}, Paired F l₁ l₂ → (∀ a b, F a b → G a b) → Paired G l₁ l₂
  | _, _, .nil, _ => .nil
  | _, _, .cons r t, f => .cons (f _ _ r) (paired_map t f)
theorem PR.mono {H H' : Hp} {xs : List V} {ps : List (Nat × Nat)} (r : PR H xs ps) (h : ∀ t ys, H t = some (.tup ys) → H' t = some (.tup ys)) : PR H' xs ps :=
  paired_map r fun _ _ ⟨t, e, q⟩ => ⟨t, e, h t _ q⟩
theorem PR.same {H H' : Hp} {xs : List V} {ps : List (Nat × Nat)} (r : PR H xs ps) (h : Same H H') : PR H' xs ps := r.mono fun t ys q => h t _ q
theorem PR.len {H : Hp} {xs : List V} {ps : List (Nat × Nat)} (r : PR H xs ps) : xs.length = ps.length := Paired.length r
theorem PR.get {H : Hp} : ∀ {xs : List V} {ps : List (Nat × Nat)}, PR H xs ps → ∀ {i : Nat} {x : V}, xs[i]? = some x → ∃ q t, ps[i]? = some q ∧ x = V.ref t ∧ H t = some (.tup [.int (q.1 : Int), .int (q.2 : Int)])
  | _, _, .nil, i, x, e => by simp at e
  | _, _, .cons (b := b) ⟨t, e1, h⟩ r, 0, x, e => by
    simp at e
    subst e
    exact ⟨b, t, rfl, e1, h⟩
  | _, _, .cons _ r, i + 1, x, e => by
    obtain ⟨q, t, h1, h2, h3⟩ := PR.get r (i := i) (x := x) (by simpa using e)
    exact ⟨q, t, by simpa using h1, h2, h3⟩
def PrimeI (n : Int) : Prop := 2 ≤ n ∧ ∀ k, 2 ≤ k → k < n → ¬ k ∣ n

theorem least_two {n : Int} (h : n % 2 = 0) : Least 2 n := ⟨by omega, by omega, fun k h1 h2 => by omega⟩
theorem least_self {n d : Int} (hn : 2 ≤ n) (h : ∀ k, 2 ≤ k → k < d → ¬ k ∣ n) (hd : n < d * d) (h0 : 2 ≤ d) : Least n n := by
  refine ⟨hn, Int.dvd_refl n, fun k h1 h2 h3 => ?_⟩
  obtain ⟨q, rfl⟩ := h3
  have hq : 2 ≤ q := by
    by_cases hq0 : q ≤ 0
    · have := Int.mul_le_mul_of_nonneg_left hq0 (show 0 ≤ k by omega)
      omega
    · by_cases hq1 : q = 1
      · subst hq1; omega
      · omega
  by_cases hk : k < d
  · exact h k h1 hk (Int.dvd_mul_right k q)
  · by_cases hqd : q < d
    · exact h q hq hqd (Int.dvd_mul_left k q)
    · have := Int.mul_le_mul (show d ≤ k by omega) (show d ≤ q by omega) (by omega) (by omega)
      omega
theorem in_twothree {n : Int} : inV (.int n) [.int 2, .int 3] = decide (n = 2 ∨ n = 3) := by
  rw [Bool.eq_iff_iff, decide_eq_true_eq]
  simp [inV, eqV]
  omega
theorem prime_two : PrimeI 2 := ⟨by decide, fun k h1 h2 => by omega⟩
theorem prime_three : PrimeI 3 := ⟨by decide, fun k h1 h2 => by
  obtain rfl : k = 2 := by omega
  decide⟩
def PrimeN (p : Nat) : Prop := 2 ≤ p ∧ ∀ k, 2 ≤ k → k < p → ¬ k ∣ p
def stripN : Nat → Nat → Nat → Nat → Nat × Nat
  | 0, _, l, o => (l, o)
  | f + 1, d, l, o => if l % d = 0 then stripN f d (l / d) (o + 1) else (l, o)
def endN (l : Nat) (acc : List (Nat × Nat)) : List (Nat × Nat) := if 1 < l then acc ++ [(l, 1)] else acc
def ppL : Nat → Nat → Nat → List (Nat × Nat) → List (Nat × Nat)
  | 0, _, l, acc => endN l acc
  | f + 1, d, l, acc => if d * d ≤ l then ppL f (if d = 2 then d + 1 else d + 2) (stripN l d l 0).1 (if 0 < (stripN l d l 0).2 then acc ++ [(d, (stripN l d l 0).2)] else acc) else endN l acc
def ppN (n : Nat) : List (Nat × Nat) := ppL n 2 n []
def cuN (ps : List (Nat × Nat)) : Nat := ps.foldl (fun m q => m * (q.1 - 1) * q.1 ^ (q.2 - 1)) 1
theorem stripN_mul : ∀ (f d l o : Nat), (stripN f d l o).1 * d ^ (stripN f d l o).2 = l * d ^ o
  | 0, _, _, _ => rfl
  | f + 1, d, l, o => by
    unfold stripN
    split
    · rename_i h
      rw [stripN_mul f d (l / d) (o + 1), Nat.pow_succ, ← Nat.mul_assoc, Nat.mul_right_comm, Nat.div_mul_cancel (Nat.dvd_of_mod_eq_zero h)]
    · rfl
theorem stripN_end : ∀ (f d l o : Nat), 2 ≤ d → 1 ≤ l → l ≤ f → ¬ d ∣ (stripN f d l o).1 ∧ 1 ≤ (stripN f d l o).1 ∧ (stripN f d l o).1 ≤ l
  | 0, _, l, _, _, h1, h2 => by omega
  | f + 1, d, l, o, hd, h1, h2 => by
    unfold stripN
    split
    · rename_i h
      have hdl : d ≤ l := Nat.le_of_dvd h1 (Nat.dvd_of_mod_eq_zero h)
      have h3 : l / d < l := Nat.div_lt_self h1 hd
      have h4 : 1 ≤ l / d := Nat.div_pos hdl (by omega)
      obtain ⟨a, b, c⟩ := stripN_end f d (l / d) (o + 1) hd h4 (by omega)
      exact ⟨a, b, by omega⟩
    · rename_i h
      exact ⟨fun x => h (Nat.mod_eq_zero_of_dvd x), h1, Nat.le_refl l⟩
/-! ### primes -/
theorem PrimeN.cop {p k : Nat} (hp : PrimeN p) (h : ¬ p ∣ k) : Nat.Coprime p k := by
  unfold Nat.Coprime
  have h1 : Nat.gcd p k ∣ p := Nat.gcd_dvd_left p k
  have h2 : Nat.gcd p k ≤ p := Nat.le_of_dvd (by have := hp.1; omega) h1
  have h3 : 0 < Nat.gcd p k := Nat.gcd_pos_of_pos_left k (by have := hp.1; omega)
  refine Classical.byContradiction fun e => ?_
  by_cases e2 : Nat.gcd p k = p
  · exact h (e2 ▸ Nat.gcd_dvd_right p k)
  · exact hp.2 _ (by omega) (by omega) h1
theorem PrimeN.dvd_mul {p a b : Nat} (hp : PrimeN p) (h : p ∣ a * b) : p ∣ a ∨ p ∣ b := by
  by_cases e : p ∣ a
  · exact .inl e
  · exact .inr (Nat.Coprime.dvd_of_dvd_mul_left (hp.cop e) h)
theorem PrimeN.dvd_pow {p a : Nat} (hp : PrimeN p) : ∀ {e : Nat}, p ∣ a ^ e → p ∣ a
  | 0, h => by
    have := Nat.le_of_dvd (by simp) h
    have := hp.1
    simp at *
    omega
  | e + 1, h => by
    rw [Nat.pow_succ] at h
    rcases hp.dvd_mul h with h | h
    · exact hp.dvd_pow h
    · exact h
theorem PrimeN.eq {p q : Nat} (hp : PrimeN p) (hq : PrimeN q) (h : p ∣ q) : p = q := by
  refine Classical.byContradiction fun e => hq.2 p hp.1 ?_ h
  have := Nat.le_of_dvd (by have := hq.1; omega) h
  omega
/-- each number above 1 has a prime divisor -/
theorem prime_dvd : ∀ (n : Nat), 2 ≤ n → ∃ p, PrimeN p ∧ p ∣ n := by
  intro n
  induction n using Nat.strongRecOn with
  | ind n ih =>
    intro hn
    by_cases h : PrimeN n
    · exact ⟨n, h, Nat.dvd_refl n⟩
    · have : ∃ k, 2 ≤ k ∧ k < n ∧ k ∣ n := Classical.byContradiction fun e => h ⟨hn, fun k h1 h2 h3 => e ⟨k, h1, h2, h3⟩⟩
      obtain ⟨k, h1, h2, h3⟩ := this
      obtain ⟨p, hp, hd⟩ := ih k h2 h1
      exact ⟨p, hp, Nat.dvd_trans hd h3⟩
def prodN (ps : List (Nat × Nat)) : Nat := ps.foldl (fun m q => m * q.1 ^ q.2) 1
theorem prodN_foldl (ps : List (Nat × Nat)) : ∀ a, ps.foldl (fun m q => m * q.1 ^ q.2) a = a * prodN ps := by
  unfold prodN
  induction ps with
  | nil => intro a; simp
  | cons x r ih => intro a; rw [List.foldl_cons, List.foldl_cons, ih, ih (1 * _), Nat.one_mul, Nat.mul_assoc]
theorem prodN_cons (x : Nat × Nat) (r : List (Nat × Nat)) : prodN (x :: r) = x.1 ^ x.2 * prodN r := by
  show r.foldl _ (1 * x.1 ^ x.2) = _
  rw [prodN_foldl, Nat.one_mul]
theorem prodN_snoc (r : List (Nat × Nat)) (x : Nat × Nat) : prodN (r ++ [x]) = prodN r * x.1 ^ x.2 := by
  unfold prodN
  rw [List.foldl_append]
  rfl
theorem prime_prod {p : Nat} (hp : PrimeN p) : ∀ {ps : List (Nat × Nat)}, (∀ q ∈ ps, PrimeN q.1) → p ∣ prodN ps → ∃ q ∈ ps, q.1 = p
  | [], _, h => by
    have := Nat.le_of_dvd (by decide) h
    have := hp.1
    simp [prodN] at *
    omega
  | x :: r, hq, h => by
    rw [prodN_cons] at h
    rcases hp.dvd_mul h with h | h
    · exact ⟨x, List.mem_cons_self, (hp.eq (hq x List.mem_cons_self) (hp.dvd_pow h)).symm⟩
    · obtain ⟨q, h1, h2⟩ := prime_prod hp (fun q h => hq q (List.mem_cons_of_mem _ h)) h
      exact ⟨q, List.mem_cons_of_mem _ h1, h2⟩
/-- the row of prime parts of n -/
structure Good (ps : List (Nat × Nat)) (n : Nat) : Prop where
  prod : prodN ps = n
  pr : ∀ q ∈ ps, PrimeN q.1 ∧ 1 ≤ q.2
  asc : ps.Pairwise fun a b => a.1 < b.1
theorem Good.all {ps : List (Nat × Nat)} {n p : Nat} (g : Good ps n) (hp : PrimeN p) (h : p ∣ n) : ∃ q ∈ ps, q.1 = p :=
  prime_prod hp (fun q hq => (g.pr q hq).1) (by rw [g.prod]; exact h)
theorem exact_of : ∀ {ps : List (Nat × Nat)}, (∀ q ∈ ps, PrimeN q.1 ∧ 1 ≤ q.2) → (ps.Pairwise fun a b => a.1 < b.1) → ∀ q ∈ ps, ∃ r, prodN ps = q.1 ^ q.2 * r ∧ ¬ q.1 ∣ r
  | [], _, _, q, h => by cases h
  | x :: t, hp, ha, q, h => by
    obtain ⟨h1, h2⟩ := List.pairwise_cons.mp ha
    rcases List.mem_cons.mp h with e | h
    · subst e
      refine ⟨prodN t, prodN_cons q t, fun hd => ?_⟩
      obtain ⟨y, hy, e⟩ := prime_prod (hp q List.mem_cons_self).1 (fun z hz => (hp z (List.mem_cons_of_mem _ hz)).1) hd
      have := h1 y hy
      omega
    · obtain ⟨r, e, hr⟩ := exact_of (fun z hz => hp z (List.mem_cons_of_mem _ hz)) h2 q h
      refine ⟨x.1 ^ x.2 * r, ?_, fun hd => ?_⟩
      · rw [prodN_cons, e, Nat.mul_left_comm]
      · have pq := (hp q (List.mem_cons_of_mem _ h)).1
        rcases pq.dvd_mul hd with hd | hd
        · have e2 := pq.eq (hp x List.mem_cons_self).1 (pq.dvd_pow hd)
          have := h1 q h
          omega
        · exact hr hd
theorem Good.exact {ps : List (Nat × Nat)} {n : Nat} (g : Good ps n) {q : Nat × Nat} (h : q ∈ ps) : ∃ r, n = q.1 ^ q.2 * r ∧ ¬ q.1 ∣ r := by
  obtain ⟨r, e, hr⟩ := exact_of g.pr g.asc q h
  exact ⟨r, by rw [← g.prod, e], hr⟩
theorem prime_end {d l : Nat} (h1 : 1 < l) (h2 : l < d * d) (h3 : ∀ k, 2 ≤ k → k < d → ¬ k ∣ l) : PrimeN l ∧ d ≤ l := by
  refine ⟨⟨h1, fun k hk hkl hd => ?_⟩, ?_⟩
  · obtain ⟨q, rfl⟩ := hd
    have hq : 2 ≤ q := by
      rcases q with _ | _ | q
      · simp at h1
      · simp at hkl
      · omega
    by_cases e : k < d
    · exact h3 k hk e (Nat.dvd_mul_right k q)
    · by_cases e2 : q < d
      · exact h3 q hq e2 (Nat.dvd_mul_left q k)
      · have := Nat.mul_le_mul (show d ≤ k by omega) (show d ≤ q by omega)
        omega
  · refine Classical.byContradiction fun e => h3 l h1 (by omega) (Nat.dvd_refl l)
theorem endN_good {d l n : Nat} {acc : List (Nat × Nat)} (hl : 1 ≤ l) (h2 : l < d * d) (h3 : ∀ k, 2 ≤ k → k < d → ¬ k ∣ l) (hp : prodN acc * l = n) (ha : ∀ q ∈ acc, PrimeN q.1 ∧ 1 ≤ q.2 ∧ q.1 < d) (hs : acc.Pairwise fun a b => a.1 < b.1) : Good (endN l acc) n := by
  unfold endN
  by_cases h1 : 1 < l
  · rw [if_pos h1]
    obtain ⟨pl, hdl⟩ := prime_end h1 h2 h3
    refine ⟨by rw [prodN_snoc]; simpa using hp, fun q hq => ?_, ?_⟩
    · rcases List.mem_append.mp hq with h | h
      · exact ⟨(ha q h).1, (ha q h).2.1⟩
      · obtain rfl : q = (l, 1) := by simpa using h
        exact ⟨pl, Nat.le_refl 1⟩
    · rw [List.pairwise_append]
      refine ⟨hs, by simp, fun a h b hb => ?_⟩
      obtain rfl : b = (l, 1) := by simpa using hb
      have := (ha a h).2.2
      show a.1 < l
      omega
  · rw [if_neg h1]
    obtain rfl : l = 1 := by omega
    exact ⟨by simpa using hp, fun q hq => ⟨(ha q hq).1, (ha q hq).2.1⟩, hs⟩
theorem ppL_good : ∀ (f d l n : Nat) (acc : List (Nat × Nat)), 2 ≤ d → (d = 2 ∨ d % 2 = 1) → 1 ≤ l → l + 2 ≤ f + d → (∀ k, 2 ≤ k → k < d → ¬ k ∣ l) → prodN acc * l = n → (∀ q ∈ acc, PrimeN q.1 ∧ 1 ≤ q.2 ∧ q.1 < d) → (acc.Pairwise fun a b => a.1 < b.1) → Good (ppL f d l acc) n
  | 0, d, l, n, acc, hd, _, hl, hf, hk, hp, ha, hs => by
    have : d ≤ d * d := Nat.le_mul_of_pos_right d (by omega)
    exact endN_good hl (by omega) hk hp ha hs
  | f + 1, d, l, n, acc, hd, ho, hl, hf, hk, hp, ha, hs => by
    unfold ppL
    by_cases h : d * d ≤ l
    · rw [if_pos h]
      have hm := stripN_mul l d l 0
      obtain ⟨e1, e2, e3⟩ := stripN_end l d l 0 hd hl (Nat.le_refl l)
      revert hm e1 e2 e3
      generalize stripN l d l 0 = z
      obtain ⟨l', e⟩ := z
      intro hm e1 e2 e3
      simp only [Nat.pow_zero, Nat.mul_one] at hm
      dsimp only at e1 e2 e3
      have hdvd : l' ∣ l := ⟨d ^ e, hm.symm⟩
      have nok : ∀ k, 2 ≤ k → k < (if d = 2 then d + 1 else d + 2) → ¬ k ∣ l' := fun k h1 h2 h3 => by
        by_cases c1 : k < d
        · exact hk k h1 c1 (Nat.dvd_trans h3 hdvd)
        · by_cases c2 : k = d
          · exact e1 (c2 ▸ h3)
          · split at h2
            · omega
            · obtain rfl : k = d + 1 := by omega
              refine hk 2 (Nat.le_refl 2) (by omega) (Nat.dvd_trans (Nat.dvd_trans ?_ h3) hdvd)
              exact ⟨(d + 1) / 2, by omega⟩
      have par : (if d = 2 then d + 1 else d + 2) = 2 ∨ (if d = 2 then d + 1 else d + 2) % 2 = 1 := by split <;> omega
      have big : d + 1 ≤ if d = 2 then d + 1 else d + 2 := by split <;> omega
      by_cases he : 0 < e
      · show Good (ppL f _ l' (if 0 < e then acc ++ [(d, e)] else acc)) n
        rw [if_pos he]
        have hdl : d ∣ l := by
          obtain ⟨e', rfl⟩ : ∃ e', e = e' + 1 := ⟨e - 1, by omega⟩
          exact ⟨l' * d ^ e', by rw [← hm, Nat.pow_succ, Nat.mul_comm d, Nat.mul_assoc]⟩
        have pd : PrimeN d := ⟨hd, fun k h1 h2 h3 => hk k h1 h2 (Nat.dvd_trans h3 hdl)⟩
        refine ppL_good f _ l' n _ (by omega) par e2 (by omega) nok ?_ (fun q hq => ?_) ?_
        · rw [prodN_snoc, ← hp, ← hm, Nat.mul_assoc, Nat.mul_comm (d ^ e)]
        · rcases List.mem_append.mp hq with h | h
          · obtain ⟨a, b, c⟩ := ha q h
            exact ⟨a, b, by omega⟩
          · obtain rfl : q = (d, e) := by simpa using h
            exact ⟨pd, he, by omega⟩
        · rw [List.pairwise_append]
          refine ⟨hs, by simp, fun a h b hb => ?_⟩
          obtain rfl : b = (d, e) := by simpa using hb
          exact (ha a h).2.2
      · show Good (ppL f _ l' (if 0 < e then acc ++ [(d, e)] else acc)) n
        rw [if_neg he]
        obtain rfl : e = 0 := by omega
        refine ppL_good f _ l' n _ (by omega) par e2 (by omega) nok ?_ (fun q hq => ?_) hs
        · rw [← hp, ← hm]; simp
        · obtain ⟨a, b, c⟩ := ha q hq
          exact ⟨a, b, by omega⟩
    · rw [if_neg h]
      exact endN_good hl (by omega) hk hp ha hs
theorem ppN_good {n : Nat} (hn : 1 ≤ n) : Good (ppN n) n :=
  ppL_good n 2 n n [] (Nat.le_refl 2) (.inl rfl) hn (Nat.le_refl _) (fun k h1 h2 => by omega) (by simp [prodN]) (by simp) List.Pairwise.nil
theorem Good.le {ps : List (Nat × Nat)} {n : Nat} (hn : 1 ≤ n) (g : Good ps n) {q : Nat × Nat} (h : q ∈ ps) : q.1 ^ q.2 ≤ n ∧ q.1 ≤ n ∧ q.1 ^ (q.2 - 1) ≤ n := by
  obtain ⟨r, e, _⟩ := g.exact h
  obtain ⟨pq, he⟩ := g.pr q h
  have h1 : q.1 ^ q.2 ≤ n := Nat.le_of_dvd hn ⟨r, e⟩
  refine ⟨h1, Nat.le_trans ?_ h1, Nat.le_trans (Nat.pow_le_pow_right (by have := pq.1; omega) (by omega)) h1⟩
  calc q.1 = q.1 ^ 1 := by simp
    _ ≤ q.1 ^ q.2 := Nat.pow_le_pow_right (by have := pq.1; omega) he
theorem cuN_foldl (ps : List (Nat × Nat)) : ∀ a, ps.foldl (fun m q => m * (q.1 - 1) * q.1 ^ (q.2 - 1)) a = a * cuN ps := by
  unfold cuN
  induction ps with
  | nil => intro a; simp
  | cons x r ih => intro a; rw [List.foldl_cons, List.foldl_cons, ih, ih (1 * _ * _), Nat.one_mul, Nat.mul_assoc, Nat.mul_assoc, Nat.mul_assoc]
theorem cuN_cons (x : Nat × Nat) (r : List (Nat × Nat)) : cuN (x :: r) = (x.1 - 1) * x.1 ^ (x.2 - 1) * cuN r := by
  show r.foldl _ (1 * (x.1 - 1) * x.1 ^ (x.2 - 1)) = _
  rw [cuN_foldl, Nat.one_mul]
theorem cuN_bounds : ∀ {ps : List (Nat × Nat)}, (∀ q ∈ ps, PrimeN q.1 ∧ 1 ≤ q.2) → 1 ≤ cuN ps ∧ cuN ps ≤ prodN ps
  | [], _ => ⟨Nat.le_refl 1, Nat.le_refl 1⟩
  | x :: r, h => by
    obtain ⟨a, b⟩ := cuN_bounds fun q hq => h q (List.mem_cons_of_mem _ hq)
    obtain ⟨p, e⟩ := h x List.mem_cons_self
    have p2 := p.1
    rw [cuN_cons, prodN_cons]
    have h1 : 1 ≤ x.1 ^ (x.2 - 1) := Nat.pos_of_ne_zero (by
      intro z
      have := Nat.pow_pos (n := x.2 - 1) (show 0 < x.1 by omega)
      omega)
    have h2 : x.1 ^ x.2 = x.1 * x.1 ^ (x.2 - 1) := by
      obtain ⟨k, hk⟩ : ∃ k, x.2 = k + 1 := ⟨x.2 - 1, by omega⟩
      rw [hk, Nat.pow_succ, Nat.mul_comm]
      rfl
    refine ⟨Nat.mul_pos (Nat.mul_pos (by omega) h1) a, ?_⟩
    rw [h2]
    exact Nat.mul_le_mul (Nat.mul_le_mul (by omega) (Nat.le_refl _)) b
theorem len_le : ∀ {ps : List (Nat × Nat)}, (∀ q ∈ ps, PrimeN q.1 ∧ 1 ≤ q.2) → 2 ^ ps.length ≤ prodN ps
  | [], _ => Nat.le_refl 1
  | x :: r, h => by
    have ih := len_le fun q hq => h q (List.mem_cons_of_mem _ hq)
    obtain ⟨p, e⟩ := h x List.mem_cons_self
    have p2 := p.1
    rw [prodN_cons, List.length_cons, Nat.pow_succ, Nat.mul_comm]
    refine Nat.mul_le_mul ?_ ih
    calc 2 ≤ x.1 ^ 1 := by simpa using p2
      _ ≤ x.1 ^ x.2 := Nat.pow_le_pow_right (by omega) e

/-! ### orders -/
def IsOrd (m n : Int) (k : Nat) : Prop := 1 ≤ k ∧ n ^ k % m = 1 % m ∧ ∀ j, 1 ≤ j → j < k → n ^ j % m ≠ 1 % m
theorem one_mul_mod {m x : Int} (h : x % m = 1 % m) (y : Int) : x * y % m = y % m := by
  rw [Int.mul_emod, h, ← Int.mul_emod, Int.one_mul]
theorem pow_mul_one {m n : Int} {k : Nat} (h : n ^ k % m = 1 % m) : ∀ q, n ^ (k * q) % m = 1 % m
  | 0 => by simp
  | q + 1 => by rw [Nat.mul_succ, Int.pow_add, Int.mul_comm, one_mul_mod h, pow_mul_one h q]
theorem IsOrd.dvd {m n : Int} {k : Nat} (h : IsOrd m n k) {j : Nat} : n ^ j % m = 1 % m ↔ k ∣ j := by
  constructor
  · intro e
    have e2 : j = k * (j / k) + j % k := (Nat.div_add_mod j k).symm
    rw [e2, Int.pow_add, one_mul_mod (pow_mul_one h.2.1 _)] at e
    by_cases z : j % k = 0
    · exact Nat.dvd_of_mod_eq_zero z
    · exact absurd e (h.2.2 _ (by omega) (Nat.mod_lt _ h.1))
  · rintro ⟨q, rfl⟩
    exact pow_mul_one h.2.1 q
theorem ord_ex {m n : Int} {N : Nat} (h1 : 1 ≤ N) (h : n ^ N % m = 1 % m) : ∃ k, IsOrd m n k := by
  induction N using Nat.strongRecOn with
  | ind N ih =>
    by_cases e : ∃ j, 1 ≤ j ∧ j < N ∧ n ^ j % m = 1 % m
    · obtain ⟨j, a, b, c⟩ := e
      exact ih j b a c
    · exact ⟨N, h1, h, fun j a b c => e ⟨j, a, b, c⟩⟩
theorem IsOrd.inj {m n : Int} {k j : Nat} (a : IsOrd m n k) (b : IsOrd m n j) : k = j :=
  Nat.dvd_antisymm (a.dvd.mp b.2.1) (b.dvd.mp a.2.1)
theorem IsOrd.mod {m n n' : Int} {k : Nat} (a : IsOrd m n k) (e : n % m = n' % m) : IsOrd m n' k := by
  have h : ∀ j, n' ^ j % m = n ^ j % m := fun j => by rw [← pow_emod, ← e, pow_emod]
  exact ⟨a.1, by rw [h]; exact a.2.1, fun j x y => by rw [h]; exact a.2.2 j x y⟩
/-- the order of a power -/
theorem IsOrd.pow {m n : Int} {k t : Nat} (a : IsOrd m n k) (ht : 1 ≤ t) : IsOrd m (n ^ t) (k / Nat.gcd k t) := by
  have hg : 0 < Nat.gcd k t := Nat.gcd_pos_of_pos_left t a.1
  have hc : Nat.Coprime (k / Nat.gcd k t) (t / Nat.gcd k t) := Nat.coprime_div_gcd_div_gcd hg
  have e1 : k = Nat.gcd k t * (k / Nat.gcd k t) := (Nat.mul_div_cancel' (Nat.gcd_dvd_left k t)).symm
  have e2 : t = Nat.gcd k t * (t / Nat.gcd k t) := (Nat.mul_div_cancel' (Nat.gcd_dvd_right k t)).symm
  revert hg hc e1 e2
  generalize k / Nat.gcd k t = x
  generalize t / Nat.gcd k t = y
  generalize Nat.gcd k t = g
  intro hg hc e1 e2
  have key : ∀ j, (n ^ t) ^ j % m = 1 % m ↔ x ∣ j := fun j => by
    rw [← Int.pow_mul, a.dvd, e1, e2, Nat.mul_assoc]
    constructor
    · intro h
      exact Nat.Coprime.dvd_of_dvd_mul_left hc (Nat.dvd_of_mul_dvd_mul_left hg h)
    · rintro ⟨z, rfl⟩
      exact ⟨y * z, by rw [Nat.mul_assoc, Nat.mul_left_comm y x z]⟩
  have h1 : 1 ≤ x := Nat.pos_of_ne_zero fun z => by rw [z, Nat.mul_zero] at e1; have := a.1; omega
  refine ⟨h1, (key _).mpr (Nat.dvd_refl _), fun j u v e => ?_⟩
  have := Nat.le_of_dvd u ((key j).mp e)
  omega
theorem dvd_div_of_mul {a b c : Nat} (hb : 0 < b) (h : a * b ∣ c) : a ∣ c / b := by
  obtain ⟨z, rfl⟩ := h
  exact ⟨z, by rw [show a * b * z = b * (a * z) by simp only [Nat.mul_assoc, Nat.mul_left_comm, Nat.mul_comm], Nat.mul_div_cancel_left _ hb]⟩
/-- the steps of order_of: what holds ahead of the i-th prime -/
structure OrdInv (m n : Int) (N k : Nat) (ps : List (Nat × Nat)) (i o : Nat) : Prop where
  pos : 1 ≤ o
  ko : k ∣ o
  oN : o ∣ N
  old : ∀ j q, j < i → ps[j]? = some q → ¬ q.1 * k ∣ o
  new : ∀ j q, i ≤ j → ps[j]? = some q → q.1 ^ q.2 ∣ o
/-- .. and within the turns for one prime -/
def OrdIn (m n : Int) (q : Nat × Nat) (o0 t o : Nat) : Prop := ∃ s, s ≤ t ∧ o0 = o * q.1 ^ s ∧ (s = t ∨ (q.1 ∣ o ∧ n ^ (o / q.1) % m ≠ 1 % m))
theorem OrdIn.dvd {m n : Int} {q : Nat × Nat} {o0 t o : Nat} (h : OrdIn m n q o0 t o) (ht : t < q.2) (hq : 2 ≤ q.1) (hd : q.1 ^ q.2 ∣ o0) : q.1 ∣ o := by
  obtain ⟨s, hs, e, h⟩ := h
  rcases h with h | h
  · subst h
    rw [e] at hd
    have h1 : q.1 ^ q.2 = q.1 ^ (q.2 - s) * q.1 ^ s := by rw [← Nat.pow_add]; congr 1; omega
    rw [h1] at hd
    have h2 := Nat.dvd_of_mul_dvd_mul_right (Nat.pow_pos (by omega)) hd
    refine Nat.dvd_trans ?_ h2
    exact ⟨q.1 ^ (q.2 - s - 1), by rw [Nat.mul_comm, ← Nat.pow_succ]; congr 1; omega⟩
  · exact h.1
theorem OrdIn.step1 {m n : Int} {q : Nat × Nat} {o0 t o : Nat} (h : OrdIn m n q o0 t o) (hd : q.1 ∣ o) (hp : n ^ (o / q.1) % m = 1 % m) : OrdIn m n q o0 (t + 1) (o / q.1) := by
  obtain ⟨s, hs, e, h⟩ := h
  rcases h with h | h
  · subst h
    exact ⟨s + 1, Nat.le_refl _, by rw [e, Nat.pow_succ, Nat.mul_comm (q.1 ^ s), ← Nat.mul_assoc, Nat.div_mul_cancel hd], .inl rfl⟩
  · exact absurd hp h.2
theorem OrdIn.step2 {m n : Int} {q : Nat × Nat} {o0 t o : Nat} (h : OrdIn m n q o0 t o) (hd : q.1 ∣ o) (hp : n ^ (o / q.1) % m ≠ 1 % m) : OrdIn m n q o0 (t + 1) o := by
  obtain ⟨s, hs, e, h⟩ := h
  exact ⟨s, by omega, e, .inr ⟨hd, hp⟩⟩
theorem OrdInv.next {m n : Int} {N k : Nat} {ps : List (Nat × Nat)} {i o0 o : Nat} {q : Nat × Nat} (hN : 1 ≤ N) (g : Good ps N) (hk : IsOrd m n k) (I : OrdInv m n N k ps i o0) (hi : ps[i]? = some q) (h : OrdIn m n q o0 q.2 o) (ko : k ∣ o) : OrdInv m n N k ps (i + 1) o := by
  obtain ⟨s, hs, e, h⟩ := h
  have pq := (g.pr q (List.mem_of_getElem? hi)).1
  have hoo : o ∣ o0 := ⟨q.1 ^ s, e⟩
  have op : 1 ≤ o := Nat.pos_of_ne_zero fun z => by rw [z, Nat.zero_mul] at e; have := I.pos; omega
  refine ⟨op, ko, Nat.dvd_trans hoo I.oN, fun j q' hj hq' hd => ?_, fun j q' hj hq' => ?_⟩
  · by_cases c : j < i
    · exact I.old j q' c hq' (Nat.dvd_trans hd hoo)
    · obtain rfl : j = i := by omega
      rw [hi] at hq'
      cases hq'
      rcases h with h | h
      · subst h
        obtain ⟨r, er, hr⟩ := g.exact (List.mem_of_getElem? hi)
        have h1 : q.1 ∣ o := Nat.dvd_trans (Nat.dvd_mul_right _ _) hd
        have h2 : o * q.1 ^ q.2 ∣ q.1 ^ q.2 * r := by rw [← e, ← er]; exact I.oN
        rw [Nat.mul_comm] at h2
        exact hr (Nat.dvd_trans h1 (Nat.dvd_of_mul_dvd_mul_left (Nat.pow_pos (by have := pq.1; omega)) h2))
      · refine h.2 (hk.dvd.mpr ?_)
        rw [Nat.mul_comm] at hd
        exact dvd_div_of_mul (by have := pq.1; omega) hd
  · have h1 := I.new j q' (by omega) hq'
    rw [e] at h1
    have pq' := (g.pr q' (List.mem_of_getElem? hq')).1
    have ne : q.1 < q'.1 := by
      obtain ⟨a1, a2⟩ := List.getElem?_eq_some_iff.mp hi
      obtain ⟨b1, b2⟩ := List.getElem?_eq_some_iff.mp hq'
      have := List.pairwise_iff_getElem.mp g.asc i j a1 b1 (by omega)
      rw [a2, b2] at this
      exact this
    have cop : Nat.Coprime (q'.1 ^ q'.2) (q.1 ^ s) := Nat.Coprime.pow_left _ (Nat.Coprime.pow_right _ (pq'.cop fun d => by
      have := pq'.eq pq d
      omega))
    exact Nat.Coprime.dvd_of_dvd_mul_right cop h1
theorem OrdInv.start {m n : Int} {N k : Nat} {ps : List (Nat × Nat)} (hN : 1 ≤ N) (g : Good ps N) (hk : IsOrd m n k) (h : n ^ N % m = 1 % m) : OrdInv m n N k ps 0 N :=
  ⟨hN, hk.dvd.mp h, Nat.dvd_refl N, fun j q hj => by omega, fun j q _ hq => by
    obtain ⟨r, e, _⟩ := g.exact (List.mem_of_getElem? hq)
    exact ⟨r, e⟩⟩
theorem OrdInv.end {m n : Int} {N k : Nat} {ps : List (Nat × Nat)} {o : Nat} (hN : 1 ≤ N) (g : Good ps N) (hk : IsOrd m n k) (I : OrdInv m n N k ps ps.length o) : o = k := by
  obtain ⟨z, e⟩ := I.ko
  have hz : z = 1 := by
    refine Classical.byContradiction fun c => ?_
    have z0 : z ≠ 0 := fun q => by rw [q, Nat.mul_zero] at e; have := I.pos; omega
    obtain ⟨p, hp, hd⟩ := prime_dvd z (by omega)
    have hpN : p ∣ N := Nat.dvd_trans (Nat.dvd_trans hd ⟨k, by rw [e, Nat.mul_comm]⟩) I.oN
    obtain ⟨q, hq, rfl⟩ := g.all hp hpN
    obtain ⟨j, hj, ej⟩ := List.getElem_of_mem hq
    refine I.old j q hj (by rw [List.getElem?_eq_getElem hj, ej]) ?_
    obtain ⟨y, rfl⟩ := hd
    exact ⟨y, by rw [e, Nat.mul_comm q.1 k, Nat.mul_assoc]⟩
  rw [e, hz, Nat.mul_one]
/-! a number without a common divisor, to as many as the number of units, for small moduli: primes tried one by one -/
def smallP : List Nat := [2, 3, 5, 7, 11, 13, 17, 19, 23, 29, 31, 37, 41, 43, 47, 53, 59, 61, 67, 71, 73, 79, 83, 89, 97, 101, 103, 107, 109, 113, 127, 131, 137, 139, 149, 151, 157, 163, 167, 173, 179, 181, 191, 193, 197, 199, 211, 223, 227, 229, 233, 239, 241, 251, 257, 263, 269, 271, 277, 281, 283, 293, 307, 311, 313, 317, 331, 337, 347, 349, 353, 359, 367, 373, 379, 383, 389, 397, 401, 409, 419, 421, 431, 433, 439, 443, 449, 457, 461, 463, 467, 479, 487, 491, 499, 503, 509, 521, 523, 541, 547, 557, 563, 569, 571, 577, 587, 593, 599, 601, 607, 613, 617, 619, 631, 641, 643, 647, 653, 659, 661, 673, 677, 683, 691]
def smallPB : Bool := (List.range 700).all fun p => Nat.blt p 2 || smallP.contains p || (List.range 26).any fun k => (k + 2) < p && p % (k + 2) == 0
theorem smallPB_ok : smallPB = true := by decide +kernel
theorem smallP_mem {p : Nat} (hp : PrimeN p) (h : p < 700) : p ∈ smallP := by
  have h2 := List.all_eq_true.mp (show (List.range 700).all _ = true from smallPB_ok) p (List.mem_range.mpr h)
  simp only [Bool.or_eq_true] at h2
  rcases h2 with (h2 | h2) | h2
  · have h3 : p < 2 := Nat.blt_eq.mp h2
    have := hp.1
    omega
  · exact List.contains_iff_mem.mp h2
  · obtain ⟨k, _, hk⟩ := List.any_eq_true.mp h2
    simp only [Bool.and_eq_true, decide_eq_true_eq, beq_iff_eq] at hk
    exact absurd (Nat.dvd_of_mod_eq_zero hk.2) (hp.2 _ (by omega) hk.1)
def eulerB : Bool := (List.range 701).all fun m => m == 0 || (let N := cuN (ppN m); smallP.all fun p => Nat.ble m p || m % p == 0 || p ^ N % m == 1 % m)
theorem euler_ok : eulerB = true := by decide +kernel
theorem euler_nat {m : Nat} (h1 : 1 ≤ m) (h2 : m ≤ 700) : ∀ a, a < m → Nat.gcd a m = 1 → a ^ (cuN (ppN m)) % m = 1 % m := by
  intro a
  induction a using Nat.strongRecOn with
  | ind a ih =>
    intro ha hg
    have hN := (cuN_bounds (ppN_good h1).pr).1
    by_cases a0 : a = 0
    · subst a0
      rw [Nat.gcd_zero_left] at hg
      subst hg
      rw [Nat.mod_one, Nat.mod_one]
    by_cases a1 : a = 1
    · subst a1; rw [Nat.one_pow]
    obtain ⟨p, hp, hd⟩ := prime_dvd a (by omega)
    obtain ⟨b, rfl⟩ := hd
    have p2 := hp.1
    have hb : b ≠ 0 := fun z => by simp [z] at a0
    have hpa : p ≤ p * b := Nat.le_mul_of_pos_right p (by omega)
    have hba : b < p * b := by
      have := Nat.mul_le_mul_right b p2
      omega
    have gp : Nat.gcd p m = 1 := Nat.dvd_one.mp (hg ▸ Nat.dvd_gcd (Nat.dvd_trans (Nat.gcd_dvd_left p m) (Nat.dvd_mul_right p b)) (Nat.gcd_dvd_right p m))
    have gb : Nat.gcd b m = 1 := Nat.dvd_one.mp (hg ▸ Nat.dvd_gcd (Nat.dvd_trans (Nat.gcd_dvd_left b m) (Nat.dvd_mul_left b p)) (Nat.gcd_dvd_right b m))
    have hpm : p ^ (cuN (ppN m)) % m = 1 % m := by
      have h := List.all_eq_true.mp (show (List.range 701).all _ = true from euler_ok) m (List.mem_range.mpr (by omega))
      simp only [Bool.or_eq_true, beq_iff_eq, show ¬ m = 0 by omega, false_or] at h
      have h4 := List.all_eq_true.mp h p (smallP_mem hp (by omega))
      simp only [Bool.or_eq_true, beq_iff_eq] at h4
      rcases h4 with (h4 | h4) | h4
      · have := Nat.ble_eq.mp h4; omega
      · have h5 : p ∣ m := Nat.dvd_of_mod_eq_zero h4
        have h6 := Nat.dvd_gcd (Nat.dvd_refl p) h5
        rw [gp] at h6
        have := Nat.dvd_one.mp h6
        omega
      · exact h4
    have hbm := ih b hba (by omega) gb
    rw [Nat.mul_pow, Nat.mul_mod, hpm, hbm, ← Nat.mul_mod]
theorem euler_small {m : Nat} {n : Int} (h1 : 1 ≤ m) (h2 : m ≤ 700) (hg : Nat.gcd m n.natAbs = 1) : n ^ (cuN (ppN m)) % (m : Int) = 1 % (m : Int) := by
  have hm : (0 : Int) < m := by omega
  obtain ⟨a, ha⟩ : ∃ a : Nat, n % (m : Int) = a := ⟨(n % (m : Int)).toNat, by have := Int.emod_nonneg n (show (m : Int) ≠ 0 by omega); omega⟩
  have ha2 : a < m := by have := Int.emod_lt_of_pos n hm; omega
  have hga : Nat.gcd a m = 1 := by
    have d1 : Nat.gcd a m ∣ m := Nat.gcd_dvd_right a m
    have d2 : Nat.gcd a m ∣ n.natAbs := by
      have e : n = (m : Int) * (n / (m : Int)) + (a : Int) := by rw [← ha]; exact (Int.mul_ediv_add_emod n (m : Int)).symm
      have h : ((Nat.gcd a m : Nat) : Int) ∣ n := by
        rw [e]
        exact Int.dvd_add (Int.dvd_mul_of_dvd_left (Int.natCast_dvd_natCast.mpr d1)) (Int.natCast_dvd_natCast.mpr (Nat.gcd_dvd_left a m))
      have h9 := Int.natAbs_dvd_natAbs.mpr h
      rw [Int.natAbs_natCast] at h9
      exact h9
    have := Nat.dvd_gcd d1 d2
    rw [hg] at this
    exact Nat.dvd_one.mp this
  have h4 := euler_nat h1 h2 a ha2 hga
  rw [← pow_emod, ha, ← Int.natCast_pow, ← Int.natCast_emod, h4]
  rw [Int.natCast_emod]
  rfl

/-! ### is_int -/
theorem sc_is_int : FnScope ["value"] ["value"] (defScope s_is_int) := ⟨rfl, rfl, rfl, by decide +kernel, rfl, by decide +kernel, by decide +kernel⟩
def sp_is_int (K : PySem.W.Frag) : Sp := fun vs H Q _ => ∃ i : Int, vs = [.int i] ∧ Q (.bl true) H
theorem len_is_int {K : PySem.W.Frag} {vs : List V} {H : Hp} {Q : VK} {E : XK} (h : sp_is_int K vs H Q E) : vs.length = ["value"].length := by
  obtain ⟨_, rfl, _⟩ := h
  rfl
def t_is_int (K : PySem.W.Frag) : TS := (tRet (tAndV (tCB (rIsi K) (tCons (tVar 0) (tCons (tC (.ty "int")) tNil))) (tNotV (tCB (rIsi K) (tCons (tVar 0) (tCons (tC (.ty "bool")) tNil))))))
theorem pure_is_int (K : PySem.W.Frag) (vs : List V) (H : Hp) (Q : VK) (E : XK) (h : sp_is_int K vs H Q E) : t_is_int K { nx := fun _ H' => Q .non H', rt := Q } (start ["value"] vs) H := by
  obtain ⟨i, rfl, hq⟩ := h
  unfold t_is_int
  walk_at "z"
  refine isi_int ?_
  walk_at "z"
  refine isi_intB ?_
  walk_at "z"
  exact hq
theorem ok_is_int {P : Program} {w : World} {K : PySem.W.Frag} {mg : Str → Option Value} {base : Heap} (T : Tx K mg) : Okk P w K mg base 1 "is_int" ["value"] (sp_is_int K) := by
  have hf_bool := T.n_bool
  have hf_int := T.n_int
  have hf_isinstance := T.n_isinstance
  obtain ⟨fd, F⟩ := T.f_is_int
  refine ⟨fd, F.ok sc_is_int (fun vs H Q E h => len_is_int h) (fun cdv A outer s H vs Q E hr h => ⟨t_is_int K, PSs.nox ?_, pure_is_int K vs H Q E h⟩), F.bindsN (fun _ _ _ _ _ _ us hl => match us, hl with | [_], _ => rfl), T.g_is_int, F.kp⟩
  exact (pss_one (ps_ret (pe_and (pe_callB call_isi (by rfl) hf_isinstance (by decide +kernel) (pa_cons (pv 0) (pa_cons (pe_bltn (v := .ty "int") rfl hf_int (by decide +kernel) rfl) pa_nil))) (pe_one (pe_not (pe_callB call_isi (by rfl) hf_isinstance (by decide +kernel) (pa_cons (pv 0) (pa_cons (pe_bltn (v := .ty "bool") rfl hf_bool (by decide +kernel) rfl) pa_nil))))))))
/-! ### has_no_parts -/
theorem sc_has_no_parts : FnScope ["number", "divisor"] ["number"] (defScope s_has_no_parts) := ⟨rfl, rfl, rfl, by decide +kernel, rfl, by decide +kernel, by decide +kernel⟩
def sp_has_no_parts (K : PySem.W.Frag) : Sp := fun vs H Q _ => ∃ n : Int, vs = [.int n] ∧ n < 2 ^ 40 ∧ ∀ b : Bool, (b = true ↔ PrimeI n) → Q (.bl b) H
theorem len_has_no_parts {K : PySem.W.Frag} {vs : List V} {H : Hp} {Q : VK} {E : XK} (h : sp_has_no_parts K vs H Q E) : vs.length = ["number"].length := by
  obtain ⟨_, rfl, _⟩ := h
  rfl
def t_has_no_parts_w1_c (K : PySem.W.Frag) : TT := (tAnd (tTest (tOp rLeI (tOp rMulU (tVar 1) (tVar 1)) (tVar 0))) (tTest (tOp rNe (tOp rModU (tVar 0) (tVar 1)) (tC (.int 0)))))
def t_has_no_parts_w1_b (K : PySem.W.Frag) : TS := (tAug 1 (tC (.int 2)) (ipI fun i j => i + j))
def t_has_no_parts (K : PySem.W.Frag) : TS := (tSeq (tIfS (tOr (tTest (tOp rLtI (tVar 0) (tC (.int 4)))) (tTest (tOp rEq (tOp rModU (tVar 0) (tC (.int 2))) (tC (.int 0))))) (tRet (tInT false (tVar 0) (tCons (tC (.int 2)) (tCons (tC (.int 3)) tNil)))) tNext)
  (tSeq (tAsg (tC (.int 3)) (gName 1))
  (tSeq (tWhile (t_has_no_parts_w1_c K) (t_has_no_parts_w1_b K))
  (tRet (tOp rGtI (tOp rMulU (tVar 1) (tVar 1)) (tVar 0))))))
theorem pure_has_no_parts (K : PySem.W.Frag) (vs : List V) (H : Hp) (Q : VK) (E : XK) (h : sp_has_no_parts K vs H Q E) : t_has_no_parts K { nx := fun _ H' => Q .non H', rt := Q } (start ["number", "divisor"] vs) H := by
  obtain ⟨n, rfl, hn2, hq⟩ := h
  unfold t_has_no_parts
  walk_at "z"
  have small : (n < 4 ∨ n % 2 = 0) → Q (.bl (inV (.int n) [.int 2, .int 3])) H := fun hs => by
    refine hq _ ?_
    rw [in_twothree, decide_eq_true_eq]
    constructor
    · rintro (rfl | rfl)
      · exact prime_two
      · exact prime_three
    · rintro ⟨h1, h2⟩
      by_cases e : n % 2 = 0
      · by_cases e2 : n = 2
        · exact .inl e2
        · exact absurd (show (2 : Int) ∣ n by omega) (h2 2 (by omega) (by omega))
      · omega
  by_cases h4 : n < 4
  · rw [if_pos h4]
    exact ⟨by decide, rfl, rfl, small (.inl h4)⟩
  rw [if_neg h4]
  walk_at "z"
  refine ⟨by decide, ?_⟩
  by_cases h2 : n % 2 = 0
  · rw [if_pos h2]
    exact ⟨by decide, rfl, rfl, small (.inr h2)⟩
  rw [if_neg h2]
  refine while_of (fun m σ H' => ∃ d : Int, σ = [some (.int n), some (.int d)] ∧ H' = H ∧ 3 ≤ d ∧ d % 2 = 1 ∧ (∀ k, 2 ≤ k → k < d → ¬ k ∣ n) ∧ d < 2 ^ 41 ∧ m = (2 ^ 42 - d).toNat) (2 ^ 42 - 3) ⟨3, rfl, rfl, by omega, by omega, fun k h1 h3 => by
      obtain rfl : k = 2 := by omega
      omega, by omega, by decide⟩ ?_
  rintro m σ H' ⟨d, rfl, rfl, hd, hodd, hk, hd2, rfl⟩ N hN hN2
  unfold t_has_no_parts_w1_c t_has_no_parts_w1_b
  walk_at "z"
  refine ⟨mulS (by omega), ?_⟩
  by_cases hdd : d * d ≤ n
  · rw [if_pos hdd]
    walk_at "z"
    refine ⟨by omega, ?_⟩
    have hdn : d < n := by
      have := Int.mul_le_mul_of_nonneg_right (show (3:Int) ≤ d by omega) (show (0:Int) ≤ d by omega)
      omega
    by_cases hm : n % d = 0
    · rw [if_neg (by omega)]
      walk_at "z"
      refine ⟨mulS (by omega), hq _ ⟨fun h => ?_, fun h => absurd (Int.dvd_of_emod_eq_zero hm) (h.2 d (by omega) hdn)⟩⟩
      rw [decide_eq_true_eq] at h
      omega
    · rw [if_pos hm]
      refine ⟨N, hN2, ?_⟩
      walk_at "z"
      have hlt : d < 2 ^ 20 + 2 := by
        by_cases q : d < 2 ^ 20 + 2
        · exact q
        · have := Int.mul_le_mul (show (2 ^ 20 + 2 : Int) ≤ d by omega) (show (2 ^ 20 + 2 : Int) ≤ d by omega) (by omega) (by omega)
          omega
      refine hN _ _ _ (by omega) ⟨d + 2, rfl, rfl, by omega, by omega, fun k h1 h3 => ?_, by omega, rfl⟩
      by_cases e1 : k < d
      · exact hk k h1 e1
      · by_cases e2 : k = d
        · subst e2
          intro hx
          exact hm (Int.emod_eq_zero_of_dvd hx)
        · obtain rfl : k = d + 1 := by omega
          intro hx
          have : (2 : Int) ∣ n := Int.dvd_trans (by omega) hx
          omega
  · rw [if_neg hdd]
    walk_at "z"
    refine ⟨mulS (by omega), hq _ ⟨fun _ => ?_, fun _ => decide_eq_true (by omega)⟩⟩
    have := least_self (by omega) hk (by omega) (by omega)
    exact ⟨this.1, this.2.2⟩

theorem ok_has_no_parts {P : Program} {w : World} {K : PySem.W.Frag} {mg : Str → Option Value} {base : Heap} (T : Tx K mg) : Okk P w K mg base 1 "has_no_parts" ["number"] (sp_has_no_parts K) := by
  obtain ⟨fd, F⟩ := T.f_has_no_parts
  refine ⟨fd, F.ok sc_has_no_parts (fun vs H Q E h => len_has_no_parts h) (fun cdv A outer s H vs Q E hr h => ⟨t_has_no_parts K, PSs.nox ?_, pure_has_no_parts K vs H Q E h⟩), F.bindsN (fun _ _ _ _ _ _ us hl => match us, hl with | [_], _ => rfl), T.g_has_no_parts, F.kp⟩
  exact (pss_cons (ps_if (PW.pt (pw_or (pt_cmpR op_lt (pv 0) pe_int (nomark _)) (pw_or1 (pt_cmpR op_eq (pe_op op_mod (pv 0) pe_int) pe_int (nomark _))))) (pss_one (ps_ret (pe_inT (pv 0) (pa_cons pe_int (pa_cons pe_int pa_nil)) rfl))) pss_nil)
      (pss_cons (ps_set (i := 1) sc_has_no_parts.nd rfl (by first | exact Or.inl rfl | exact Or.inr rfl) pe_int)
      (pss_cons (ps_while PassesOwn.never (PW.pt (pw_and (pt_cmpR op_le (pe_op op_mulU (pv 1) (pv 1)) (pv 0) (nomark _)) (pw_and1 (pt_cmpR op_ne (pe_op op_mod (pv 0) (pv 1)) pe_int (nomark _))))) (pss_one (ps_aug (i := 1) sc_has_no_parts.nd rfl (by first | exact Or.inl rfl | exact Or.inr rfl) pe_int ip_add)))
      (pss_one (ps_ret (pe_cmpR op_gt (pe_op op_mulU (pv 1) (pv 1)) (pv 0) (nomark _)))))))
/-! ### power_modulo -/
theorem sc_power_modulo : FnScope ["number", "exponent", "modulus", "result", "base"] ["number", "exponent", "modulus"] (defScope s_power_modulo) := ⟨rfl, rfl, rfl, by decide +kernel, rfl, by decide +kernel, by decide +kernel⟩
def sp_power_modulo (K : PySem.W.Frag) : Sp := fun vs H Q _ => ∃ b e m : Int, vs = [.int b, .int e, .int m] ∧ 0 ≤ e ∧ 0 < m ∧ m < 2 ^ 60 ∧ Q (.int (b ^ e.toNat % m)) H
theorem len_power_modulo {K : PySem.W.Frag} {vs : List V} {H : Hp} {Q : VK} {E : XK} (h : sp_power_modulo K vs H Q E) : vs.length = ["number", "exponent", "modulus"].length := by
  obtain ⟨_, _, _, rfl, _⟩ := h
  rfl
def t_power_modulo_w1_c (K : PySem.W.Frag) : TT := (tTest (tOp rGtI (tVar 1) (tC (.int 0))))
def t_power_modulo_w1_b (K : PySem.W.Frag) : TS := (tSeq (tIfS (tTest (tOp rEq (tOp rModU (tVar 1) (tC (.int 2))) (tC (.int 1)))) (tAsg (tOp rModU (tOp rMulU (tVar 3) (tVar 4)) (tVar 2)) (gName 3)) tNext)
  (tSeq (tAsg (tOp rModU (tOp rMulU (tVar 4) (tVar 4)) (tVar 2)) (gName 4))
  (tAsg (tOp rDivU (tVar 1) (tC (.int 2))) (gName 1))))
def t_power_modulo (K : PySem.W.Frag) : TS := (tSeq (tAsg (tOp rModU (tC (.int 1)) (tVar 2)) (gName 3))
  (tSeq (tAsg (tOp rModU (tVar 0) (tVar 2)) (gName 4))
  (tSeq (tWhile (t_power_modulo_w1_c K) (t_power_modulo_w1_b K))
  (tRet (tVar 3)))))
theorem pm_start {b m : Int} {e : Nat} : 1 % m * (b % m) ^ e % m = b ^ e % m := by
  rw [Int.mul_emod, pow_emod, emod_emod', ← Int.mul_emod, Int.one_mul]
theorem pm_even {r x m : Int} {e : Nat} (h : e % 2 = 0) : r * (x * x % m) ^ (e / 2) % m = r * x ^ e % m := by
  have e2 : x ^ e = (x * x) ^ (e / 2) := by rw [← pow_two_mul]; congr 1; omega
  rw [Int.mul_emod, pow_emod, ← Int.mul_emod, e2]
theorem pm_odd {r x m : Int} {e : Nat} (h : e % 2 = 1) : (r * x % m) * (x * x % m) ^ (e / 2) % m = r * x ^ e % m := by
  have e2 : x ^ e = x * (x * x) ^ (e / 2) := by
    rw [← pow_two_mul, Int.mul_comm, ← Int.pow_succ]; congr 1; omega
  rw [Int.mul_emod, pow_emod, emod_emod', ← Int.mul_emod, e2, Int.mul_assoc]
theorem half_toNat {e : Int} (h : 0 ≤ e) : (e / 2).toNat = e.toNat / 2 := by omega
theorem pure_power_modulo (K : PySem.W.Frag) (vs : List V) (H : Hp) (Q : VK) (E : XK) (h : sp_power_modulo K vs H Q E) : t_power_modulo K { nx := fun _ H' => Q .non H', rt := Q } (start ["number", "exponent", "modulus", "result", "base"] vs) H := by
  obtain ⟨b, e, m, rfl, he, hm, hm2, hq⟩ := h
  unfold t_power_modulo
  walk_at "z"
  refine ⟨hm, hm, ?_⟩
  refine while_of (fun μ σ H' => ∃ r x ee y : Int, σ = [some (.int y), some (.int ee), some (.int m), some (.int r), some (.int x)] ∧ H' = H ∧ 0 ≤ ee ∧ μ = ee.toNat ∧ 0 ≤ r ∧ r < m ∧ 0 ≤ x ∧ x < m ∧ r * x ^ ee.toNat % m = b ^ e.toNat % m) e.toNat ⟨1 % m, b % m, e, b, rfl, rfl, he, rfl, Int.emod_nonneg _ (by omega), Int.emod_lt_of_pos _ hm, Int.emod_nonneg _ (by omega), Int.emod_lt_of_pos _ hm, pm_start⟩ ?_
  rintro μ σ H' ⟨r, x, ee, y, rfl, rfl, hee, rfl, hr0, hr1, hx0, hx1, hinv⟩ N hN hN2
  unfold t_power_modulo_w1_c t_power_modulo_w1_b
  walk_at "z"
  by_cases h0 : 0 < ee
  · rw [if_pos h0]
    refine ⟨N, hN2, ?_⟩
    walk_at "z"
    refine ⟨by omega, ?_⟩
    have xx : 0 ≤ x * x % m ∧ x * x % m < m := ⟨Int.emod_nonneg _ (by omega), Int.emod_lt_of_pos _ hm⟩
    by_cases h1 : ee % 2 = 1
    · rw [if_pos h1]
      refine ⟨mulS (by omega), hm, mulS (by omega), hm, divS (by omega) (by omega), hN _ _ _ (by omega) ⟨_, _, _, _, rfl, rfl, by omega, rfl, Int.emod_nonneg _ (by omega), Int.emod_lt_of_pos _ hm, xx.1, xx.2, ?_⟩⟩
      rw [half_toNat hee, pm_odd (by omega), hinv]
    · rw [if_neg h1]
      refine ⟨mulS (by omega), hm, divS (by omega) (by omega), hN _ _ _ (by omega) ⟨_, _, _, _, rfl, rfl, by omega, rfl, hr0, hr1, xx.1, xx.2, ?_⟩⟩
      rw [half_toNat hee, pm_even (by omega), hinv]
  · rw [if_neg h0]
    obtain rfl : ee = 0 := by omega
    have e0 : r * x ^ (0 : Int).toNat % m = r := by
      show r * x ^ 0 % m = r
      rw [Int.pow_zero, Int.mul_one, emod_small hr0 hr1]
    rw [← hinv, e0] at hq
    exact hq
theorem ok_power_modulo {P : Program} {w : World} {K : PySem.W.Frag} {mg : Str → Option Value} {base : Heap} (T : Tx K mg) : Okk P w K mg base 1 "power_modulo" ["number", "exponent", "modulus"] (sp_power_modulo K) := by
  obtain ⟨fd, F⟩ := T.f_power_modulo
  refine ⟨fd, F.ok sc_power_modulo (fun vs H Q E h => len_power_modulo h) (fun cdv A outer s H vs Q E hr h => ⟨t_power_modulo K, PSs.nox ?_, pure_power_modulo K vs H Q E h⟩), F.bindsN (fun _ _ _ _ _ _ us hl => match us, hl with | [_, _, _], _ => rfl), T.g_power_modulo, F.kp⟩
  exact (pss_cons (ps_set (i := 3) sc_power_modulo.nd rfl (by first | exact Or.inl rfl | exact Or.inr rfl) (pe_op op_mod pe_int (pv 2)))
      (pss_cons (ps_set (i := 4) sc_power_modulo.nd rfl (by first | exact Or.inl rfl | exact Or.inr rfl) (pe_op op_mod (pv 0) (pv 2)))
      (pss_cons (ps_while PassesOwn.never (pt_cmpR op_gt (pv 1) pe_int (nomark _)) (pss_cons (ps_if (pt_cmpR op_eq (pe_op op_mod (pv 1) pe_int) pe_int (nomark _)) (pss_one (ps_set (i := 3) sc_power_modulo.nd rfl (by first | exact Or.inl rfl | exact Or.inr rfl) (pe_op op_mod (pe_op op_mulU (pv 3) (pv 4)) (pv 2)))) pss_nil)
      (pss_cons (ps_set (i := 4) sc_power_modulo.nd rfl (by first | exact Or.inl rfl | exact Or.inr rfl) (pe_op op_mod (pe_op op_mulU (pv 4) (pv 4)) (pv 2)))
      (pss_one (ps_set (i := 1) sc_power_modulo.nd rfl (by first | exact Or.inl rfl | exact Or.inr rfl) (pe_op op_fdivW (pv 1) pe_int))))))
      (pss_one (ps_ret (pv 3))))))
/-! ### integer_power -/
theorem sc_integer_power : FnScope ["number", "exponent", "result", "base"] ["number", "exponent"] (defScope s_integer_power) := ⟨rfl, rfl, rfl, by decide +kernel, rfl, by decide +kernel, by decide +kernel⟩
def sp_integer_power (K : PySem.W.Frag) : Sp := fun vs H Q _ => ∃ b e : Int, vs = [.int b, .int e] ∧ 0 ≤ e ∧ 1 ≤ b ∧ b ^ e.toNat < 2 ^ 62 ∧ b < 2 ^ 62 ∧ Q (.int (b ^ e.toNat)) H
theorem len_integer_power {K : PySem.W.Frag} {vs : List V} {H : Hp} {Q : VK} {E : XK} (h : sp_integer_power K vs H Q E) : vs.length = ["number", "exponent"].length := by
  obtain ⟨_, _, rfl, _⟩ := h
  rfl
def t_integer_power_w1_c (K : PySem.W.Frag) : TT := (tTest (tOp rGtI (tVar 1) (tC (.int 0))))
def t_integer_power_w1_b (K : PySem.W.Frag) : TS := (tSeq (tIfS (tTest (tOp rEq (tOp rModU (tVar 1) (tC (.int 2))) (tC (.int 1)))) (tAsg (tOp rMulU (tVar 2) (tVar 3)) (gName 2)) tNext)
  (tSeq (tAsg (tOp rDivU (tVar 1) (tC (.int 2))) (gName 1))
  (tIfS (tTest (tOp rGtI (tVar 1) (tC (.int 0)))) (tAsg (tOp rMulU (tVar 3) (tVar 3)) (gName 3)) tNext)))
def t_integer_power (K : PySem.W.Frag) : TS := (tSeq (tAsg (tC (.int 1)) (gName 2))
  (tSeq (tAsg (tVar 0) (gName 3))
  (tSeq (tWhile (t_integer_power_w1_c K) (t_integer_power_w1_b K))
  (tRet (tVar 2)))))
theorem ipow_pos {b : Int} (h : 1 ≤ b) (k : Nat) : 1 ≤ b ^ k := by
  induction k with
  | zero => rw [Int.pow_zero]; omega
  | succ k ih =>
    rw [Int.pow_succ]
    have := Int.mul_le_mul ih h (by omega) (by omega)
    omega
theorem ipow_le {b : Int} (h : 1 ≤ b) {j k : Nat} (hk : j ≤ k) : b ^ j ≤ b ^ k := by
  obtain ⟨d, rfl⟩ : ∃ d, k = j + d := ⟨k - j, by omega⟩
  rw [Int.pow_add]
  have h1 := ipow_pos h j
  have h2 := ipow_pos h d
  have := Int.mul_le_mul (Int.le_refl (b ^ j)) h2 (by omega) (by omega)
  omega
theorem le_prod {r p : Int} (hr : 1 ≤ r) (hp : 1 ≤ p) : r ≤ r * p ∧ p ≤ r * p := by
  have h1 := Int.mul_le_mul (Int.le_refl r) hp (by omega) (by omega)
  have h2 := Int.mul_le_mul hr (Int.le_refl p) (by omega) (by omega)
  omega
theorem pure_integer_power (K : PySem.W.Frag) (vs : List V) (H : Hp) (Q : VK) (E : XK) (h : sp_integer_power K vs H Q E) : t_integer_power K { nx := fun _ H' => Q .non H', rt := Q } (start ["number", "exponent", "result", "base"] vs) H := by
  obtain ⟨b, e, rfl, he, hb, hs, hs2, hq⟩ := h
  unfold t_integer_power
  walk_at "z"
  refine while_of (fun μ σ H' => ∃ r x ee y : Int, σ = [some (.int y), some (.int ee), some (.int r), some (.int x)] ∧ H' = H ∧ 0 ≤ ee ∧ μ = ee.toNat ∧ 1 ≤ r ∧ 1 ≤ x ∧ r * x ^ ee.toNat = b ^ e.toNat ∧ x < 2 ^ 62) e.toNat ⟨1, b, e, b, rfl, rfl, he, rfl, by omega, hb, by rw [Int.one_mul], hs2⟩ ?_
  rintro μ σ H' ⟨r, x, ee, y, rfl, rfl, hee, rfl, hr0, hx0, hinv, hx2⟩ N hN hN2
  unfold t_integer_power_w1_c t_integer_power_w1_b
  walk_at "z"
  by_cases h0 : 0 < ee
  · rw [if_pos h0]
    refine ⟨N, hN2, ?_⟩
    walk_at "z"
    have hp := ipow_pos hx0 ee.toNat
    have hle := le_prod hr0 hp
    have hxe : x ^ 1 ≤ x ^ ee.toNat := ipow_le hx0 (by omega)
    rw [Int.pow_succ, Int.pow_zero, Int.one_mul] at hxe
    refine ⟨by omega, ?_⟩
    -- x * x is at most x ^ ee where ee is at least 2
    have hxx : 2 ≤ ee → x * x ≤ x ^ ee.toNat := fun h2 => by
      have := ipow_le hx0 (show 2 ≤ ee.toNat by omega)
      rw [Int.pow_succ, Int.pow_succ, Int.pow_zero, Int.one_mul] at this
      exact this
    have half : ∀ h2 : 0 < ee / 2, (x * x) ^ (ee / 2).toNat = x ^ (2 * (ee.toNat / 2)) := fun _ => by rw [pow_two_mul, half_toNat hee]
    have pos2 := le_prod hx0 hx0
    by_cases h1 : ee % 2 = 1
    · rw [if_pos h1]
      refine ⟨mulS (by omega), divS (by omega) (by omega), ?_⟩
      have hrx := le_prod hr0 hx0
      by_cases h3 : 0 < ee / 2
      · rw [if_pos h3]
        have := hxx (by omega)
        refine ⟨mulS (by omega), hN _ _ _ (by omega) ⟨_, _, _, _, rfl, rfl, by omega, rfl, by omega, by omega, ?_, by omega⟩⟩
        rw [half h3, ← hinv, Int.mul_assoc]
        congr 1
        rw [Int.mul_comm, ← Int.pow_succ]
        congr 1
        omega
      · rw [if_neg h3]
        refine hN _ _ _ (by omega) ⟨_, _, _, _, rfl, rfl, by omega, rfl, by omega, by omega, ?_, by omega⟩
        have e1 : ee = 1 := by omega
        subst e1
        rw [← hinv]
        show r * x * x ^ 0 = r * x ^ 1
        rw [Int.pow_zero, Int.mul_one, Int.pow_succ, Int.pow_zero, Int.one_mul]
    · rw [if_neg h1]
      refine ⟨divS (by omega) (by omega), ?_⟩
      have h3 : 0 < ee / 2 := by omega
      rw [if_pos h3]
      have := hxx (by omega)
      refine ⟨mulS (by omega), hN _ _ _ (by omega) ⟨_, _, _, _, rfl, rfl, by omega, rfl, by omega, by omega, ?_, by omega⟩⟩
      rw [half h3, ← hinv]
      congr 1
      congr 1
      omega
  · rw [if_neg h0]
    obtain rfl : ee = 0 := by omega
    have e0 : r * x ^ (0 : Int).toNat = r := by
      show r * x ^ 0 = r
      rw [Int.pow_zero, Int.mul_one]
    rw [← hinv, e0] at hq
    exact hq
theorem ok_integer_power {P : Program} {w : World} {K : PySem.W.Frag} {mg : Str → Option Value} {base : Heap} (T : Tx K mg) : Okk P w K mg base 1 "integer_power" ["number", "exponent"] (sp_integer_power K) := by
  obtain ⟨fd, F⟩ := T.f_integer_power
  refine ⟨fd, F.ok sc_integer_power (fun vs H Q E h => len_integer_power h) (fun cdv A outer s H vs Q E hr h => ⟨t_integer_power K, PSs.nox ?_, pure_integer_power K vs H Q E h⟩), F.bindsN (fun _ _ _ _ _ _ us hl => match us, hl with | [_, _], _ => rfl), T.g_integer_power, F.kp⟩
  exact (pss_cons (ps_set (i := 2) sc_integer_power.nd rfl (by first | exact Or.inl rfl | exact Or.inr rfl) pe_int)
      (pss_cons (ps_set (i := 3) sc_integer_power.nd rfl (by first | exact Or.inl rfl | exact Or.inr rfl) (pv 0))
      (pss_cons (ps_while PassesOwn.never (pt_cmpR op_gt (pv 1) pe_int (nomark _)) (pss_cons (ps_if (pt_cmpR op_eq (pe_op op_mod (pv 1) pe_int) pe_int (nomark _)) (pss_one (ps_set (i := 2) sc_integer_power.nd rfl (by first | exact Or.inl rfl | exact Or.inr rfl) (pe_op op_mulU (pv 2) (pv 3)))) pss_nil)
      (pss_cons (ps_set (i := 1) sc_integer_power.nd rfl (by first | exact Or.inl rfl | exact Or.inr rfl) (pe_op op_fdivW (pv 1) pe_int))
      (pss_one (ps_if (pt_cmpR op_gt (pv 1) pe_int (nomark _)) (pss_one (ps_set (i := 3) sc_integer_power.nd rfl (by first | exact Or.inl rfl | exact Or.inr rfl) (pe_op op_mulU (pv 3) (pv 3)))) pss_nil)))))
      (pss_one (ps_ret (pv 2))))))
/-! ### prime_powers -/
theorem sc_prime_powers : FnScope ["number", "pairs", "left", "divisor", "often"] ["number"] (defScope s_prime_powers) := ⟨rfl, rfl, rfl, by decide +kernel, rfl, by decide +kernel, by decide +kernel⟩
def sp_prime_powers (K : PySem.W.Frag) : Sp := fun vs H Q _ => ∃ n : Nat, vs = [.int (n : Int)] ∧ 1 ≤ n ∧ n < 2 ^ 40 ∧ ∀ T xs H', Same H H' → H' T = some (.tup xs) → PR H' xs (ppN n) → Q (.ref T) H'
theorem len_prime_powers {K : PySem.W.Frag} {vs : List V} {H : Hp} {Q : VK} {E : XK} (h : sp_prime_powers K vs H Q E) : vs.length = ["number"].length := by
  obtain ⟨_, rfl, _⟩ := h
  rfl
def t_prime_powers_w1_c (K : PySem.W.Frag) : TT := (tTest (tOp rEq (tOp rModU (tVar 2) (tVar 3)) (tC (.int 0))))
def t_prime_powers_w1_b (K : PySem.W.Frag) : TS := (tSeq (tAsg (tOp rDivU (tVar 2) (tVar 3)) (gName 2))
  (tAug 4 (tC (.int 1)) (ipI fun i j => i + j)))
def t_prime_powers_w2_c (K : PySem.W.Frag) : TT := (tTest (tOp rLeI (tOp rMulU (tVar 3) (tVar 3)) (tVar 2)))
def t_prime_powers_w2_b (K : PySem.W.Frag) : TS := (tSeq (tAsg (tC (.int 0)) (gName 4))
  (tSeq (tWhile (t_prime_powers_w1_c K) (t_prime_powers_w1_b K))
  (tSeq (tIfS (tTest (tOp rGtI (tVar 4) (tC (.int 0)))) (tDrop (tBM K "list" rAppend (tVar 1) (tCons (tTup (tCons (tVar 3) (tCons (tVar 4) tNil))) tNil))) tNext)
  (tAug 3 (tIf (tTest (tOp rEq (tVar 3) (tC (.int 2)))) (tC (.int 1)) (tC (.int 2))) (ipI fun i j => i + j)))))
def t_prime_powers (K : PySem.W.Frag) : TS := (tSeq (tAsg (tLst tNil) (gName 1))
  (tSeq (tAsg (tVar 0) (gName 2))
  (tSeq (tAsg (tC (.int 2)) (gName 3))
  (tSeq (tWhile (t_prime_powers_w2_c K) (t_prime_powers_w2_b K))
  (tSeq (tIfS (tTest (tOp rGtI (tVar 2) (tC (.int 1)))) (tDrop (tBM K "list" rAppend (tVar 1) (tCons (tTup (tCons (tVar 2) (tCons (tC (.int 1)) tNil))) tNil))) tNext)
  (tRet (tCB (rTupOf K) (tCons (tVar 1) tNil))))))))
theorem sq_lt {d l : Nat} (h : d * d ≤ l) (h2 : l < 2 ^ 40) : d < 2 ^ 20 := by
  by_cases q : d < 2 ^ 20
  · exact q
  · have := Nat.mul_le_mul (show 2 ^ 20 ≤ d by omega) (show 2 ^ 20 ≤ d by omega)
    omega
theorem small_size {n : Nat} (h : n < 2 ^ 22) : n < sizeLine := Nat.lt_of_lt_of_le h (by decide)
theorem pure_prime_powers (K : PySem.W.Frag) (vs : List V) (H : Hp) (Q : VK) (E : XK) (h : sp_prime_powers K vs H Q E) : t_prime_powers K { nx := fun _ H' => Q .non H', rt := Q } (start ["number", "pairs", "left", "divisor", "often"] vs) H := by
  obtain ⟨n, rfl, hn, hn2, hq⟩ := h
  unfold t_prime_powers
  walk_at "z"
  refine ⟨Nat.zero_le _, fun P hP => ?_⟩
  refine while_of (fun μ σ H' => ∃ (xs : List V) (acc : List (Nat × Nat)) (l d f : Nat) (o : Option V), σ = [some (.int (n : Int)), some (.ref P), some (.int (l : Int)), some (.int (d : Int)), o] ∧ Same H H' ∧ H' P = some (.lst xs) ∧ PR H' xs acc ∧ 2 ≤ d ∧ 1 ≤ l ∧ l < 2 ^ 40 ∧ d < 2 ^ 20 + 3 ∧ acc.length ≤ d ∧ ppL f d l acc = ppN n ∧ l + 2 ≤ f + d ∧ μ = f) n
    ⟨[], [], n, 2, n, none, rfl, same_upd hP, upd_same, .nil, by omega, hn, hn2, by omega, by simp, rfl, by omega, rfl⟩ ?_
  rintro μ σ H' ⟨xs, acc, l, d, f, o, rfl, hS, hHP, hPR, hd, hl, hl2, hd3, hacc, hpp, hf, rfl⟩ N hN hN2
  unfold t_prime_powers_w2_c t_prime_powers_w2_b
  walk_at "z"
  refine ⟨mulS (by omega), ?_⟩
  have hlen : xs.length < sizeLine := by rw [hPR.len]; exact small_size (by omega)
  by_cases hdd : d * d ≤ l
  · rw [if_pos (by exact_mod_cast hdd)]
    refine ⟨N, hN2, ?_⟩
    walk_at "z"
    have hd20 := sq_lt hdd hl2
    refine while_of (fun μ σ H2 => ∃ (l' o' f' : Nat), σ = [some (.int (n : Int)), some (.ref P), some (.int (l' : Int)), some (.int (d : Int)), some (.int (o' : Int))] ∧ H2 = H' ∧ 1 ≤ l' ∧ l' ≤ l ∧ stripN f' d l' o' = stripN l d l 0 ∧ l' ≤ f' ∧ l' = μ) l
      ⟨l, 0, l, rfl, rfl, hl, Nat.le_refl _, rfl, Nat.le_refl _, rfl⟩ ?_
    rintro μ2 σ2 H2 ⟨l', o', f', rfl, rfl, hl1, hll, hst, hf', rfl⟩ N2 hN3 hN4
    unfold t_prime_powers_w1_c t_prime_powers_w1_b
    walk_at "z"
    refine ⟨by omega, ?_⟩
    obtain ⟨f2, rfl⟩ : ∃ f2, f' = f2 + 1 := ⟨f' - 1, by omega⟩
    by_cases hm : l' % d = 0
    · rw [if_pos (by exact_mod_cast hm)]
      refine ⟨N2, hN4, ?_⟩
      walk_at "z"
      have hdl : d ≤ l' := Nat.le_of_dvd hl1 (Nat.dvd_of_mod_eq_zero hm)
      have h3 : l' / d < l' := Nat.div_lt_self hl1 hd
      have h4 : 1 ≤ l' / d := Nat.div_pos hdl (by omega)
      refine ⟨divS (by omega) (by omega), hN3 _ _ _ h3 ⟨l' / d, o' + 1, f2, by rw [Int.natCast_ediv]; rfl, rfl, h4, by omega, ?_, by omega, rfl⟩⟩
      rw [← hst]
      conv => rhs; unfold stripN
      rw [if_pos hm]
    · rw [if_neg (by exact_mod_cast hm)]
      have hst2 : stripN l d l 0 = (l', o') := by
        rw [← hst]; unfold stripN; rw [if_neg hm]
      have hdl2 : d ≤ d * d := Nat.le_mul_of_pos_right d (by omega)
      obtain ⟨g, rfl⟩ : ∃ g, μ = g + 1 := ⟨μ - 1, by omega⟩
      have hpp2 : ppL g (if d = 2 then d + 1 else d + 2) l' (if 0 < o' then acc ++ [(d, o')] else acc) = ppN n := by
        rw [← hpp]
        conv => rhs; unfold ppL
        rw [if_pos hdd, hst2]
      -- what the turn leaves, for either step of the divisor
      have fin : ∀ (acc2 : List (Nat × Nat)) (xs2 : List V) (H3 : Hp), Same H H3 → H3 P = some (.lst xs2) → PR H3 xs2 acc2 → acc2.length ≤ d + 1 → ppL g (if d = 2 then d + 1 else d + 2) l' acc2 = ppN n →
          if (d : Int) = 2 then N [some (.int (n : Int)), some (.ref P), some (.int (l' : Int)), some (.int ((d : Int) + 1)), some (.int (o' : Int))] H3 else N [some (.int (n : Int)), some (.ref P), some (.int (l' : Int)), some (.int ((d : Int) + 2)), some (.int (o' : Int))] H3 := by
        intro acc2 xs2 H3 s3 p3 r3 l3 e3
        by_cases d2 : d = 2
        · rw [if_pos d2] at e3
          rw [if_pos (by omega)]
          exact hN _ _ _ (by omega) ⟨xs2, acc2, l', d + 1, g, _, rfl, s3, p3, r3, by omega, hl1, by omega, by omega, by omega, e3, by omega, rfl⟩
        · rw [if_neg d2] at e3
          rw [if_neg (by omega)]
          exact hN _ _ _ (by omega) ⟨xs2, acc2, l', d + 2, g, _, rfl, s3, p3, r3, by omega, hl1, by omega, by omega, by omega, e3, by omega, rfl⟩
      by_cases ho : 0 < o'
      · rw [if_pos (by omega)]
        rw [if_pos ho] at hpp2
        refine ⟨tyL hHP, by decide, fun t ht => ?_⟩
        have htP : P ≠ t := ne_of_none hHP ht
        have hP2 : upd H2 t (.tup [.int (d : Int), .int (o' : Int)]) P = some (.lst xs) := by rw [upd_ne htP]; exact hHP
        refine ⟨P, xs, _, rfl, rfl, hP2, hlen, ?_⟩
        walk_at "z"
        refine fin _ _ _ (same_mut (same_new hS ht) hP) upd_same ?_ (by simp; omega) hpp2
        refine Paired.snoc (hPR.mono fun a ys q => ?_) ⟨t, rfl, by rw [upd_ne (Ne.symm htP), upd_same]⟩
        have q1 : a ≠ P := by rintro rfl; rw [hHP] at q; cases q
        rw [upd_ne q1, upd_ne (ne_of_none q ht)]
        exact q
      · rw [if_neg (by omega)]
        rw [if_neg ho] at hpp2
        exact fin _ _ _ hS hHP hPR (by omega) hpp2
  · rw [if_neg (by exact_mod_cast hdd)]
    have hend : endN l acc = ppN n := by
      rw [← hpp]
      cases μ with
      | zero => rfl
      | succ g => unfold ppL; rw [if_neg hdd]
    by_cases h1 : 1 < l
    · rw [if_pos (by omega)]
      refine ⟨tyL hHP, by decide, fun t ht => ?_⟩
      have htP : P ≠ t := ne_of_none hHP ht
      have hP2 : upd H' t (.tup [.int (l : Int), .int 1]) P = some (.lst xs) := by rw [upd_ne htP]; exact hHP
      refine ⟨P, xs, _, rfl, rfl, hP2, hlen, ?_⟩
      walk_at "z"
      have hs2 := same_mut (o := .lst (xs ++ [V.ref t])) (same_new (o := .tup [.int (l : Int), .int 1]) hS ht) hP
      refine ⟨P, _, rfl, .inl ⟨sqL_of upd_same, fun T hT => ?_⟩⟩
      refine hq T _ _ (same_new hs2 hT) upd_same ?_
      rw [← hend]
      unfold endN
      rw [if_pos h1]
      have q0 : ∀ a ys, H' a = some (.tup ys) → upd (upd (upd H' t (.tup [.int (l : Int), .int 1])) P (.lst (xs ++ [V.ref t]))) T (.tup (xs ++ [V.ref t])) a = some (.tup ys) := fun a ys q => by
        have q1 : a ≠ P := by rintro rfl; rw [hHP] at q; cases q
        have q2 : upd (upd H' t (.tup [.int (l : Int), .int 1])) P (.lst (xs ++ [V.ref t])) a = some (.tup ys) := by rw [upd_ne q1, upd_ne (ne_of_none q ht)]; exact q
        rw [upd_ne (ne_of_none q2 hT)]
        exact q2
      refine Paired.snoc (hPR.mono q0) ⟨t, rfl, ?_⟩
      have q2 : upd (upd H' t (.tup [.int (l : Int), .int 1])) P (.lst (xs ++ [V.ref t])) t = some (.tup [.int (l : Int), .int 1]) := by rw [upd_ne (Ne.symm htP), upd_same]
      rw [upd_ne (ne_of_none q2 hT)]
      exact q2
    · rw [if_neg (by omega)]
      walk_at "z"
      refine ⟨P, _, rfl, .inl ⟨sqL_of hHP, fun T hT => ?_⟩⟩
      refine hq T _ _ (same_new hS hT) upd_same ?_
      rw [← hend]
      unfold endN
      rw [if_neg h1]
      exact hPR.mono fun a ys q => by rw [upd_ne (ne_of_none q hT)]; exact q
theorem ok_prime_powers {P : Program} {w : World} {K : PySem.W.Frag} {mg : Str → Option Value} {base : Heap} (T : Tx K mg) : Okk P w K mg base 1 "prime_powers" ["number"] (sp_prime_powers K) := by
  have hf_tuple := T.n_tuple
  obtain ⟨fd, F⟩ := T.f_prime_powers
  refine ⟨fd, F.ok sc_prime_powers (fun vs H Q E h => len_prime_powers h) (fun cdv A outer s H vs Q E hr h => ⟨t_prime_powers K, PSs.nox ?_, pure_prime_powers K vs H Q E h⟩), F.bindsN (fun _ _ _ _ _ _ us hl => match us, hl with | [_], _ => rfl), T.g_prime_powers, F.kp⟩
  exact (pss_cons (ps_set (i := 1) sc_prime_powers.nd rfl (by first | exact Or.inl rfl | exact Or.inr rfl) (pe_lst pa_nil))
      (pss_cons (ps_set (i := 2) sc_prime_powers.nd rfl (by first | exact Or.inl rfl | exact Or.inr rfl) (pv 0))
      (pss_cons (ps_set (i := 3) sc_prime_powers.nd rfl (by first | exact Or.inl rfl | exact Or.inr rfl) pe_int)
      (pss_cons (ps_while PassesOwn.never (pt_cmpR op_le (pe_op op_mulU (pv 3) (pv 3)) (pv 2) (nomark _)) (pss_cons (ps_set (i := 4) sc_prime_powers.nd rfl (by first | exact Or.inl rfl | exact Or.inr rfl) pe_int)
      (pss_cons (ps_while PassesOwn.never (pt_cmpR op_eq (pe_op op_mod (pv 2) (pv 3)) pe_int (nomark _)) (pss_cons (ps_set (i := 2) sc_prime_powers.nd rfl (by first | exact Or.inl rfl | exact Or.inr rfl) (pe_op op_fdivW (pv 2) (pv 3)))
      (pss_one (ps_aug (i := 4) sc_prime_powers.nd rfl (by first | exact Or.inl rfl | exact Or.inr rfl) pe_int ip_add))))
      (pss_cons (ps_if (pt_cmpR op_gt (pv 4) pe_int (nomark _)) (pss_one (ps_expr (pe_bm PySem.F.plainAttrs_list PySem.F.slot_list_append PySem.F.type_list_append mt_append (pv 1) (pa_cons (pe_tup (pa_cons (pv 3) (pa_cons (pv 4) pa_nil))) pa_nil)))) pss_nil)
      (pss_one (ps_aug (i := 3) sc_prime_powers.nd rfl (by first | exact Or.inl rfl | exact Or.inr rfl) (pe_ifExp (pt_cmpR op_eq (pv 3) pe_int (nomark _)) pe_int pe_int) ip_add))))))
      (pss_cons (ps_if (pt_cmpR op_gt (pv 2) pe_int (nomark _)) (pss_one (ps_expr (pe_bm PySem.F.plainAttrs_list PySem.F.slot_list_append PySem.F.type_list_append mt_append (pv 1) (pa_cons (pe_tup (pa_cons (pv 2) (pa_cons pe_int pa_nil))) pa_nil)))) pss_nil)
      (pss_one (ps_ret (pe_callTy call_tuple_of (by rfl) hf_tuple (by decide +kernel) (pa_cons (pv 1) pa_nil)))))))))
/-! ### is_below -/
theorem sc_is_below : FnScope ["value", "limit"] ["value", "limit"] (defScope s_is_below) := ⟨rfl, rfl, rfl, by decide +kernel, rfl, by decide +kernel, by decide +kernel⟩
def sp_is_below (K : PySem.W.Frag) : Sp := fun vs H Q _ => ∃ i l : Int, vs = [.int i, .int l] ∧ Q (.bl (decide (-l < i ∧ i < l))) H
theorem len_is_below {K : PySem.W.Frag} {vs : List V} {H : Hp} {Q : VK} {E : XK} (h : sp_is_below K vs H Q E) : vs.length = ["value", "limit"].length := by
  obtain ⟨_, _, rfl, _⟩ := h
  rfl
def t_is_below (K : PySem.W.Frag) : TS := (tRet (tAndV (tCall (sp_is_int K) [] E0 (tCons (tVar 0) tNil)) (tOrV (tIsN (tVar 1)) (tChain rLtI rLtI (tUn rNeg (tVar 1)) (tVar 0) (tVar 1)))))
theorem pure_is_below (K : PySem.W.Frag) (vs : List V) (H : Hp) (Q : VK) (E : XK) (h : sp_is_below K vs H Q E) : t_is_below K { nx := fun _ H' => Q .non H', rt := Q } (start ["value", "limit"] vs) H := by
  obtain ⟨i, l, rfl, hq⟩ := h
  unfold t_is_below
  walk_at "z"
  refine ⟨_, rfl, ?_⟩
  walk_at "z"
  by_cases h1 : -l < i
  · rw [if_pos h1]
    simpa [h1] using hq
  · rw [if_neg h1]
    simpa [h1] using hq
theorem ok_is_below {P : Program} {w : World} {K : PySem.W.Frag} {mg : Str → Option Value} {base : Heap} (T : Tx K mg) : Okk P w K mg base 2 "is_below" ["value", "limit"] (sp_is_below K) := by
  obtain ⟨fd_is_int, F_is_int, b_is_int, g_is_int, k_is_int⟩ := ok_is_int (P := P) (w := w) (base := base) T
  obtain ⟨fd, F⟩ := T.f_is_below
  refine ⟨fd, F.ok sc_is_below (fun vs H Q E h => len_is_below h) (fun cdv A outer s H vs Q E hr h => ⟨t_is_below K, PSs.nox ?_, pure_is_below K vs H Q E h⟩), F.bindsN (fun _ _ _ _ _ _ us hl => match us, hl with | [_, _], _ => rfl), T.g_is_below, F.kp⟩
  exact (pss_one (ps_ret (pe_and (pe_call F_is_int (hr.mono (by decide)) rfl g_is_int k_is_int b_is_int .nil pass0 (pa_cons (pv 0) pa_nil)) (pe_one (pe_or (pe_cmp (pc_isN (pv 1))) (pe_one (pe_chain op_lt op_lt (pe_un un_neg (pv 1)) (pv 0) (pv 1))))))))
/-! ### check_between -/
theorem sc_check_between : FnScope ["number", "low", "high"] ["number", "low", "high"] (defScope s_check_between) := ⟨rfl, rfl, rfl, by decide +kernel, rfl, by decide +kernel, by decide +kernel⟩
def sp_check_between (K : PySem.W.Frag) : Sp := fun vs H Q _ => ∃ n lo hi : Int, vs = [.int n, .int lo, .int hi] ∧ lo ≤ n ∧ n ≤ hi ∧ Q .non H
theorem len_check_between {K : PySem.W.Frag} {vs : List V} {H : Hp} {Q : VK} {E : XK} (h : sp_check_between K vs H Q E) : vs.length = ["number", "low", "high"].length := by
  obtain ⟨_, _, _, rfl, _⟩ := h
  rfl
def t_check_between (K : PySem.W.Frag) : TS := (tIfS (tOr (tNot (tB (tCall (sp_is_int K) [] E0 (tCons (tVar 0) tNil)))) (tOr (tTest (tOp rLtI (tVar 0) (tVar 1))) (tTest (tOp rGtI (tVar 0) (tVar 2))))) tNever tNext)
theorem pure_check_between (K : PySem.W.Frag) (vs : List V) (H : Hp) (Q : VK) (E : XK) (h : sp_check_between K vs H Q E) : t_check_between K { nx := fun _ H' => Q .non H', rt := Q } (start ["number", "low", "high"] vs) H := by
  obtain ⟨n, lo, hi, rfl, h1, h2, hq⟩ := h
  unfold t_check_between
  walk_at "z"
  refine ⟨_, rfl, ?_⟩
  walk_at "z"
  rw [if_neg (by omega), if_neg (by omega)]
  exact hq
theorem ok_check_between {P : Program} {w : World} {K : PySem.W.Frag} {mg : Str → Option Value} {base : Heap} (T : Tx K mg) : Okk P w K mg base 2 "check_between" ["number", "low", "high"] (sp_check_between K) := by
  obtain ⟨fd_is_int, F_is_int, b_is_int, g_is_int, k_is_int⟩ := ok_is_int (P := P) (w := w) (base := base) T
  obtain ⟨fd, F⟩ := T.f_check_between
  refine ⟨fd, F.ok sc_check_between (fun vs H Q E h => len_check_between h) (fun cdv A outer s H vs Q E hr h => ⟨t_check_between K, PSs.nox ?_, pure_check_between K vs H Q E h⟩), F.bindsN (fun _ _ _ _ _ _ us hl => match us, hl with | [_, _, _], _ => rfl), T.g_check_between, F.kp⟩
  exact (pss_one (ps_if (PW.pt (pw_or (pt_not (pt_val (pe_call F_is_int (hr.mono (by decide)) rfl g_is_int k_is_int b_is_int .nil pass0 (pa_cons (pv 0) pa_nil)))) (pw_or (pt_cmpR op_lt (pv 0) (pv 1) (nomark _)) (pw_or1 (pt_cmpR op_gt (pv 0) (pv 2) (nomark _)))))) pss_never pss_nil))
/-! ### least_maker_by -/
theorem sc_least_maker_by : FnScope ["prime", "parts", "maker", "part", "_"] ["prime", "parts"] (defScope s_least_maker_by) := ⟨rfl, rfl, rfl, by decide +kernel, rfl, by decide +kernel, by decide +kernel⟩
/-- no power with an exponent (p - 1) / q leaves 1 -/
def MkOk (p : Int) (ps : List (Nat × Nat)) (g : Int) : Prop := ∀ q ∈ ps, g ^ ((p - 1) / (q.1 : Int)).toNat % p ≠ 1
def sp_least_maker_by (K : PySem.W.Frag) : Sp := fun vs H Q _ => ∃ (p : Int) (T : Addr) (xs : List V) (ps : List (Nat × Nat)) (g : Nat), vs = [.int p, .ref T] ∧ 2 ≤ p ∧ p < 2 ^ 40 ∧ SqT K H T xs ∧ PR H xs ps ∧ ps.length < 2 ^ 20 ∧ (∀ q ∈ ps, 2 ≤ q.1 ∧ q.1 < 2 ^ 40) ∧
  1 ≤ g ∧ MkOk p ps g ∧ (∀ k : Nat, 1 ≤ k → k < g → ¬ MkOk p ps k) ∧ ∀ H', Same H H' → Q (.int (g : Int)) H'
theorem len_least_maker_by {K : PySem.W.Frag} {vs : List V} {H : Hp} {Q : VK} {E : XK} (h : sp_least_maker_by K vs H Q E) : vs.length = ["prime", "parts"].length := by
  obtain ⟨_, _, _, _, _, rfl, _⟩ := h
  rfl
def t_least_maker_by_w1_c (K : PySem.W.Frag) : TT := (tTest (tOp (rIn K false) (tC (.int 1)) (tLc (iTup K (tVar 1)) (gTup K 2 (gCons (gName 3) (gCons (gName 4) gNil))) tYes (tCall (sp_power_modulo K) [] E0 (tCons (tVar 2) (tCons (tOp rDivU (tOp rSub (tVar 0) (tC (.int 1))) (tVar 3)) (tCons (tVar 0) tNil)))) [3, 4])))
def t_least_maker_by_w1_b (K : PySem.W.Frag) : TS := (tAug 2 (tC (.int 1)) (ipI fun i j => i + j))
def t_least_maker_by (K : PySem.W.Frag) : TS := (tSeq (tAsg (tC (.int 1)) (gName 2))
  (tSeq (tWhile (t_least_maker_by_w1_c K) (t_least_maker_by_w1_b K))
  (tRet (tVar 2))))
theorem sqT_same {K : PySem.W.Frag} {H H' : Hp} {a : Addr} {xs : List V} (h : SqT K H a xs) (s : Same H H') : SqT K H' a xs := by
  rcases h with (h | ⟨o, h⟩) | h
  · exact .inl (.inl (s _ _ h))
  · exact .inl (.inr ⟨o, s _ _ h⟩)
  · exact .inr h
theorem outL_all {f : Nat → V} {n : Nat} : outL (fun i => some (f i)) n = (List.range n).map f := by
  unfold outL
  simp
theorem in_ints {K : PySem.W.Frag} {H : Hp} {D : Addr} {k : Int} {ns : List Int} {Q : VK} (h : H D = some (.lst (ns.map V.int))) (q : Q (.bl (decide (k ∈ ns))) H) : rIn K false (.int k) (.ref D) H Q := by
  refine ⟨D, _, rfl, .inl (sqL_of h), rfl, ?_, ?_⟩
  · simp [flatV]
  · have e : inV (.int k) (ns.map V.int) = decide (k ∈ ns) := by
      rw [Bool.eq_iff_iff, decide_eq_true_eq]
      simp [inV, eqV]
    simp only [Bool.false_eq_true, if_false, e]
    exact q
theorem pure_least_maker_by (K : PySem.W.Frag) (vs : List V) (H : Hp) (Q : VK) (E : XK) (h : sp_least_maker_by K vs H Q E) : t_least_maker_by K { nx := fun _ H' => Q .non H', rt := Q } (start ["prime", "parts", "maker", "part", "_"] vs) H := by
  obtain ⟨p, T, xs, ps, g, rfl, hp, hp2, hT, hPR, hpl, hps, hg, hgo, hgl, hq⟩ := h
  unfold t_least_maker_by
  walk_at "z"
  refine while_of (fun μ σ H' => ∃ m : Nat, σ = [some (.int p), some (.ref T), some (.int (m : Int)), none, none] ∧ Same H H' ∧ 1 ≤ m ∧ m ≤ g ∧ μ = g - m) (g - 1) ⟨1, rfl, Same.refl H, by omega, hg, rfl⟩ ?_
  rintro μ σ H' ⟨m, rfl, hS, hm, hmg, rfl⟩ N hN hN2
  unfold t_least_maker_by_w1_c t_least_maker_by_w1_b
  walk_at "z"
  have hT' := sqT_same hT hS
  have hPR' := hPR.same hS
  have hxl : xs.length < 2 ^ 20 := by rw [hPR.len]; exact hpl
  refine ⟨T, rfl, ⟨xs, hT'⟩, comp_T hT' (fun i => some (V.int ((m : Int) ^ ((p - 1) / ((ps.getD i ((0 : Nat), (0 : Nat))).1 : Int)).toNat % p))) (by omega) (fun i x H2 hx s2 Qo hQo => ?_) (fun D H2 s2 hD => ?_)⟩
  · obtain ⟨q, t, h1, rfl, h3⟩ := hPR'.get hx
    have hq2 := hps q (List.mem_of_getElem? h1)
    walk_at "z"
    refine ⟨_, sqT_of (s2 _ _ h3), rfl, ?_⟩
    walk_at "z"
    refine ⟨divS (by omega) (by omega), _, _, _, rfl, Int.ediv_nonneg (by omega) (by omega), by omega, by omega, ?_⟩
    have := hQo H2 (Same.refl H2)
    rw [List.getD_eq_getElem?_getD, h1] at this
    exact this
  · rw [outL_all] at hD
    have e : (List.range xs.length).map (fun i => V.int ((m : Int) ^ ((p - 1) / ((ps.getD i ((0 : Nat), (0 : Nat))).1 : Int)).toNat % p)) = (ps.map fun q => (m : Int) ^ ((p - 1) / (q.1 : Int)).toNat % p).map V.int := by
      rw [hPR.len]
      apply List.ext_getElem
      · simp
      · intro i h1 h2
        have h3 : i < ps.length := by simpa using h1
        simp [h3]
    rw [e] at hD
    refine in_ints hD ?_
    walk_at "z"
    have hmem : (1 : Int) ∈ (ps.map fun q => (m : Int) ^ ((p - 1) / (q.1 : Int)).toNat % p) ↔ ¬ MkOk p ps m := by
      unfold MkOk
      rw [List.mem_map]
      constructor
      · rintro ⟨q, hq1, hq2⟩ h
        exact h q hq1 hq2
      · intro h
        refine Classical.byContradiction fun h2 => h fun q hq1 hq2 => h2 ⟨q, hq1, hq2⟩
    by_cases hin : (1 : Int) ∈ (ps.map fun q => (m : Int) ^ ((p - 1) / (q.1 : Int)).toNat % p)
    · rw [if_pos hin]
      refine ⟨N, hN2, ?_⟩
      walk_at "z"
      have hlt : m < g := by
        refine Nat.lt_of_le_of_ne hmg fun e => hmem.mp hin ?_
        rw [e]; exact hgo
      exact hN _ _ _ (by omega) ⟨m + 1, rfl, hS.trans s2, by omega, by omega, rfl⟩
    · rw [if_neg hin]
      have he : m = g := by
        refine Classical.byContradiction fun e => hgl m hm (by omega) (Classical.byContradiction fun h2 => hin (hmem.mpr h2))
      subst he
      exact hq _ (hS.trans s2)
theorem ok_least_maker_by {P : Program} {w : World} {K : PySem.W.Frag} {mg : Str → Option Value} {base : Heap} (T : Tx K mg) : Okk P w K mg base 2 "least_maker_by" ["prime", "parts"] (sp_least_maker_by K) := by
  obtain ⟨fd_power_modulo, F_power_modulo, b_power_modulo, g_power_modulo, k_power_modulo⟩ := ok_power_modulo (P := P) (w := w) (base := base) T
  obtain ⟨fd, F⟩ := T.f_least_maker_by
  refine ⟨fd, F.ok sc_least_maker_by (fun vs H Q E h => len_least_maker_by h) (fun cdv A outer s H vs Q E hr h => ⟨t_least_maker_by K, PSs.nox ?_, pure_least_maker_by K vs H Q E h⟩), F.bindsN (fun _ _ _ _ _ _ us hl => match us, hl with | [_, _], _ => rfl), T.g_least_maker_by, F.kp⟩
  exact (pss_cons (ps_set (i := 2) sc_least_maker_by.nd rfl (by first | exact Or.inl rfl | exact Or.inr rfl) pe_int)
      (pss_cons (ps_while PassesOwn.never (pt_cmpR op_in_seq pe_int (pe_lc (own := [("part", 3), ("_", 4)]) (g := (gTup K 2 (gCons (gName 3) (gCons (gName 4) gNil)))) (tt := tYes) rfl sc_least_maker_by.nd (pi_tup (pv 1)) (blkOk_by (own := [("part", 3), ("_", 4)]) (N := ["prime", "parts", "maker", "part", "_"]) (sc := defScope s_least_maker_by) (by decide +kernel)) (fun _ _ _ _ _ => (pg_tup rfl (pgs_cons (pg_name (i := 3) sc_least_maker_by.nd rfl (by first | exact Or.inl rfl | exact Or.inr rfl)) (pgs_cons (pg_name (i := 4) sc_least_maker_by.nd rfl (by first | exact Or.inl rfl | exact Or.inr rfl)) pgs_nil)))) (fun _ _ _ _ _ => pts_nil) (fun _ _ _ _ _ => (pe_call F_power_modulo (hr.mono (by decide)) rfl g_power_modulo k_power_modulo b_power_modulo .nil pass0 (pa_cons (pv 2) (pa_cons (pe_op op_fdivW (pe_op op_sub (pv 0) pe_int) (pv 3)) (pa_cons (pv 0) pa_nil)))))) rfl) (pss_one (ps_aug (i := 2) sc_least_maker_by.nd rfl (by first | exact Or.inl rfl | exact Or.inr rfl) pe_int ip_add)))
      (pss_one (ps_ret (pv 2)))))
/-! ### count_units -/
theorem sc_count_units : FnScope ["parts", "many", "prime", "often"] ["parts"] (defScope s_count_units) := ⟨rfl, rfl, rfl, by decide +kernel, rfl, by decide +kernel, by decide +kernel⟩
def CuOk (ps : List (Nat × Nat)) : Prop := ∀ q ∈ ps, 2 ≤ q.1 ∧ q.1 < 2 ^ 40 ∧ 1 ≤ q.2 ∧ q.1 ^ (q.2 - 1) < 2 ^ 62
def sp_count_units (K : PySem.W.Frag) : Sp := fun vs H Q _ => ∃ (T : Addr) (xs : List V) (ps : List (Nat × Nat)), vs = [.ref T] ∧ SqT K H T xs ∧ PR H xs ps ∧ CuOk ps ∧ Q (.int (cuN ps : Int)) H
theorem len_count_units {K : PySem.W.Frag} {vs : List V} {H : Hp} {Q : VK} {E : XK} (h : sp_count_units K vs H Q E) : vs.length = ["parts"].length := by
  obtain ⟨_, _, _, rfl, _⟩ := h
  rfl
def t_count_units_f1_b (K : PySem.W.Frag) : TS := (tAsg (tOp rMulU (tOp rMulU (tVar 1) (tOp rSub (tVar 2) (tC (.int 1)))) (tCall (sp_integer_power K) [] E0 (tCons (tVar 2) (tCons (tOp rSub (tVar 3) (tC (.int 1))) tNil)))) (gName 1))
def t_count_units (K : PySem.W.Frag) : TS := (tSeq (tAsg (tC (.int 1)) (gName 1))
  (tSeq (tFor (iTup K (tVar 0)) (gTup K 2 (gCons (gName 2) (gCons (gName 3) gNil))) (t_count_units_f1_b K))
  (tRet (tVar 1))))
theorem cuN_take {ps : List (Nat × Nat)} {i : Nat} {q : Nat × Nat} (h : ps[i]? = some q) : cuN (ps.take (i + 1)) = cuN (ps.take i) * (q.1 - 1) * q.1 ^ (q.2 - 1) := by
  unfold cuN
  rw [List.take_succ, h]
  simp
theorem pure_count_units (K : PySem.W.Frag) (vs : List V) (H : Hp) (Q : VK) (E : XK) (h : sp_count_units K vs H Q E) : t_count_units K { nx := fun _ H' => Q .non H', rt := Q } (start ["parts", "many", "prime", "often"] vs) H := by
  obtain ⟨T, xs, ps, rfl, hT, hPR, hok, hq⟩ := h
  unfold t_count_units
  walk_at "z"
  refine ⟨T, rfl, ⟨xs, hT⟩, for_T (xs := xs) (fun i σ H' => ∃ o1 o2, σ = [some (.ref T), some (.int (cuN (ps.take i) : Int)), o1, o2] ∧ H' = H) ⟨_, _, rfl, rfl⟩ (fun i σ H' _ h => by obtain ⟨_, _, _, rfl⟩ := h; exact hT) (fun i x σ H' hx h N hN => ?_) (fun σ H' h => ?_)⟩
  · obtain ⟨o1, o2, rfl, rfl⟩ := h
    obtain ⟨q, t, h1, rfl, h3⟩ := hPR.get hx
    obtain ⟨a1, a2, a3, a4⟩ := hok q (List.mem_of_getElem? h1)
    unfold t_count_units_f1_b
    walk_at "z"
    refine ⟨_, sqT_of h3, rfl, ?_⟩
    walk_at "z"
    refine ⟨mulR (by omega), _, _, rfl, by omega, by omega, ?_, by omega, ?_⟩
    · have : ((q.1 : Int) ^ ((q.2 : Int) - 1).toNat) = ((q.1 ^ (q.2 - 1) : Nat) : Int) := by
        rw [Int.natCast_pow]; congr 1; omega
      rw [this]; omega
    · walk_at "z"
      refine ⟨mulR ?_, hN _ _ ⟨some (.int q.1), some (.int q.2), ?_, rfl⟩⟩
      · have : ((q.1 : Int) ^ ((q.2 : Int) - 1).toNat) = ((q.1 ^ (q.2 - 1) : Nat) : Int) := by
          rw [Int.natCast_pow]; congr 1; omega
        rw [this]; omega
      · rw [cuN_take h1]
        have e1 : ((q.1 : Int) ^ ((q.2 : Int) - 1).toNat) = ((q.1 ^ (q.2 - 1) : Nat) : Int) := by
          rw [Int.natCast_pow]; congr 1; omega
        have e2 : ((q.1 : Int) - 1) = ((q.1 - 1 : Nat) : Int) := by omega
        rw [e1, e2, ← Int.natCast_mul, ← Int.natCast_mul]
  · obtain ⟨o1, o2, rfl, rfl⟩ := h
    walk_at "z"
    rw [hPR.len, List.take_length]
    exact hq

theorem ok_count_units {P : Program} {w : World} {K : PySem.W.Frag} {mg : Str → Option Value} {base : Heap} (T : Tx K mg) : Okk P w K mg base 2 "count_units" ["parts"] (sp_count_units K) := by
  obtain ⟨fd_integer_power, F_integer_power, b_integer_power, g_integer_power, k_integer_power⟩ := ok_integer_power (P := P) (w := w) (base := base) T
  obtain ⟨fd, F⟩ := T.f_count_units
  refine ⟨fd, F.ok sc_count_units (fun vs H Q E h => len_count_units h) (fun cdv A outer s H vs Q E hr h => ⟨t_count_units K, PSs.nox ?_, pure_count_units K vs H Q E h⟩), F.bindsN (fun _ _ _ _ _ _ us hl => match us, hl with | [_], _ => rfl), T.g_count_units, F.kp⟩
  exact (pss_cons (ps_set (i := 1) sc_count_units.nd rfl (by first | exact Or.inl rfl | exact Or.inr rfl) pe_int)
      (pss_cons (ps_for PassesOwn.never rfl (pi_tup (pv 0)) (pg_tup rfl (pgs_cons (pg_name (i := 2) sc_count_units.nd rfl (by first | exact Or.inl rfl | exact Or.inr rfl)) (pgs_cons (pg_name (i := 3) sc_count_units.nd rfl (by first | exact Or.inl rfl | exact Or.inr rfl)) pgs_nil))) (pss_one (ps_set (i := 1) sc_count_units.nd rfl (by first | exact Or.inl rfl | exact Or.inr rfl) (pe_op op_mulU (pe_op op_mulU (pv 1) (pe_op op_sub (pv 2) pe_int)) (pe_call F_integer_power (hr.mono (by decide)) rfl g_integer_power k_integer_power b_integer_power .nil pass0 (pa_cons (pv 2) (pa_cons (pe_op op_sub (pv 3) pe_int) pa_nil)))))))
      (pss_one (ps_ret (pv 1)))))
/-! ### check_integer -/
theorem sc_check_integer : FnScope ["number"] ["number"] (defScope s_check_integer) := ⟨rfl, rfl, rfl, by decide +kernel, rfl, by decide +kernel, by decide +kernel⟩
def sp_check_integer (K : PySem.W.Frag) : Sp := fun vs H Q _ => ∃ n : Int, vs = [.int n] ∧ -(10 ^ 60) < n ∧ n < 10 ^ 60 ∧ Q .non H
theorem len_check_integer {K : PySem.W.Frag} {vs : List V} {H : Hp} {Q : VK} {E : XK} (h : sp_check_integer K vs H Q E) : vs.length = ["number"].length := by
  obtain ⟨_, rfl, _⟩ := h
  rfl
def t_check_integer (K : PySem.W.Frag) : TS := (tIfS (tNot (tB (tCall (sp_is_below K) [] E0 (tCons (tVar 0) (tCons (tC (.int 1000000000000000000000000000000000000000000000000000000000000)) tNil))))) tNever tNext)
theorem pure_check_integer (K : PySem.W.Frag) (vs : List V) (H : Hp) (Q : VK) (E : XK) (h : sp_check_integer K vs H Q E) : t_check_integer K { nx := fun _ H' => Q .non H', rt := Q } (start ["number"] vs) H := by
  obtain ⟨n, rfl, h1, h2, hq⟩ := h
  unfold t_check_integer
  walk_at "z"
  refine ⟨_, _, rfl, ?_⟩
  walk_at "z"
  rw [if_neg (by omega)]
  exact hq
theorem ok_check_integer {P : Program} {w : World} {K : PySem.W.Frag} {mg : Str → Option Value} {base : Heap} (T : Tx K mg) : Okk P w K mg base 3 "check_integer" ["number"] (sp_check_integer K) := by
  obtain ⟨fd_is_below, F_is_below, b_is_below, g_is_below, k_is_below⟩ := ok_is_below (P := P) (w := w) (base := base) T
  obtain ⟨_, hc_SIXTY_DIGITS⟩ := T.c_SIXTY_DIGITS
  obtain ⟨fd, F⟩ := T.f_check_integer
  refine ⟨fd, F.ok sc_check_integer (fun vs H Q E h => len_check_integer h) (fun cdv A outer s H vs Q E hr h => ⟨t_check_integer K, PSs.nox ?_, pure_check_integer K vs H Q E h⟩), F.bindsN (fun _ _ _ _ _ _ us hl => match us, hl with | [_], _ => rfl), T.g_check_integer, F.kp⟩
  exact (pss_one (ps_if (pt_not (pt_val (pe_call F_is_below (hr.mono (by decide)) rfl g_is_below k_is_below b_is_below .nil pass0 (pa_cons (pv 0) (pa_cons (pe_glob rfl hc_SIXTY_DIGITS ⟨_, rfl⟩) pa_nil))))) pss_never pss_nil))
/-! ### is_prime -/
theorem sc_is_prime : FnScope ["number"] ["number"] (defScope s_is_prime) := ⟨rfl, rfl, rfl, by decide +kernel, rfl, by decide +kernel, by decide +kernel⟩
def sp_is_prime (K : PySem.W.Frag) : Sp := fun vs H Q _ => ∃ n : Int, vs = [.int n] ∧ 0 ≤ n ∧ n ≤ 10 ^ 8 ∧ ∀ b : Bool, (b = true ↔ PrimeI n) → Q (.bl b) H
theorem len_is_prime {K : PySem.W.Frag} {vs : List V} {H : Hp} {Q : VK} {E : XK} (h : sp_is_prime K vs H Q E) : vs.length = ["number"].length := by
  obtain ⟨_, rfl, _⟩ := h
  rfl
def t_is_prime (K : PySem.W.Frag) : TS := (tSeq (tDrop (tCall (sp_check_between K) [] E0 (tCons (tVar 0) (tCons (tC (.int 0)) (tCons (tC (.int 100000000)) tNil)))))
  (tRet (tCall (sp_has_no_parts K) [] E0 (tCons (tVar 0) tNil))))
theorem pure_is_prime (K : PySem.W.Frag) (vs : List V) (H : Hp) (Q : VK) (E : XK) (h : sp_is_prime K vs H Q E) : t_is_prime K { nx := fun _ H' => Q .non H', rt := Q } (start ["number"] vs) H := by
  obtain ⟨n, rfl, h1, h2, hq⟩ := h
  unfold t_is_prime
  walk_at "z"
  refine ⟨_, _, _, rfl, h1, by omega, ?_⟩
  walk_at "z"
  exact ⟨n, rfl, by omega, hq⟩
theorem ok_is_prime {P : Program} {w : World} {K : PySem.W.Frag} {mg : Str → Option Value} {base : Heap} (T : Tx K mg) : Okk P w K mg base 3 "is_prime" ["number"] (sp_is_prime K) := by
  obtain ⟨fd_has_no_parts, F_has_no_parts, b_has_no_parts, g_has_no_parts, k_has_no_parts⟩ := ok_has_no_parts (P := P) (w := w) (base := base) T
  obtain ⟨fd_check_between, F_check_between, b_check_between, g_check_between, k_check_between⟩ := ok_check_between (P := P) (w := w) (base := base) T
  obtain ⟨_, hc_MOST⟩ := T.c_MOST
  obtain ⟨fd, F⟩ := T.f_is_prime
  refine ⟨fd, F.ok sc_is_prime (fun vs H Q E h => len_is_prime h) (fun cdv A outer s H vs Q E hr h => ⟨t_is_prime K, PSs.nox ?_, pure_is_prime K vs H Q E h⟩), F.bindsN (fun _ _ _ _ _ _ us hl => match us, hl with | [_], _ => rfl), T.g_is_prime, F.kp⟩
  exact (pss_cons (ps_expr (pe_call F_check_between (hr.mono (by decide)) rfl g_check_between k_check_between b_check_between .nil pass0 (pa_cons (pv 0) (pa_cons pe_int (pa_cons (pe_glob rfl hc_MOST ⟨_, rfl⟩) pa_nil)))))
      (pss_one (ps_ret (pe_call F_has_no_parts (hr.mono (by decide)) rfl g_has_no_parts k_has_no_parts b_has_no_parts .nil pass0 (pa_cons (pv 0) pa_nil)))))
/-! ### units_number -/
theorem sc_units_number : FnScope ["number"] ["number"] (defScope s_units_number) := ⟨rfl, rfl, rfl, by decide +kernel, rfl, by decide +kernel, by decide +kernel⟩
def sp_units_number (K : PySem.W.Frag) : Sp := fun vs H Q _ => ∃ n : Nat, vs = [.int (n : Int)] ∧ 1 ≤ n ∧ n ≤ 10 ^ 8 ∧ ∀ H', Same H H' → Q (.int (cuN (ppN n) : Int)) H'
theorem len_units_number {K : PySem.W.Frag} {vs : List V} {H : Hp} {Q : VK} {E : XK} (h : sp_units_number K vs H Q E) : vs.length = ["number"].length := by
  obtain ⟨_, rfl, _⟩ := h
  rfl
def t_units_number (K : PySem.W.Frag) : TS := (tSeq (tDrop (tCall (sp_check_between K) [] E0 (tCons (tVar 0) (tCons (tC (.int 1)) (tCons (tC (.int 100000000)) tNil)))))
  (tRet (tCall (sp_count_units K) [] E0 (tCons (tCall (sp_prime_powers K) [] E0 (tCons (tVar 0) tNil)) tNil))))
theorem cuOk_pp {n : Nat} (h1 : 1 ≤ n) (h2 : n < 2 ^ 40) : CuOk (ppN n) := fun q hq => by
  have g := ppN_good h1
  obtain ⟨a, b, c⟩ := g.le h1 hq
  obtain ⟨d, e⟩ := g.pr q hq
  exact ⟨d.1, by omega, e, by omega⟩
theorem pure_units_number (K : PySem.W.Frag) (vs : List V) (H : Hp) (Q : VK) (E : XK) (h : sp_units_number K vs H Q E) : t_units_number K { nx := fun _ H' => Q .non H', rt := Q } (start ["number"] vs) H := by
  obtain ⟨n, rfl, h1, h2, hq⟩ := h
  unfold t_units_number
  walk_at "z"
  refine ⟨_, _, _, rfl, by omega, by omega, ?_⟩
  walk_at "z"
  refine ⟨n, rfl, h1, by omega, fun T xs H1 s1 hT hP => ?_⟩
  walk_at "z"
  exact ⟨T, xs, _, rfl, sqT_of hT, hP, cuOk_pp h1 (by omega), hq _ s1⟩
theorem ok_units_number {P : Program} {w : World} {K : PySem.W.Frag} {mg : Str → Option Value} {base : Heap} (T : Tx K mg) : Okk P w K mg base 3 "units_number" ["number"] (sp_units_number K) := by
  obtain ⟨fd_check_between, F_check_between, b_check_between, g_check_between, k_check_between⟩ := ok_check_between (P := P) (w := w) (base := base) T
  obtain ⟨fd_prime_powers, F_prime_powers, b_prime_powers, g_prime_powers, k_prime_powers⟩ := ok_prime_powers (P := P) (w := w) (base := base) T
  obtain ⟨fd_count_units, F_count_units, b_count_units, g_count_units, k_count_units⟩ := ok_count_units (P := P) (w := w) (base := base) T
  obtain ⟨_, hc_MOST⟩ := T.c_MOST
  obtain ⟨fd, F⟩ := T.f_units_number
  refine ⟨fd, F.ok sc_units_number (fun vs H Q E h => len_units_number h) (fun cdv A outer s H vs Q E hr h => ⟨t_units_number K, PSs.nox ?_, pure_units_number K vs H Q E h⟩), F.bindsN (fun _ _ _ _ _ _ us hl => match us, hl with | [_], _ => rfl), T.g_units_number, F.kp⟩
  exact (pss_cons (ps_expr (pe_call F_check_between (hr.mono (by decide)) rfl g_check_between k_check_between b_check_between .nil pass0 (pa_cons (pv 0) (pa_cons pe_int (pa_cons (pe_glob rfl hc_MOST ⟨_, rfl⟩) pa_nil)))))
      (pss_one (ps_ret (pe_call F_count_units (hr.mono (by decide)) rfl g_count_units k_count_units b_count_units .nil pass0 (pa_cons (pe_call F_prime_powers (hr.mono (by decide)) rfl g_prime_powers k_prime_powers b_prime_powers .nil pass0 (pa_cons (pv 0) pa_nil)) pa_nil)))))
/-! ### least_maker -/
theorem sc_least_maker : FnScope ["prime"] ["prime"] (defScope s_least_maker) := ⟨rfl, rfl, rfl, by decide +kernel, rfl, by decide +kernel, by decide +kernel⟩
def sp_least_maker (K : PySem.W.Frag) : Sp := fun vs H Q _ => ∃ p g : Nat, vs = [.int (p : Int)] ∧ p ≤ 10 ^ 8 ∧ PrimeI p ∧ 1 ≤ g ∧ MkOk p (ppN (p - 1)) g ∧ (∀ k : Nat, 1 ≤ k → k < g → ¬ MkOk p (ppN (p - 1)) k) ∧ ∀ H', Same H H' → Q (.int (g : Int)) H'
theorem len_least_maker {K : PySem.W.Frag} {vs : List V} {H : Hp} {Q : VK} {E : XK} (h : sp_least_maker K vs H Q E) : vs.length = ["prime"].length := by
  obtain ⟨_, _, rfl, _⟩ := h
  rfl
def t_least_maker (K : PySem.W.Frag) : TS := (tSeq (tIfS (tOr (tNot (tB (tCall (sp_is_int K) [] E0 (tCons (tVar 0) tNil)))) (tOr (tTest (tOp rGtI (tVar 0) (tC (.int 100000000)))) (tNot (tB (tCall (sp_has_no_parts K) [] E0 (tCons (tVar 0) tNil)))))) tNever tNext)
  (tRet (tCall (sp_least_maker_by K) [] E0 (tCons (tVar 0) (tCons (tCall (sp_prime_powers K) [] E0 (tCons (tOp rSub (tVar 0) (tC (.int 1))) tNil)) tNil)))))
theorem pure_least_maker (K : PySem.W.Frag) (vs : List V) (H : Hp) (Q : VK) (E : XK) (h : sp_least_maker K vs H Q E) : t_least_maker K { nx := fun _ H' => Q .non H', rt := Q } (start ["prime"] vs) H := by
  obtain ⟨p, g, rfl, h1, hp, hg, h2, h3, hq⟩ := h
  unfold t_least_maker
  walk_at "z"
  refine ⟨_, rfl, ?_⟩
  walk_at "z"
  rw [if_neg (by omega)]
  refine ⟨_, rfl, by omega, fun b hb => ?_⟩
  walk_at "z"
  have hbt : b = true := hb.mpr hp
  rw [hbt]
  walk_at "z"
  have p2 := hp.1
  have e : (p : Int) - 1 = ((p - 1 : Nat) : Int) := by omega
  rw [e]
  refine ⟨p - 1, rfl, by omega, by omega, fun T xs H1 s1 hT hP => ?_⟩
  walk_at "z"
  have gd := ppN_good (show 1 ≤ p - 1 by omega)
  refine ⟨p, T, xs, _, g, rfl, by omega, by omega, sqT_of hT, hP, ?_, fun q hq => ?_, hg, h2, h3, fun H2 s2 => hq _ (s1.trans s2)⟩
  · have := len_le gd.pr
    rw [gd.prod] at this
    refine Classical.byContradiction fun c => ?_
    have h5 := Nat.pow_le_pow_right (show 0 < 2 by omega) (show 27 ≤ (ppN (p - 1)).length by omega)
    omega
  · have h4 := (gd.pr q hq).1.1
    have h5 := gd.le (show 1 ≤ p - 1 by omega) hq
    omega

theorem ok_least_maker {P : Program} {w : World} {K : PySem.W.Frag} {mg : Str → Option Value} {base : Heap} (T : Tx K mg) : Okk P w K mg base 3 "least_maker" ["prime"] (sp_least_maker K) := by
  obtain ⟨fd_is_int, F_is_int, b_is_int, g_is_int, k_is_int⟩ := ok_is_int (P := P) (w := w) (base := base) T
  obtain ⟨fd_has_no_parts, F_has_no_parts, b_has_no_parts, g_has_no_parts, k_has_no_parts⟩ := ok_has_no_parts (P := P) (w := w) (base := base) T
  obtain ⟨fd_prime_powers, F_prime_powers, b_prime_powers, g_prime_powers, k_prime_powers⟩ := ok_prime_powers (P := P) (w := w) (base := base) T
  obtain ⟨fd_least_maker_by, F_least_maker_by, b_least_maker_by, g_least_maker_by, k_least_maker_by⟩ := ok_least_maker_by (P := P) (w := w) (base := base) T
  obtain ⟨_, hc_MOST⟩ := T.c_MOST
  obtain ⟨fd, F⟩ := T.f_least_maker
  refine ⟨fd, F.ok sc_least_maker (fun vs H Q E h => len_least_maker h) (fun cdv A outer s H vs Q E hr h => ⟨t_least_maker K, PSs.nox ?_, pure_least_maker K vs H Q E h⟩), F.bindsN (fun _ _ _ _ _ _ us hl => match us, hl with | [_], _ => rfl), T.g_least_maker, F.kp⟩
  exact (pss_cons (ps_if (PW.pt (pw_or (pt_not (pt_val (pe_call F_is_int (hr.mono (by decide)) rfl g_is_int k_is_int b_is_int .nil pass0 (pa_cons (pv 0) pa_nil)))) (pw_or (pt_cmpR op_gt (pv 0) (pe_glob rfl hc_MOST ⟨_, rfl⟩) (nomark _)) (pw_or1 (pt_not (pt_val (pe_call F_has_no_parts (hr.mono (by decide)) rfl g_has_no_parts k_has_no_parts b_has_no_parts .nil pass0 (pa_cons (pv 0) pa_nil)))))))) pss_never pss_nil)
      (pss_one (ps_ret (pe_call F_least_maker_by (hr.mono (by decide)) rfl g_least_maker_by k_least_maker_by b_least_maker_by .nil pass0 (pa_cons (pv 0) (pa_cons (pe_call F_prime_powers (hr.mono (by decide)) rfl g_prime_powers k_prime_powers b_prime_powers .nil pass0 (pa_cons (pe_op op_sub (pv 0) pe_int) pa_nil)) pa_nil))))))
/-! ### order_of -/
theorem sc_order_of : FnScope ["modulus", "number", "order", "prime", "often", "_"] ["modulus", "number"] (defScope s_order_of) := ⟨rfl, rfl, rfl, by decide +kernel, rfl, by decide +kernel, by decide +kernel⟩
def sp_order_of (K : PySem.W.Frag) : Sp := fun vs H Q _ => ∃ (m : Nat) (n : Int), vs = [.int (m : Int), .int n] ∧ 1 ≤ m ∧ m ≤ 10 ^ 8 ∧ -(10 ^ 60) < n ∧ n < 10 ^ 60 ∧ Nat.gcd m n.natAbs = 1 ∧ n ^ (cuN (ppN m)) % (m : Int) = 1 % (m : Int) ∧ ∀ k H', IsOrd m n k → Same H H' → Q (.int (k : Int)) H'
theorem len_order_of {K : PySem.W.Frag} {vs : List V} {H : Hp} {Q : VK} {E : XK} (h : sp_order_of K vs H Q E) : vs.length = ["modulus", "number"].length := by
  obtain ⟨_, _, rfl, _⟩ := h
  rfl
def t_order_of_f1_b (K : PySem.W.Frag) : TS := (tIfS (tTest (tOp rEq (tCall (sp_power_modulo K) [] E0 (tCons (tVar 1) (tCons (tOp rDivU (tVar 2) (tVar 3)) (tCons (tVar 0) tNil)))) (tOp rModU (tC (.int 1)) (tVar 0)))) (tAsg (tOp rDivU (tVar 2) (tVar 3)) (gName 2)) tNext)
def t_order_of_f2_b (K : PySem.W.Frag) : TS := (tFor (iRng1 (tCons (tVar 4) tNil)) (gName 5) (t_order_of_f1_b K))
def t_order_of (K : PySem.W.Frag) : TS := (tSeq (tDrop (tCall (sp_check_between K) [] E0 (tCons (tVar 0) (tCons (tC (.int 1)) (tCons (tC (.int 100000000)) tNil)))))
  (tSeq (tDrop (tCall (sp_check_integer K) [] E0 (tCons (tVar 1) tNil)))
  (tSeq (tIfS (tTest (tOp rNe (tCB rGcd (tCons (tVar 0) (tCons (tVar 1) tNil))) (tC (.int 1)))) tNever tNext)
  (tSeq (tAsg (tCall (sp_count_units K) [] E0 (tCons (tCall (sp_prime_powers K) [] E0 (tCons (tVar 0) tNil)) tNil)) (gName 2))
  (tSeq (tFor (iTup K (tCall (sp_prime_powers K) [] E0 (tCons (tVar 2) tNil))) (gTup K 2 (gCons (gName 3) (gCons (gName 4) gNil))) (t_order_of_f2_b K))
  (tRet (tVar 2)))))))
theorem pure_order_of (K : PySem.W.Frag) (vs : List V) (H : Hp) (Q : VK) (E : XK) (h : sp_order_of K vs H Q E) : t_order_of K { nx := fun _ H' => Q .non H', rt := Q } (start ["modulus", "number", "order", "prime", "often", "_"] vs) H := by
  obtain ⟨m, n, rfl, hm, hm2, h1, h2, hg, he, hq⟩ := h
  unfold t_order_of
  walk_at "z"
  refine ⟨_, _, _, rfl, by omega, by omega, ?_⟩
  walk_at "z"
  refine ⟨n, rfl, h1, h2, ?_⟩
  walk_at "z"
  rw [if_neg (by rw [Int.natAbs_natCast, hg]; decide)]
  refine ⟨m, rfl, hm, by omega, fun T xs H1 s1 hT hP => ?_⟩
  walk_at "z"
  refine ⟨T, xs, _, rfl, sqT_of hT, hP, cuOk_pp hm (by omega), ?_⟩
  walk_at "z"
  have gm := ppN_good hm
  obtain ⟨hN1, hN2⟩ := cuN_bounds gm.pr
  rw [gm.prod] at hN2
  revert he hN1 hN2
  generalize cuN (ppN m) = N
  intro he hN1 hN2
  obtain ⟨k, hk⟩ := ord_ex hN1 he
  have g := ppN_good hN1
  refine ⟨N, rfl, hN1, by omega, fun T2 xs2 H2 s2 hT2 hP2 => ?_⟩
  walk_at "z"
  refine ⟨T2, rfl, ⟨xs2, sqT_of hT2⟩, for_T (xs := xs2) (fun i σ H' => ∃ (o : Nat) (o1 o2 o3 : Option V), σ = [some (.int (m : Int)), some (.int n), some (.int (o : Int)), o1, o2, o3] ∧ H' = H2 ∧ OrdInv m n N k (ppN N) i o)
    ⟨N, _, _, _, rfl, rfl, OrdInv.start hN1 g hk he⟩ (fun i σ H' _ h => by obtain ⟨_, _, _, _, _, rfl, _⟩ := h; exact sqT_of hT2) (fun i x σ H' hx h N1 hN3 => ?_) (fun σ H' h => ?_)⟩
  · obtain ⟨o, o1, o2, o3, rfl, rfl, I⟩ := h
    obtain ⟨q, t, e1, rfl, e3⟩ := hP2.get hx
    obtain ⟨pq, eq⟩ := g.pr q (List.mem_of_getElem? e1)
    have p2 := pq.1
    obtain ⟨l1, l2, l3⟩ := g.le hN1 (List.mem_of_getElem? e1)
    have l4 : q.2 < 2 ^ 40 := Nat.lt_of_lt_of_le (Nat.lt_of_lt_of_le (Nat.lt_two_pow_self (n := q.2)) (Nat.pow_le_pow_left p2 q.2)) (by omega)
    unfold t_order_of_f2_b
    walk_at "z"
    refine ⟨_, sqT_of e3, rfl, ?_⟩
    walk_at "z"
    refine ⟨_, rfl, by omega, by omega, for_R (fun t σ H3 => ∃ (o' : Nat) (o3 : Option V), σ = [some (.int (m : Int)), some (.int n), some (.int (o' : Int)), some (.int (q.1 : Int)), some (.int (q.2 : Int)), o3] ∧ H3 = H' ∧ 1 ≤ o' ∧ o' ≤ N ∧ k ∣ o' ∧ OrdIn m n q o t o')
      ⟨o, _, rfl, rfl, I.pos, Nat.le_of_dvd hN1 I.oN, I.ko, 0, Nat.le_refl 0, by simp, .inl rfl⟩ (fun t σ H' ht h N2 hN4 => ?_) (fun σ H' h => ?_)⟩
    · obtain ⟨o', o4, rfl, rfl, p1, p3, p4, J⟩ := h
      have ht2 : t < q.2 := by omega
      have hd := J.dvd ht2 p2 (I.new i q (Nat.le_refl i) e1)
      unfold t_order_of_f1_b
      walk_at "z"
      refine ⟨divS (by omega) (by omega), n, _, _, rfl, Int.ediv_nonneg (by omega) (by omega), by omega, by omega, ?_⟩
      walk_at "z"
      have ec : ((o' : Int) / (q.1 : Int)).toNat = o' / q.1 := by rw [← Int.natCast_ediv]; rfl
      rw [ec]
      refine ⟨by omega, ?_⟩
      by_cases hp : n ^ (o' / q.1) % (m : Int) = 1 % (m : Int)
      · rw [if_pos hp]
        refine ⟨divS (by omega) (by omega), hN4 _ _ ⟨o' / q.1, _, by rw [Int.natCast_ediv], rfl, Nat.div_pos (Nat.le_of_dvd p1 hd) (by omega), Nat.le_trans (Nat.div_le_self _ _) p3, hk.dvd.mp hp, J.step1 hd hp⟩⟩
      · rw [if_neg hp]
        exact hN4 _ _ ⟨o', _, rfl, rfl, p1, p3, p4, J.step2 hd hp⟩
    · obtain ⟨o', o4, rfl, rfl, p1, p3, p4, J⟩ := h
      have et : (q.2 : Int).toNat = q.2 := rfl
      rw [et] at J
      exact hN3 _ _ ⟨o', _, _, _, rfl, rfl, I.next hN1 g hk e1 J p4⟩
  · obtain ⟨o, o1, o2, o3, rfl, rfl, I⟩ := h
    walk_at "z"
    have el : xs2.length = (ppN N).length := hP2.len
    rw [el] at I
    have := I.end hN1 g hk
    subst this
    exact hq _ _ hk (s1.trans s2)
theorem ok_order_of {P : Program} {w : World} {K : PySem.W.Frag} {mg : Str → Option Value} {base : Heap} (T : Tx K mg) : Okk P w K mg base 4 "order_of" ["modulus", "number"] (sp_order_of K) := by
  obtain ⟨fd_power_modulo, F_power_modulo, b_power_modulo, g_power_modulo, k_power_modulo⟩ := ok_power_modulo (P := P) (w := w) (base := base) T
  obtain ⟨fd_check_integer, F_check_integer, b_check_integer, g_check_integer, k_check_integer⟩ := ok_check_integer (P := P) (w := w) (base := base) T
  obtain ⟨fd_check_between, F_check_between, b_check_between, g_check_between, k_check_between⟩ := ok_check_between (P := P) (w := w) (base := base) T
  obtain ⟨fd_prime_powers, F_prime_powers, b_prime_powers, g_prime_powers, k_prime_powers⟩ := ok_prime_powers (P := P) (w := w) (base := base) T
  obtain ⟨fd_count_units, F_count_units, b_count_units, g_count_units, k_count_units⟩ := ok_count_units (P := P) (w := w) (base := base) T
  obtain ⟨_, hc_MOST⟩ := T.c_MOST
  have hf_range := T.n_range
  have hb_gcd := T.b_gcd
  obtain ⟨fd, F⟩ := T.f_order_of
  refine ⟨fd, F.ok sc_order_of (fun vs H Q E h => len_order_of h) (fun cdv A outer s H vs Q E hr h => ⟨t_order_of K, PSs.nox ?_, pure_order_of K vs H Q E h⟩), F.bindsN (fun _ _ _ _ _ _ us hl => match us, hl with | [_, _], _ => rfl), T.g_order_of, F.kp⟩
  exact (pss_cons (ps_expr (pe_call F_check_between (hr.mono (by decide)) rfl g_check_between k_check_between b_check_between .nil pass0 (pa_cons (pv 0) (pa_cons pe_int (pa_cons (pe_glob rfl hc_MOST ⟨_, rfl⟩) pa_nil)))))
      (pss_cons (ps_expr (pe_call F_check_integer (hr.mono (by decide)) rfl g_check_integer k_check_integer b_check_integer .nil pass0 (pa_cons (pv 1) pa_nil)))
      (pss_cons (ps_if (pt_cmpR op_ne (pe_callBfun cr_gcd rfl hb_gcd (pa_cons (pv 0) (pa_cons (pv 1) pa_nil))) pe_int (nomark _)) pss_never pss_nil)
      (pss_cons (ps_set (i := 2) sc_order_of.nd rfl (by first | exact Or.inl rfl | exact Or.inr rfl) (pe_call F_count_units (hr.mono (by decide)) rfl g_count_units k_count_units b_count_units .nil pass0 (pa_cons (pe_call F_prime_powers (hr.mono (by decide)) rfl g_prime_powers k_prime_powers b_prime_powers .nil pass0 (pa_cons (pv 0) pa_nil)) pa_nil)))
      (pss_cons (ps_for PassesOwn.never rfl (pi_tup (pe_call F_prime_powers (hr.mono (by decide)) rfl g_prime_powers k_prime_powers b_prime_powers .nil pass0 (pa_cons (pv 2) pa_nil))) (pg_tup rfl (pgs_cons (pg_name (i := 3) sc_order_of.nd rfl (by first | exact Or.inl rfl | exact Or.inr rfl)) (pgs_cons (pg_name (i := 4) sc_order_of.nd rfl (by first | exact Or.inl rfl | exact Or.inr rfl)) pgs_nil))) (pss_one (ps_for PassesOwn.never rfl (pi_range1 rfl hf_range (pa_cons (pv 4) pa_nil)) (pg_name (i := 5) sc_order_of.nd rfl (by first | exact Or.inl rfl | exact Or.inr rfl)) (pss_one (ps_if (pt_cmpR op_eq (pe_call F_power_modulo (hr.mono (by decide)) rfl g_power_modulo k_power_modulo b_power_modulo .nil pass0 (pa_cons (pv 1) (pa_cons (pe_op op_fdivW (pv 2) (pv 3)) (pa_cons (pv 0) pa_nil)))) (pe_op op_mod pe_int (pv 0)) (nomark _)) (pss_one (ps_set (i := 2) sc_order_of.nd rfl (by first | exact Or.inl rfl | exact Or.inr rfl) (pe_op op_fdivW (pv 2) (pv 3)))) pss_nil)))))
      (pss_one (ps_ret (pv 2))))))))
/-! dice -/
def Dice (H : Hp) (d : Addr) : Prop := ∃ a b c : Int, H d = some (.lst [.int a, .int b, .int c])
theorem Keep.refl (d : Addr) (H : Hp) : Keep d H H := fun _ _ _ h => h
theorem Keep.trans {d : Addr} {H H1 H2 : Hp} (a : Keep d H H1) (b : Keep d H1 H2) : Keep d H H2 := fun c o n h => b c o n (a c o n h)
theorem Keep.put {d : Addr} {H H1 : Hp} {o : HO} (a : Keep d H H1) : Keep d H (L2.upd H1 d o) := fun b u n h => by rw [upd_ne n]; exact a b u n h
theorem Keep.same {d : Addr} {H H1 H2 : Hp} (a : Keep d H H1) (b : Same H1 H2) : Keep d H H2 := fun c o n h => b c o (a c o n h)
theorem Dice.same {d : Addr} {H H1 : Hp} (a : Dice H d) (b : Same H H1) : Dice H1 d := by
  obtain ⟨x, y, z, h⟩ := a
  exact ⟨x, y, z, b _ _ h⟩
theorem Keep.new {d p : Addr} {H H1 : Hp} {o : HO} (a : Keep d H H1) (hp : H1 p = none) : Keep d H (L2.upd H1 p o) := a.same (same_upd hp)
/-- a list of dice made on the way is nothing of the old heap -/
theorem Keep.out {d : Addr} {H0 H H1 : Hp} (s : Same H0 H) (n : H0 d = none) (a : Keep d H H1) : Same H0 H1 := fun b o h => a b o (ne_of_none h n) (s b o h)
theorem cpow {i j : Int} (h : 0 ≤ j ∧ j ≤ 1000000 ∧ i.natAbs < 2 ^ 64) : CPow i j := h
theorem divM {i m : Int} (h : 0 < m) (h2 : m < 2 ^ 250) : CDivW i m := wide_div (b := 250) h (by omega) (by decide) (by decide)
theorem atI_nat {α : Type} {xs : List α} {i : Nat} {x : α} (h : xs[i]? = some x) : atI xs (i : Int) = some x := by
  have hl := (List.getElem?_eq_some_iff.mp h).1
  unfold atI ixN
  rw [if_pos (by omega), if_pos (by omega)]
  exact h
theorem dp_ints {K : PySem.W.Frag} {H : Hp} : ∀ ns : List Int, DpAll K H (ns.map V.int) (ns.map PyData.int)
  | [] => .nil
  | n :: r => .cons (.int n) (dp_ints r)
theorem eqv_ints : ∀ ns ms : List Int, PyData.eqvAll (ns.map PyData.int) (ms.map PyData.int) = decide (ns = ms)
  | [], [] => rfl
  | [], _ :: _ => rfl
  | _ :: _, [] => rfl
  | n :: ns, m :: ms => by
    have ih := eqv_ints ns ms
    show ((n == m) && PyData.eqvAll (ns.map PyData.int) (ms.map PyData.int)) = _
    rw [ih, Bool.eq_iff_iff]
    simp
theorem lay_ints : ∀ ns : List Int, PyData.canLayAll0 (ns.map PyData.int) = true
  | [] => rfl
  | n :: r => by
    show (PyData.canLay0 (.int n) && PyData.canLayAll0 (r.map PyData.int)) = true
    rw [lay_ints r]
    rfl
theorem depth_ints : ∀ ns : List Int, PyData.depthAll (ns.map PyData.int) = 0
  | [] => rfl
  | n :: r => by
    show max (PyData.depth (.int n)) (PyData.depthAll (r.map PyData.int)) = 0
    rw [depth_ints r]
    rfl
theorem shaped_ints (ns : List Int) : SeqAt.shaped (.list (ns.map PyData.int)) = true := by
  have h1 : PyData.canLay0 (.list (ns.map PyData.int)) = true := by
    simp only [PyData.canLay0]
    exact lay_ints ns
  have h2 : PyData.depth (.list (ns.map PyData.int)) = 1 := by
    simp only [PyData.depth, depth_ints]
  unfold SeqAt.shaped
  rw [h1, h2]
  rfl
/-- two lists of ints compared -/
theorem neD_ints {K : PySem.W.Frag} {H : Hp} {p q : Addr} {ns ms : List Int} {Q : VK} (h1 : SqL K H p (ns.map V.int)) (h2 : SqL K H q (ms.map V.int)) (h : Q (.bl (!decide (ns = ms))) H) : rNeD K (.ref p) (.ref q) H Q :=
  ⟨_, _, .lst h1 (dp_ints ns), .lst h2 (dp_ints ms), shaped_ints ns, shaped_ints ms, by
    have e : PyData.eqv (.list (ns.map PyData.int)) (.list (ms.map PyData.int)) = decide (ns = ms) := by
      simp only [PyData.eqv]
      exact eqv_ints ns ms
    rw [e]; exact h⟩
theorem eqD_ints {K : PySem.W.Frag} {H : Hp} {p q : Addr} {ns ms : List Int} {Q : VK} (h1 : SqL K H p (ns.map V.int)) (h2 : SqL K H q (ms.map V.int)) (h : Q (.bl (decide (ns = ms))) H) : rEqD K (.ref p) (.ref q) H Q :=
  ⟨_, _, .lst h1 (dp_ints ns), .lst h2 (dp_ints ms), shaped_ints ns, shaped_ints ms, by
    have e : PyData.eqv (.list (ns.map PyData.int)) (.list (ms.map PyData.int)) = decide (ns = ms) := by
      simp only [PyData.eqv]
      exact eqv_ints ns ms
    rw [e]; exact h⟩
/-! orders and makers, reckoned -/
def ordL : Nat → Nat → Nat → Nat → Nat → Nat
  | 0, _, _, _, found => found
  | f + 1, m, n, here, found => if here = 1 % m then found else ordL f m n (here * n % m) (found + 1)
def ordF (m n : Nat) : Nat := ordL m m n (n % m) 1
theorem ordL_eq {m n k : Nat} (hk : IsOrd m n k) : ∀ f j, 1 ≤ j → j ≤ k → k ≤ j + f → ordL f m n (n ^ j % m) j = k
  | 0, j, _, h2, h3 => by
    show j = k
    omega
  | f + 1, j, h1, h2, h3 => by
    have e : (n ^ j % m = 1 % m) ↔ ((n : Int) ^ j % (m : Int) = 1 % (m : Int)) := by
      rw [← Int.natCast_pow, ← Int.natCast_emod]
      constructor
      · intro h; rw [h, Int.natCast_emod]; rfl
      · intro h; exact Int.ofNat_inj.mp (by rw [h, Int.natCast_emod]; rfl)
    unfold ordL
    by_cases c : j = k
    · subst c
      rw [if_pos (e.mpr hk.2.1)]
    · rw [if_neg fun x => hk.2.2 j h1 (by omega) (e.mp x)]
      have e2 : n ^ j % m * n % m = n ^ (j + 1) % m := by rw [Nat.pow_succ, Nat.mul_mod, Nat.mod_mod, ← Nat.mul_mod]
      rw [e2]
      exact ordL_eq hk f (j + 1) (by omega) (by omega) (by omega)
theorem ordF_eq {m n k : Nat} (hk : IsOrd m n k) (h : k ≤ m) : ordF m n = k := by
  have := ordL_eq hk m 1 (Nat.le_refl 1) hk.1 (by omega)
  rw [Nat.pow_one] at this
  exact this
def mkF (p n : Nat) : List Nat := (List.range n).filterMap fun i => if ordF p (i + 1) = p - 1 then some (i + 1) else none
def mkB (p g : Nat) : Bool := (ppN (p - 1)).all fun q => g ^ ((p - 1) / q.1) % p != 1
theorem mkB_ok {p g : Nat} (hp : 1 ≤ p) : mkB p g = true ↔ MkOk p (ppN (p - 1)) g := by
  unfold mkB MkOk
  rw [List.all_eq_true]
  have e : ∀ q : Nat × Nat, ((g : Int) ^ (((p : Int) - 1) / (q.1 : Int)).toNat % (p : Int)) = ((g ^ ((p - 1) / q.1) % p : Nat) : Int) := fun q => by
    have h1 : (((p : Int) - 1) / (q.1 : Int)).toNat = (p - 1) / q.1 := by
      rw [show (p : Int) - 1 = ((p - 1 : Nat) : Int) by omega, ← Int.natCast_ediv]
      rfl
    rw [h1, Int.natCast_emod, Int.natCast_pow]
  constructor
  · intro h q hq
    have := h q hq
    rw [e q]
    simp only [bne_iff_ne, ne_eq] at this
    omega
  · intro h q hq
    have := h q hq
    rw [e q] at this
    simp only [bne_iff_ne, ne_eq]
    omega
def menuP : List Nat := [2, 3, 5, 7, 11, 13, 23, 41, 71, 73, 97, 191, 193, 241, 311, 409, 439, 457, 499]
def menuG : List Nat := [1, 2, 2, 3, 2, 2, 5, 6, 7, 5, 5, 19, 5, 7, 17, 21, 15, 13, 7]
def menuB : Bool := (menuP.zip menuG).all fun x => smallP.contains x.1 && mkB x.1 x.2 && ((List.range x.2).all fun k => k == 0 || !mkB x.1 k) &&
  (Nat.ble 200 x.1 || ((mkF x.1 (x.1 - 1)).head? == some x.2 && (mkF x.1 (x.1 - 1)).length == cuN (ppN (x.1 - 1)))) && mkF x.1 x.2 == [x.2]
theorem menuB_ok : menuB = true := by decide +kernel
theorem smallP_prime {p : Nat} (h : p ∈ smallP) : PrimeN p ∧ p < 700 := by
  have h2 : (smallP.all fun p => Nat.ble 2 p && Nat.blt p 700 && (List.range p).all fun k => Nat.blt k 2 || p % k != 0) = true := by decide +kernel
  have h3 := List.all_eq_true.mp h2 p h
  simp only [Bool.and_eq_true] at h3
  obtain ⟨⟨a, b⟩, c⟩ := h3
  refine ⟨⟨Nat.ble_eq.mp a, fun k k2 kp kd => ?_⟩, Nat.blt_eq.mp b⟩
  have c2 := List.all_eq_true.mp c k (List.mem_range.mpr kp)
  simp only [Bool.or_eq_true, bne_iff_ne, ne_eq] at c2
  rcases c2 with c2 | c2
  · have := Nat.blt_eq.mp c2; omega
  · exact c2 (Nat.mod_eq_zero_of_dvd kd)
structure MenuOk (p g : Nat) : Prop where
  pr : PrimeN p
  lt : p < 700
  mko : MkOk p (ppN (p - 1)) g
  g1 : 1 ≤ g
  least : ∀ k : Nat, 1 ≤ k → k < g → ¬ MkOk p (ppN (p - 1)) k
  all : p < 200 → ∃ r, mkF p (p - 1) = g :: r ∧ (g :: r).length = cuN (ppN (p - 1))
  few : mkF p g = [g]
  gl : g ≤ 21 ∧ g < p
theorem menu_pair {p g : Nat} (hg : (p, g) ∈ menuP.zip menuG) : MenuOk p g := by
  have h2 := List.all_eq_true.mp (show (menuP.zip menuG).all _ = true from menuB_ok) (p, g) hg
  simp only [Bool.and_eq_true, Bool.or_eq_true, beq_iff_eq] at h2
  obtain ⟨⟨⟨⟨a, b⟩, c⟩, e⟩, f⟩ := h2
  obtain ⟨a1, a2⟩ := smallP_prime (List.contains_iff_mem.mp a)
  have hgl : (menuP.zip menuG).all (fun x => Nat.ble 1 x.2 && Nat.ble x.2 21 && Nat.blt x.2 x.1) = true := by decide +kernel
  have h3 := List.all_eq_true.mp hgl (p, g) hg
  simp only [Bool.and_eq_true] at h3
  have g1 : 1 ≤ g := Nat.ble_eq.mp h3.1.1
  have g2 : g ≤ 21 := Nat.ble_eq.mp h3.1.2
  have g3 : g < p := Nat.blt_eq.mp h3.2
  have p1 : 1 ≤ p := by have := a1.1; omega
  refine ⟨a1, a2, (mkB_ok p1).mp b, g1, fun k k1 k2 k3 => ?_, fun hp => ?_, f, g2, g3⟩
  · have c2 := List.all_eq_true.mp c k (List.mem_range.mpr k2)
    rw [(mkB_ok p1).mpr k3] at c2
    simp only [Bool.or_eq_true, beq_iff_eq, Bool.not_true, Bool.false_eq_true, or_false] at c2
    omega
  · rcases e with e | e
    · have := Nat.ble_eq.mp e; omega
    · obtain ⟨e1, e2⟩ := e
      cases hc : mkF p (p - 1) with
      | nil => rw [hc] at e1; simp at e1
      | cons x r =>
        rw [hc] at e1 e2
        have : x = g := by simpa using e1
        subst this
        exact ⟨r, rfl, e2⟩
theorem menu_ok {p : Nat} (h : p ∈ menuP) : ∃ g, MenuOk p g := by
  have : (menuP.all fun p => menuG.any fun g => (menuP.zip menuG).contains (p, g)) = true := by decide +kernel
  have h2 := List.all_eq_true.mp this p h
  obtain ⟨g, _, h3⟩ := List.any_eq_true.mp h2
  exact ⟨g, menu_pair (List.contains_iff_mem.mp h3)⟩
theorem prime_cop {p i : Nat} (hp : PrimeN p) (h1 : 1 ≤ i) (h2 : i < p) : Nat.gcd p i = 1 :=
  hp.cop fun h => by have := Nat.le_of_dvd h1 h; omega
/-- a number below a small prime has an order -/
theorem ord_small {p i : Nat} (hp : PrimeN p) (hl : p < 700) (h1 : 1 ≤ i) (h2 : i < p) : Nat.gcd p (i : Int).natAbs = 1 ∧ (i : Int) ^ (cuN (ppN p)) % (p : Int) = 1 % (p : Int) ∧ IsOrd p i (ordF p i) := by
  have p2 := hp.1
  have hg : Nat.gcd p (i : Int).natAbs = 1 := by rw [Int.natAbs_natCast]; exact prime_cop hp h1 h2
  have he := euler_small (show 1 ≤ p by omega) (by omega) hg
  have gp := ppN_good (show 1 ≤ p by omega)
  obtain ⟨c1, c2⟩ := cuN_bounds gp.pr
  rw [gp.prod] at c2
  obtain ⟨k, hk⟩ := ord_ex c1 he
  have := Nat.le_of_dvd c1 (hk.dvd.mp he)
  rw [ordF_eq hk (by omega)]
  exact ⟨hg, he, hk⟩
theorem fm_congr {α β : Type} {f g : α → Option β} : ∀ {l : List α}, (∀ x ∈ l, f x = g x) → l.filterMap f = l.filterMap g
  | [], _ => rfl
  | x :: r, h => by
    rw [List.filterMap_cons, List.filterMap_cons, h x List.mem_cons_self, fm_congr fun y hy => h y (List.mem_cons_of_mem _ hy)]
theorem outL_mk {p n : Nat} {outs : Nat → Option V} (h : ∀ i, i < n → outs i = if ordF p (i + 1) = p - 1 then some (V.int ((i + 1 : Nat) : Int)) else none) : outL outs n = (mkF p n).map fun x : Nat => V.int (x : Int) := by
  unfold outL mkF
  rw [List.map_filterMap]
  refine fm_congr fun i hi => ?_
  rw [h i (List.mem_range.mp hi)]
  split <;> rfl
/-! ### _law_dice -/
theorem sc__law_dice : FnScope ["script", "spot", "cell", "left"] ["script", "spot"] (defScope s__law_dice) := ⟨rfl, rfl, rfl, by decide +kernel, rfl, by decide +kernel, by decide +kernel⟩
def sp__law_dice (K : PySem.W.Frag) : Sp := fun vs H Q _ => ∃ (a : Addr) (ns : List Int) (spot : Nat), vs = [.ref a, .int (spot : Int)] ∧ SqL K H a (ns.map V.int) ∧
  ∀ D H', H D = none → Same H H' → Dice H' D → Q (.ref D) H'
theorem len__law_dice {K : PySem.W.Frag} {vs : List V} {H : Hp} {Q : VK} {E : XK} (h : sp__law_dice K vs H Q E) : vs.length = ["script", "spot"].length := by
  obtain ⟨_, _, _, rfl, _⟩ := h
  rfl
def t__law_dice (K : PySem.W.Frag) : TS := (tSeq (tAsg (tIf (tTest (tOp rLtI (tVar 1) (tCB (rLenU K) (tCons (tVar 0) tNil)))) (tCB (rInt1) (tCons (tOp (rIxA K) (tVar 0) (tVar 1)) tNil)) (tOp rAdd (tOp rMulU (tC (.int 97)) (tVar 1)) (tC (.int 59)))) (gName 2))
  (tSeq (tAsg (tOp rModU (tCB (rMax2) (tCons (tC (.int 0)) (tCons (tOp rSub (tCB (rAbs) (tCons (tVar 2) tNil)) (tOp rPowU (tC (.int 10)) (tC (.int 16)))) tNil))) (tOp rMulU (tOp rPowU (tC (.int 10)) (tC (.int 58))) (tOp rPowU (tC (.int 10)) (tC (.int 60))))) (gName 3))
  (tRet (tLst (tCons (tVar 3) (tCons (tOp rAdd (tOp rAdd (tOp rAdd (tOp rMulU (tOp rModU (tCB (rAbs) (tCons (tVar 2) tNil)) (tC (.int 1152921504606846733))) (tC (.int 83))) (tOp rMulU (tC (.int 1033)) (tVar 1))) (tOp rMulU (tC (.int 61)) (tCB (rInt1) (tCons (tOp rLtI (tVar 2) (tC (.int 0))) tNil)))) (tC (.int 29))) (tCons (tC (.int 0)) tNil)))))))
theorem big_mul : CMul (10 ^ (58 : Int).toNat) (10 ^ (60 : Int).toNat) ∨ CMulW (10 ^ (58 : Int).toNat) (10 ^ (60 : Int).toNat) :=
  .inr (wide_mul (a := 200) (b := 210) (by decide) (by decide) (by decide) (by decide) (by decide))
theorem pure__law_dice (K : PySem.W.Frag) (vs : List V) (H : Hp) (Q : VK) (E : XK) (h : sp__law_dice K vs H Q E) : t__law_dice K { nx := fun _ H' => Q .non H', rt := Q } (start ["script", "spot", "cell", "left"] vs) H := by
  obtain ⟨a, ns, spot, rfl, hS, hq⟩ := h
  unfold t__law_dice
  walk_at "z"
  refine lenL hS ?_
  walk_at "z"
  by_cases hs : (spot : Int) < ((ns.map V.int).length : Int)
  · rw [if_pos hs]
    have hs2 : spot < ns.length := by simpa using hs
    refine ixL hS (v := .int ns[spot]) (atI_nat (by simp [hs2])) ?_
    walk_at "z"
    refine ⟨cpow (by decide), cpow (by decide), cpow (by decide), big_mul, by decide, by decide, mulR (by decide), mulS (by decide), mulS (by decide), by decide, fun p hp => ?_⟩
    exact hq p _ hp (same_upd hp) ⟨_, _, _, upd_same⟩
  · rw [if_neg hs]
    refine ⟨mulS (by decide), cpow (by decide), cpow (by decide), cpow (by decide), big_mul, by decide, by decide, mulR (by decide), mulS (by decide), mulS (by decide), by decide, fun p hp => ?_⟩
    exact hq p _ hp (same_upd hp) ⟨_, _, _, upd_same⟩
theorem ok__law_dice {P : Program} {w : World} {K : PySem.W.Frag} {mg : Str → Option Value} {base : Heap} (T : Tx K mg) : Okk P w K mg base 1 "_law_dice" ["script", "spot"] (sp__law_dice K) := by
  have hf_abs := T.n_abs
  have hf_int := T.n_int
  have hf_len := T.n_len
  have hf_max := T.n_max
  obtain ⟨fd, F⟩ := T.f__law_dice
  refine ⟨fd, F.ok sc__law_dice (fun vs H Q E h => len__law_dice h) (fun cdv A outer s H vs Q E hr h => ⟨t__law_dice K, PSs.nox ?_, pure__law_dice K vs H Q E h⟩), F.bindsN (fun _ _ _ _ _ _ us hl => match us, hl with | [_, _], _ => rfl), T.g__law_dice, F.kp⟩
  exact (pss_cons (ps_set (i := 2) sc__law_dice.nd rfl (by first | exact Or.inl rfl | exact Or.inr rfl) (pe_ifExp (pt_cmpR op_lt (pv 1) (pe_callB call_len_seq (by rfl) hf_len (by decide +kernel) (pa_cons (pv 0) pa_nil)) (nomark _)) (pe_callTy call_int1 (by rfl) hf_int (by decide +kernel) (pa_cons (pe_ix ix_lt (pv 0) (pv 1) (fun _ _ => rfl)) pa_nil)) (pe_op op_add (pe_op op_mulU pe_int (pv 1)) pe_int)))
      (pss_cons (ps_set (i := 3) sc__law_dice.nd rfl (by first | exact Or.inl rfl | exact Or.inr rfl) (pe_op op_mod (pe_callB (call_max2 rfl) (by rfl) hf_max (by decide +kernel) (pa_cons pe_int (pa_cons (pe_op op_sub (pe_callB call_abs (by rfl) hf_abs (by decide +kernel) (pa_cons (pv 2) pa_nil)) (pe_op op_pow pe_int pe_int)) pa_nil))) (pe_op op_mulU (pe_op op_pow pe_int pe_int) (pe_op op_pow pe_int pe_int))))
      (pss_one (ps_ret (pe_lst (pa_cons (pv 3) (pa_cons (pe_op op_add (pe_op op_add (pe_op op_add (pe_op op_mulU (pe_op op_mod (pe_callB call_abs (by rfl) hf_abs (by decide +kernel) (pa_cons (pv 2) pa_nil)) pe_int) pe_int) (pe_op op_mulU pe_int (pv 1))) (pe_op op_mulU pe_int (pe_callTy call_int1 (by rfl) hf_int (by decide +kernel) (pa_cons (pe_cmpR op_lt (pv 2) pe_int (nomark _)) pa_nil)))) pe_int) (pa_cons pe_int pa_nil))))))))
/-! ### _law_roll -/
theorem sc__law_roll : FnScope ["dice", "most", "found", "one", "two"] ["dice", "most"] (defScope s__law_roll) := ⟨rfl, rfl, rfl, by decide +kernel, rfl, by decide +kernel, by decide +kernel⟩
def sp__law_roll (K : PySem.W.Frag) : Sp := fun vs H Q _ => ∃ (d : Addr) (most : Int), vs = [.ref d, .int most] ∧ Dice H d ∧ 0 < most ∧ most < 2 ^ 250 ∧ ∀ r H', 0 ≤ r → r < most → Keep d H H' → Dice H' d → Q (.int r) H'
theorem len__law_roll {K : PySem.W.Frag} {vs : List V} {H : Hp} {Q : VK} {E : XK} (h : sp__law_roll K vs H Q E) : vs.length = ["dice", "most"].length := by
  obtain ⟨_, _, rfl, _⟩ := h
  rfl
def t__law_roll (K : PySem.W.Frag) : TS := (tSeq (tIfS (tTest (tOp rGtI (tOp (rIxA K) (tVar 0) (tC (.int 0))) (tC (.int 0)))) (tSeq (tAsg (tOp rModU (tCB (rInt1) (tCons (tOp (rIxA K) (tVar 0) (tC (.int 0))) tNil)) (tVar 1)) (gName 2))
  (tSeq (tAsg (tOp rDivU (tOp (rIxA K) (tVar 0) (tC (.int 0))) (tVar 1)) (gSub (tVar 0) (tC (.int 0)) rSetL))
  (tRet (tVar 2)))) tNext)
  (tSeq (tAsg (tOp rAdd (tOp (rIxA K) (tVar 0) (tC (.int 2))) (tC (.int 1))) (gSub (tVar 0) (tC (.int 2)) rSetL))
  (tSeq (tAsg (tOp rModU (tCB (rInt1) (tCons (tOp rAdd (tOp (rIxA K) (tVar 0) (tC (.int 1))) (tOp rMulU (tC (.int 86028121)) (tOp (rIxA K) (tVar 0) (tC (.int 2))))) tNil)) (tC (.int 2305843009213693561))) (gName 3))
  (tSeq (tAsg (tOp rModU (tCB (rInt1) (tCons (tOp rAdd (tOp rMulU (tVar 3) (tVar 3)) (tOp rMulU (tC (.int 103)) (tOp (rIxA K) (tVar 0) (tC (.int 2))))) tNil)) (tC (.int 2305843009213693669))) (gName 4))
  (tRet (tOp rModU (tCB (rInt1) (tCons (tOp rDivU (tOp rAdd (tOp rMulU (tVar 4) (tC (.int 7654321))) (tVar 3)) (tC (.int 65557))) tNil)) (tVar 1)))))))
theorem pure__law_roll (K : PySem.W.Frag) (vs : List V) (H : Hp) (Q : VK) (E : XK) (h : sp__law_roll K vs H Q E) : t__law_roll K { nx := fun _ H' => Q .non H', rt := Q } (start ["dice", "most", "found", "one", "two"] vs) H := by
  obtain ⟨d, most, rfl, ⟨a, b, c, hD⟩, h0, h1, hq⟩ := h
  unfold t__law_roll
  walk_at "z"
  refine ixL (sqL_of hD) rfl ?_
  walk_at "z"
  by_cases ha : 0 < a
  · rw [if_pos ha]
    refine ixL (sqL_of hD) rfl ?_
    walk_at "z"
    refine ⟨h0, ixL (sqL_of hD) rfl ?_⟩
    walk_at "z"
    refine ⟨divM h0 h1, setL hD rfl ?_⟩
    walk_at "z"
    exact hq _ _ (Int.emod_nonneg _ (by omega)) (Int.emod_lt_of_pos _ h0) (Keep.refl d H).put ⟨_, _, _, upd_same⟩
  · rw [if_neg ha]
    refine ixL (sqL_of hD) rfl ?_
    walk_at "z"
    refine setL hD rfl ?_
    walk_at "z"
    refine ixL (sqL_of upd_same) rfl ?_
    walk_at "z"
    refine ixL (sqL_of upd_same) rfl ?_
    walk_at "z"
    have e := Int.emod_nonneg (b + 86028121 * (c + 1)) (show (2305843009213693561 : Int) ≠ 0 by decide)
    have e2 := Int.emod_lt_of_pos (b + 86028121 * (c + 1)) (show (0 : Int) < 2305843009213693561 by decide)
    refine ⟨mulS (by decide), by decide, mulS (by omega), ixL (sqL_of upd_same) rfl ?_⟩
    walk_at "z"
    refine ⟨mulS (by decide), by decide, mulR (by decide), divS (by decide) (by decide), h0, ?_⟩
    exact hq _ _ (Int.emod_nonneg _ (by omega)) (Int.emod_lt_of_pos _ h0) (Keep.refl d H).put ⟨_, _, _, upd_same⟩
theorem ok__law_roll {P : Program} {w : World} {K : PySem.W.Frag} {mg : Str → Option Value} {base : Heap} (T : Tx K mg) : Okk P w K mg base 1 "_law_roll" ["dice", "most"] (sp__law_roll K) := by
  have hf_int := T.n_int
  obtain ⟨fd, F⟩ := T.f__law_roll
  refine ⟨fd, F.ok sc__law_roll (fun vs H Q E h => len__law_roll h) (fun cdv A outer s H vs Q E hr h => ⟨t__law_roll K, PSs.nox ?_, pure__law_roll K vs H Q E h⟩), F.bindsN (fun _ _ _ _ _ _ us hl => match us, hl with | [_, _], _ => rfl), T.g__law_roll, F.kp⟩
  exact (pss_cons (ps_if (pt_cmpR op_gt (pe_ix ix_lt (pv 0) pe_int (fun _ _ => rfl)) pe_int (nomark _)) (pss_cons (ps_set (i := 2) sc__law_roll.nd rfl (by first | exact Or.inl rfl | exact Or.inr rfl) (pe_op op_mod (pe_callTy call_int1 (by rfl) hf_int (by decide +kernel) (pa_cons (pe_ix ix_lt (pv 0) pe_int (fun _ _ => rfl)) pa_nil)) (pv 1)))
      (pss_cons (ps_asg (pe_op op_fdivW (pe_ix ix_lt (pv 0) pe_int (fun _ _ => rfl)) (pv 1)) (pg_sub (pv 0) pe_int set_list))
      (pss_one (ps_ret (pv 2))))) pss_nil)
      (pss_cons (ps_asg (pe_op op_add (pe_ix ix_lt (pv 0) pe_int (fun _ _ => rfl)) pe_int) (pg_sub (pv 0) pe_int set_list))
      (pss_cons (ps_set (i := 3) sc__law_roll.nd rfl (by first | exact Or.inl rfl | exact Or.inr rfl) (pe_op op_mod (pe_callTy call_int1 (by rfl) hf_int (by decide +kernel) (pa_cons (pe_op op_add (pe_ix ix_lt (pv 0) pe_int (fun _ _ => rfl)) (pe_op op_mulU pe_int (pe_ix ix_lt (pv 0) pe_int (fun _ _ => rfl)))) pa_nil)) pe_int))
      (pss_cons (ps_set (i := 4) sc__law_roll.nd rfl (by first | exact Or.inl rfl | exact Or.inr rfl) (pe_op op_mod (pe_callTy call_int1 (by rfl) hf_int (by decide +kernel) (pa_cons (pe_op op_add (pe_op op_mulU (pv 3) (pv 3)) (pe_op op_mulU pe_int (pe_ix ix_lt (pv 0) pe_int (fun _ _ => rfl)))) pa_nil)) pe_int))
      (pss_one (ps_ret (pe_op op_mod (pe_callTy call_int1 (by rfl) hf_int (by decide +kernel) (pa_cons (pe_op op_fdivW (pe_op op_add (pe_op op_mulU (pv 4) pe_int) (pv 3)) pe_int) pa_nil)) (pv 1))))))))
/-! ### _law_gcd -/
theorem sc__law_gcd : FnScope ["one", "other"] ["one", "other"] (defScope s__law_gcd) := ⟨rfl, rfl, rfl, by decide +kernel, rfl, by decide +kernel, by decide +kernel⟩
def sp__law_gcd (K : PySem.W.Frag) : Sp := fun vs H Q _ => ∃ a b : Int, vs = [.int a, .int b] ∧ Q (.int ((Nat.gcd a.natAbs b.natAbs : Nat) : Int)) H
theorem len__law_gcd {K : PySem.W.Frag} {vs : List V} {H : Hp} {Q : VK} {E : XK} (h : sp__law_gcd K vs H Q E) : vs.length = ["one", "other"].length := by
  obtain ⟨_, _, rfl, _⟩ := h
  rfl
def t__law_gcd_w1_c (K : PySem.W.Frag) : TT := (tTest (tOp rGtI (tVar 1) (tC (.int 0))))
def t__law_gcd_w1_b (K : PySem.W.Frag) : TS := (tPar 0 1 (tCons (tVar 1) (tCons (tOp rModU (tCB (rInt1) (tCons (tVar 0) tNil)) (tVar 1)) tNil)))
def t__law_gcd (K : PySem.W.Frag) : TS := (tSeq (tPar 0 1 (tCons (tCB (rAbs) (tCons (tVar 0) tNil)) (tCons (tCB (rAbs) (tCons (tVar 1) tNil)) tNil)))
  (tSeq (tWhile (t__law_gcd_w1_c K) (t__law_gcd_w1_b K))
  (tRet (tVar 0))))
theorem abs_nat (a : Int) : (if a < 0 then -a else a) = ((a.natAbs : Nat) : Int) := by split <;> omega
theorem pure__law_gcd (K : PySem.W.Frag) (vs : List V) (H : Hp) (Q : VK) (E : XK) (h : sp__law_gcd K vs H Q E) : t__law_gcd K { nx := fun _ H' => Q .non H', rt := Q } (start ["one", "other"] vs) H := by
  obtain ⟨a, b, rfl, hq⟩ := h
  unfold t__law_gcd
  walk_at "z"
  rw [abs_nat, abs_nat]
  refine while_of (fun μ σ H' => ∃ x y : Nat, σ = [some (.int (x : Int)), some (.int (y : Int))] ∧ H' = H ∧ Nat.gcd x y = Nat.gcd a.natAbs b.natAbs ∧ μ = y) b.natAbs ⟨_, _, rfl, rfl, rfl, rfl⟩ ?_
  rintro μ σ H' ⟨x, y, rfl, rfl, hg, rfl⟩ N hN hN2
  unfold t__law_gcd_w1_c t__law_gcd_w1_b
  walk_at "z"
  by_cases h0 : 0 < μ
  · rw [if_pos (by omega)]
    refine ⟨N, hN2, ?_⟩
    walk_at "z"
    refine ⟨by omega, hN (x % μ) _ _ (Nat.mod_lt _ h0) ⟨μ, x % μ, by rw [Int.natCast_emod], rfl, ?_, rfl⟩⟩
    rw [← hg, Nat.gcd_comm μ (x % μ), ← Nat.gcd_rec μ x, Nat.gcd_comm]
  · rw [if_neg (by omega)]
    obtain rfl : μ = 0 := by omega
    rw [Nat.gcd_zero_right] at hg
    subst hg
    exact hq
theorem ok__law_gcd {P : Program} {w : World} {K : PySem.W.Frag} {mg : Str → Option Value} {base : Heap} (T : Tx K mg) : Okk P w K mg base 1 "_law_gcd" ["one", "other"] (sp__law_gcd K) := by
  have hf_abs := T.n_abs
  have hf_int := T.n_int
  obtain ⟨fd, F⟩ := T.f__law_gcd
  refine ⟨fd, F.ok sc__law_gcd (fun vs H Q E h => len__law_gcd h) (fun cdv A outer s H vs Q E hr h => ⟨t__law_gcd K, PSs.nox ?_, pure__law_gcd K vs H Q E h⟩), F.bindsN (fun _ _ _ _ _ _ us hl => match us, hl with | [_, _], _ => rfl), T.g__law_gcd, F.kp⟩
  exact (pss_cons (ps_par (i := 0) (j := 1) rfl sc__law_gcd.nd rfl rfl (by decide) rfl rfl (pa_cons (pe_callB call_abs (by rfl) hf_abs (by decide +kernel) (pa_cons (pv 0) pa_nil)) (pa_cons (pe_callB call_abs (by rfl) hf_abs (by decide +kernel) (pa_cons (pv 1) pa_nil)) pa_nil)) (by rfl))
      (pss_cons (ps_while PassesOwn.never (pt_cmpR op_gt (pv 1) pe_int (nomark _)) (pss_one (ps_par (i := 0) (j := 1) rfl sc__law_gcd.nd rfl rfl (by decide) rfl rfl (pa_cons (pv 1) (pa_cons (pe_op op_mod (pe_callTy call_int1 (by rfl) hf_int (by decide +kernel) (pa_cons (pv 0) pa_nil)) (pv 1)) pa_nil)) (by rfl))))
      (pss_one (ps_ret (pv 0)))))
/-! ### _law_pr_times -/
theorem sc__law_pr_times : FnScope ["base", "exponent", "found", "turn"] ["base", "exponent"] (defScope s__law_pr_times) := ⟨rfl, rfl, rfl, by decide +kernel, rfl, by decide +kernel, by decide +kernel⟩
def sp__law_pr_times (K : PySem.W.Frag) : Sp := fun vs H Q _ => ∃ b e : Int, vs = [.int b, .int e] ∧ -(2 ^ 64) < b ∧ b < 2 ^ 64 ∧ e < 2 ^ 62 ∧ -(2 ^ 62) ≤ e ∧ Q (.int (b ^ e.toNat)) H
theorem len__law_pr_times {K : PySem.W.Frag} {vs : List V} {H : Hp} {Q : VK} {E : XK} (h : sp__law_pr_times K vs H Q E) : vs.length = ["base", "exponent"].length := by
  obtain ⟨_, _, rfl, _⟩ := h
  rfl
def t__law_pr_times_f1_b (K : PySem.W.Frag) : TS := (tAsg (tOp rMulU (tVar 2) (tVar 0)) (gName 2))
def t__law_pr_times (K : PySem.W.Frag) : TS := (tSeq (tAsg (tC (.int 1)) (gName 2))
  (tSeq (tFor (iRng1 (tCons (tVar 1) tNil)) (gName 3) (t__law_pr_times_f1_b K))
  (tRet (tVar 2))))
theorem pure__law_pr_times (K : PySem.W.Frag) (vs : List V) (H : Hp) (Q : VK) (E : XK) (h : sp__law_pr_times K vs H Q E) : t__law_pr_times K { nx := fun _ H' => Q .non H', rt := Q } (start ["base", "exponent", "found", "turn"] vs) H := by
  obtain ⟨b, e, rfl, h1, h2, h3, h4, hq⟩ := h
  unfold t__law_pr_times
  walk_at "z"
  refine ⟨e, rfl, by omega, by omega, for_R (fun i σ H' => ∃ o, σ = [some (.int b), some (.int e), some (.int (b ^ i)), o] ∧ H' = H) ⟨none, by rw [Int.pow_zero], rfl⟩ (fun i σ H' hi h N hN => ?_) (fun σ H' h => ?_)⟩
  · obtain ⟨o, rfl, rfl⟩ := h
    unfold t__law_pr_times_f1_b
    walk_at "z"
    exact ⟨mulR (by omega), hN _ _ ⟨_, by rw [Int.pow_succ], rfl⟩⟩
  · obtain ⟨o, rfl, rfl⟩ := h
    walk_at "z"
    exact hq

theorem ok__law_pr_times {P : Program} {w : World} {K : PySem.W.Frag} {mg : Str → Option Value} {base : Heap} (T : Tx K mg) : Okk P w K mg base 1 "_law_pr_times" ["base", "exponent"] (sp__law_pr_times K) := by
  have hf_range := T.n_range
  obtain ⟨fd, F⟩ := T.f__law_pr_times
  refine ⟨fd, F.ok sc__law_pr_times (fun vs H Q E h => len__law_pr_times h) (fun cdv A outer s H vs Q E hr h => ⟨t__law_pr_times K, PSs.nox ?_, pure__law_pr_times K vs H Q E h⟩), F.bindsN (fun _ _ _ _ _ _ us hl => match us, hl with | [_, _], _ => rfl), T.g__law_pr_times, F.kp⟩
  exact (pss_cons (ps_set (i := 2) sc__law_pr_times.nd rfl (by first | exact Or.inl rfl | exact Or.inr rfl) pe_int)
      (pss_cons (ps_for PassesOwn.never rfl (pi_range1 rfl hf_range (pa_cons (pv 1) pa_nil)) (pg_name (i := 3) sc__law_pr_times.nd rfl (by first | exact Or.inl rfl | exact Or.inr rfl)) (pss_one (ps_set (i := 2) sc__law_pr_times.nd rfl (by first | exact Or.inl rfl | exact Or.inr rfl) (pe_op op_mulU (pv 2) (pv 0)))))
      (pss_one (ps_ret (pv 2)))))
/-! ### _law_order -/
theorem sc__law_order : FnScope ["modulus", "number", "here", "found"] ["modulus", "number"] (defScope s__law_order) := ⟨rfl, rfl, rfl, by decide +kernel, rfl, by decide +kernel, by decide +kernel⟩
def sp__law_order (K : PySem.W.Frag) : Sp := fun vs H Q _ => ∃ (m n : Int) (k : Nat), vs = [.int m, .int n] ∧ 0 < m ∧ m < 2 ^ 60 ∧ IsOrd m n k ∧ Q (.int (k : Int)) H
theorem len__law_order {K : PySem.W.Frag} {vs : List V} {H : Hp} {Q : VK} {E : XK} (h : sp__law_order K vs H Q E) : vs.length = ["modulus", "number"].length := by
  obtain ⟨_, _, _, rfl, _⟩ := h
  rfl
def t__law_order_w1_c (K : PySem.W.Frag) : TT := (tTest (tOp rNe (tVar 2) (tOp rModU (tC (.int 1)) (tVar 0))))
def t__law_order_w1_b (K : PySem.W.Frag) : TS := (tPar 2 3 (tCons (tOp rModU (tCB (rInt1) (tCons (tOp rMulU (tVar 2) (tVar 1)) tNil)) (tVar 0)) (tCons (tOp rAdd (tVar 3) (tC (.int 1))) tNil)))
def t__law_order (K : PySem.W.Frag) : TS := (tSeq (tPar 2 3 (tCons (tOp rModU (tCB (rInt1) (tCons (tVar 1) tNil)) (tVar 0)) (tCons (tC (.int 1)) tNil)))
  (tSeq (tWhile (t__law_order_w1_c K) (t__law_order_w1_b K))
  (tRet (tVar 3))))
theorem pure__law_order (K : PySem.W.Frag) (vs : List V) (H : Hp) (Q : VK) (E : XK) (h : sp__law_order K vs H Q E) : t__law_order K { nx := fun _ H' => Q .non H', rt := Q } (start ["modulus", "number", "here", "found"] vs) H := by
  obtain ⟨m, n, k, rfl, h0, h1, hk, hq⟩ := h
  unfold t__law_order
  walk_at "z"
  refine ⟨h0, ?_⟩
  refine while_of (fun μ σ H' => ∃ j : Nat, σ = [some (.int m), some (.int n), some (.int (n ^ j % m)), some (.int (j : Int))] ∧ H' = H ∧ 1 ≤ j ∧ j ≤ k ∧ μ = k - j) (k - 1) ⟨1, by rw [Int.pow_succ, Int.pow_zero, Int.one_mul]; rfl, rfl, Nat.le_refl 1, hk.1, rfl⟩ ?_
  rintro μ σ H' ⟨j, rfl, rfl, hj, hjk, rfl⟩ N hN hN2
  unfold t__law_order_w1_c t__law_order_w1_b
  walk_at "z"
  refine ⟨h0, ?_⟩
  by_cases he : n ^ j % m = 1 % m
  · have : j = k := by
      refine Classical.byContradiction fun c => hk.2.2 j hj (by omega) he
    subst this
    rw [if_neg (by simpa using he)]
    exact hq
  · rw [if_pos (by simpa using he)]
    refine ⟨N, hN2, ?_⟩
    walk_at "z"
    have e1 := Int.emod_nonneg (n ^ j) (show m ≠ 0 by omega)
    have e2 := Int.emod_lt_of_pos (n ^ j) h0
    have hlt : j < k := by
      refine Nat.lt_of_le_of_ne hjk fun c => he ?_
      rw [c]; exact hk.2.1
    refine ⟨mulS (by omega), h0, hN _ _ _ (by omega) ⟨j + 1, ?_, rfl, by omega, by omega, rfl⟩⟩
    rw [Int.pow_succ, Int.mul_emod (n ^ j), Int.mul_emod (n ^ j % m), emod_emod']
    rfl
theorem ok__law_order {P : Program} {w : World} {K : PySem.W.Frag} {mg : Str → Option Value} {base : Heap} (T : Tx K mg) : Okk P w K mg base 1 "_law_order" ["modulus", "number"] (sp__law_order K) := by
  have hf_int := T.n_int
  obtain ⟨fd, F⟩ := T.f__law_order
  refine ⟨fd, F.ok sc__law_order (fun vs H Q E h => len__law_order h) (fun cdv A outer s H vs Q E hr h => ⟨t__law_order K, PSs.nox ?_, pure__law_order K vs H Q E h⟩), F.bindsN (fun _ _ _ _ _ _ us hl => match us, hl with | [_, _], _ => rfl), T.g__law_order, F.kp⟩
  exact (pss_cons (ps_par (i := 2) (j := 3) rfl sc__law_order.nd rfl rfl (by decide) rfl rfl (pa_cons (pe_op op_mod (pe_callTy call_int1 (by rfl) hf_int (by decide +kernel) (pa_cons (pv 1) pa_nil)) (pv 0)) (pa_cons pe_int pa_nil)) (by rfl))
      (pss_cons (ps_while PassesOwn.never (pt_cmpR op_ne (pv 2) (pe_op op_mod pe_int (pv 0)) (nomark _)) (pss_one (ps_par (i := 2) (j := 3) rfl sc__law_order.nd rfl rfl (by decide) rfl rfl (pa_cons (pe_op op_mod (pe_callTy call_int1 (by rfl) hf_int (by decide +kernel) (pa_cons (pe_op op_mulU (pv 2) (pv 1)) pa_nil)) (pv 0)) (pa_cons (pe_op op_add (pv 3) pe_int) pa_nil)) (by rfl))))
      (pss_one (ps_ret (pv 3)))))
/-! ### _law_pick -/
theorem sc__law_pick : FnScope ["dice", "items"] ["dice", "items"] (defScope s__law_pick) := ⟨rfl, rfl, rfl, by decide +kernel, rfl, by decide +kernel, by decide +kernel⟩
def sp__law_pick (K : PySem.W.Frag) : Sp := fun vs H Q _ => ∃ (d L : Addr) (xs : List V), vs = [.ref d, .ref L] ∧ Dice H d ∧ d ≠ L ∧ H L = some (.lst xs) ∧ xs ≠ [] ∧ xs.length < 2 ^ 40 ∧ ∀ v H', v ∈ xs → Keep d H H' → Dice H' d → Q v H'
theorem len__law_pick {K : PySem.W.Frag} {vs : List V} {H : Hp} {Q : VK} {E : XK} (h : sp__law_pick K vs H Q E) : vs.length = ["dice", "items"].length := by
  obtain ⟨_, _, _, rfl, _⟩ := h
  rfl
def t__law_pick (K : PySem.W.Frag) : TS := (tRet (tOp (rIxA K) (tVar 1) (tCall (sp__law_roll K) [] E0 (tCons (tVar 0) (tCons (tCB (rLenU K) (tCons (tVar 1) tNil)) tNil)))))
theorem pure__law_pick (K : PySem.W.Frag) (vs : List V) (H : Hp) (Q : VK) (E : XK) (h : sp__law_pick K vs H Q E) : t__law_pick K { nx := fun _ H' => Q .non H', rt := Q } (start ["dice", "items"] vs) H := by
  obtain ⟨d, L, xs, rfl, hD, hne, hL, hx, hl, hq⟩ := h
  unfold t__law_pick
  walk_at "z"
  refine lenL (sqL_of hL) ?_
  walk_at "z"
  have hp : 0 < xs.length := List.length_pos_iff.mpr hx
  refine ⟨d, _, rfl, hD, by omega, by omega, fun r H' r0 r1 k1 d1 => ?_⟩
  walk_at "z"
  have hr : r.toNat < xs.length := by omega
  have e : r = ((r.toNat : Nat) : Int) := by omega
  refine ixL (sqL_of (k1 _ _ (Ne.symm hne) hL)) (v := xs[r.toNat]) ?_ (hq _ _ (List.getElem_mem hr) k1 d1)
  have h9 := atI_nat (List.getElem?_eq_getElem hr)
  rw [← e] at h9
  exact h9
theorem ok__law_pick {P : Program} {w : World} {K : PySem.W.Frag} {mg : Str → Option Value} {base : Heap} (T : Tx K mg) : Okk P w K mg base 2 "_law_pick" ["dice", "items"] (sp__law_pick K) := by
  obtain ⟨fd__law_roll, F__law_roll, b__law_roll, g__law_roll, k__law_roll⟩ := ok__law_roll (P := P) (w := w) (base := base) T
  have hf_len := T.n_len
  obtain ⟨fd, F⟩ := T.f__law_pick
  refine ⟨fd, F.ok sc__law_pick (fun vs H Q E h => len__law_pick h) (fun cdv A outer s H vs Q E hr h => ⟨t__law_pick K, PSs.nox ?_, pure__law_pick K vs H Q E h⟩), F.bindsN (fun _ _ _ _ _ _ us hl => match us, hl with | [_, _], _ => rfl), T.g__law_pick, F.kp⟩
  exact (pss_one (ps_ret (pe_ix ix_lt (pv 1) (pe_call F__law_roll (hr.mono (by decide)) rfl g__law_roll k__law_roll b__law_roll .nil pass0 (pa_cons (pv 0) (pa_cons (pe_callB call_len_seq (by rfl) hf_len (by decide +kernel) (pa_cons (pv 1) pa_nil)) pa_nil))) (fun _ _ => rfl))))
/-! ### _law_order_of_power -/
theorem sc__law_order_of_power : FnScope ["order", "times", "number"] ["order", "times", "number"] (defScope s__law_order_of_power) := ⟨rfl, rfl, rfl, by decide +kernel, rfl, by decide +kernel, by decide +kernel⟩
def sp__law_order_of_power (K : PySem.W.Frag) : Sp := fun vs H Q _ => ∃ (k t : Nat) (n : Int), vs = [.int (k : Int), .int (t : Int), .int n] ∧ 1 ≤ k ∧ k < 2 ^ 40 ∧ Q (.int (if -1000 < n ∧ n < 1000 then ((k / Nat.gcd k t : Nat) : Int) else 1)) H
theorem len__law_order_of_power {K : PySem.W.Frag} {vs : List V} {H : Hp} {Q : VK} {E : XK} (h : sp__law_order_of_power K vs H Q E) : vs.length = ["order", "times", "number"].length := by
  obtain ⟨_, _, _, rfl, _⟩ := h
  rfl
def t__law_order_of_power (K : PySem.W.Frag) : TS := (tRet (tIf (tTest (tOp rLtI (tCB (rAbs) (tCons (tVar 2) tNil)) (tC (.int 1000)))) (tOp rDivU (tVar 0) (tCall (sp__law_gcd K) [] E0 (tCons (tVar 0) (tCons (tVar 1) tNil)))) (tC (.int 1))))
theorem abs_lt {n : Int} : (if n < 0 then -n else n) < 1000 ↔ -1000 < n ∧ n < 1000 := by split <;> omega
theorem pure__law_order_of_power (K : PySem.W.Frag) (vs : List V) (H : Hp) (Q : VK) (E : XK) (h : sp__law_order_of_power K vs H Q E) : t__law_order_of_power K { nx := fun _ H' => Q .non H', rt := Q } (start ["order", "times", "number"] vs) H := by
  obtain ⟨k, t, n, rfl, h1, h2, hq⟩ := h
  unfold t__law_order_of_power
  walk_at "z"
  by_cases h : -1000 < n ∧ n < 1000
  · rw [if_pos (abs_lt.mpr h)]
    rw [if_pos h] at hq
    refine ⟨_, _, rfl, ?_⟩
    walk_at "z"
    rw [Int.natAbs_natCast, Int.natAbs_natCast]
    have hg : 0 < Nat.gcd k t := Nat.gcd_pos_of_pos_left t h1
    have hg2 : Nat.gcd k t ≤ k := Nat.le_of_dvd h1 (Nat.gcd_dvd_left k t)
    refine ⟨divS (by omega) (by omega), ?_⟩
    rw [← Int.natCast_ediv]
    exact hq
  · rw [if_neg fun c => h (abs_lt.mp c)]
    rw [if_neg h] at hq
    exact hq
theorem ok__law_order_of_power {P : Program} {w : World} {K : PySem.W.Frag} {mg : Str → Option Value} {base : Heap} (T : Tx K mg) : Okk P w K mg base 2 "_law_order_of_power" ["order", "times", "number"] (sp__law_order_of_power K) := by
  obtain ⟨fd__law_gcd, F__law_gcd, b__law_gcd, g__law_gcd, k__law_gcd⟩ := ok__law_gcd (P := P) (w := w) (base := base) T
  have hf_abs := T.n_abs
  obtain ⟨fd, F⟩ := T.f__law_order_of_power
  refine ⟨fd, F.ok sc__law_order_of_power (fun vs H Q E h => len__law_order_of_power h) (fun cdv A outer s H vs Q E hr h => ⟨t__law_order_of_power K, PSs.nox ?_, pure__law_order_of_power K vs H Q E h⟩), F.bindsN (fun _ _ _ _ _ _ us hl => match us, hl with | [_, _, _], _ => rfl), T.g__law_order_of_power, F.kp⟩
  exact (pss_one (ps_ret (pe_ifExp (pt_cmpR op_lt (pe_callB call_abs (by rfl) hf_abs (by decide +kernel) (pa_cons (pv 2) pa_nil)) pe_int (nomark _)) (pe_op op_fdivW (pv 0) (pe_call F__law_gcd (hr.mono (by decide)) rfl g__law_gcd k__law_gcd b__law_gcd .nil pass0 (pa_cons (pv 0) (pa_cons (pv 1) pa_nil)))) pe_int)))
/-! ### _law_makers -/
theorem sc__law_makers : FnScope ["prime", "one"] ["prime"] (defScope s__law_makers) := ⟨rfl, rfl, rfl, by decide +kernel, rfl, by decide +kernel, by decide +kernel⟩
def sp__law_makers (K : PySem.W.Frag) : Sp := fun vs H Q _ => ∃ p : Nat, vs = [.int (p : Int)] ∧ PrimeN p ∧ p < 700 ∧ ∀ D H', Same H H' → H' D = some (.lst ((mkF p (p - 1)).map fun x : Nat => V.int (x : Int))) → Q (.ref D) H'
theorem len__law_makers {K : PySem.W.Frag} {vs : List V} {H : Hp} {Q : VK} {E : XK} (h : sp__law_makers K vs H Q E) : vs.length = ["prime"].length := by
  obtain ⟨_, rfl, _⟩ := h
  rfl
def t__law_makers (K : PySem.W.Frag) : TS := (tRet (tLc (iRng2 (tCons (tC (.int 1)) (tCons (tVar 0) tNil))) (gName 1) (tTest (tOp rEq (tCall (sp__law_order K) [] E0 (tCons (tVar 0) (tCons (tVar 1) tNil))) (tOp rSub (tVar 0) (tC (.int 1))))) (tVar 1) [1]))
theorem pure__law_makers (K : PySem.W.Frag) (vs : List V) (H : Hp) (Q : VK) (E : XK) (h : sp__law_makers K vs H Q E) : t__law_makers K { nx := fun _ H' => Q .non H', rt := Q } (start ["prime", "one"] vs) H := by
  obtain ⟨p, rfl, hp, hl, hq⟩ := h
  unfold t__law_makers
  walk_at "z"
  have p2 := hp.1
  have e0 : ((p : Int) - 1).toNat = p - 1 := by omega
  refine ⟨_, _, rfl, by omega, ?_⟩
  rw [e0]
  refine comp_R (fun i => if ordF p (i + 1) = p - 1 then some (V.int ((i + 1 : Nat) : Int)) else none) (by omega) (fun i H' hi s Qo hQo => ?_) (fun D H' s hD => ?_)
  · walk_at "z"
    obtain ⟨_, _, hk⟩ := ord_small hp hl (show 1 ≤ i + 1 by omega) (show i + 1 < p by omega)
    have ei : (1 : Int) + (i : Int) = ((i + 1 : Nat) : Int) := by omega
    rw [ei]
    refine ⟨p, _, _, rfl, by omega, by omega, hk, ?_⟩
    walk_at "z"
    have := hQo H' (Same.refl H')
    by_cases c : ordF p (i + 1) = p - 1
    · rw [if_pos c] at this
      rw [if_pos (by omega)]
      exact this
    · rw [if_neg c] at this
      rw [if_neg (by omega)]
      exact this
  · rw [outL_mk fun i _ => rfl] at hD
    exact hq D H' s hD

theorem ok__law_makers {P : Program} {w : World} {K : PySem.W.Frag} {mg : Str → Option Value} {base : Heap} (T : Tx K mg) : Okk P w K mg base 2 "_law_makers" ["prime"] (sp__law_makers K) := by
  obtain ⟨fd__law_order, F__law_order, b__law_order, g__law_order, k__law_order⟩ := ok__law_order (P := P) (w := w) (base := base) T
  have hf_range := T.n_range
  obtain ⟨fd, F⟩ := T.f__law_makers
  refine ⟨fd, F.ok sc__law_makers (fun vs H Q E h => len__law_makers h) (fun cdv A outer s H vs Q E hr h => ⟨t__law_makers K, PSs.nox ?_, pure__law_makers K vs H Q E h⟩), F.bindsN (fun _ _ _ _ _ _ us hl => match us, hl with | [_], _ => rfl), T.g__law_makers, F.kp⟩
  exact (pss_one (ps_ret (pe_lc (own := [("one", 1)]) (g := (gName 1)) (tt := (tTest (tOp rEq (tCall (sp__law_order K) [] E0 (tCons (tVar 0) (tCons (tVar 1) tNil))) (tOp rSub (tVar 0) (tC (.int 1)))))) rfl sc__law_makers.nd (pi_range2 rfl hf_range (pa_cons pe_int (pa_cons (pv 0) pa_nil))) (blkOk_by (own := [("one", 1)]) (N := ["prime", "one"]) (sc := defScope s__law_makers) (by decide +kernel)) (fun _ _ _ _ _ => (pg_name (i := 1) sc__law_makers.nd rfl (by first | exact Or.inl rfl | exact Or.inr rfl))) (fun _ _ _ _ _ => (pts_one (pt_cmpR op_eq (pe_call F__law_order (hr.mono (by decide)) rfl g__law_order k__law_order b__law_order .nil pass0 (pa_cons (pv 0) (pa_cons (pv 1) pa_nil))) (pe_op op_sub (pv 0) pe_int) (nomark _)))) (fun _ _ _ _ _ => (pv 1)))))
/-! ### _law_order_right -/
theorem sc__law_order_right : FnScope ["dice", "modulus", "number", "told", "times", "power"] ["dice"] (defScope s__law_order_right) := ⟨rfl, rfl, rfl, by decide +kernel, rfl, by decide +kernel, by decide +kernel⟩
theorem ipow_bound {n : Int} {t : Nat} (h : -1000 < n ∧ n < 1000) (ht : t ≤ 12) : -(10 ^ 36) ≤ n ^ t ∧ n ^ t ≤ 10 ^ 36 := by
  have h1 : n.natAbs ^ t ≤ 1000 ^ 12 := Nat.le_trans (Nat.pow_le_pow_left (show n.natAbs ≤ 1000 by omega) t) (Nat.pow_le_pow_right (by decide) ht)
  have h2 : (n ^ t).natAbs = n.natAbs ^ t := Int.natAbs_pow n t
  have h3 : (1000 : Nat) ^ 12 = 10 ^ 36 := by decide
  omega
def sp__law_order_right (K : PySem.W.Frag) : Sp := fun vs H Q _ => ∃ d : Addr, vs = [.ref d] ∧ Dice H d ∧ ∀ H', Keep d H H' → Dice H' d → Q (.bl true) H'
theorem len__law_order_right {K : PySem.W.Frag} {vs : List V} {H : Hp} {Q : VK} {E : XK} (h : sp__law_order_right K vs H Q E) : vs.length = ["dice"].length := by
  obtain ⟨_, rfl, _⟩ := h
  rfl
def t__law_order_right_k1_b (K : PySem.W.Frag) : TS := (tSeq (tIfS (tTest (tOp rNe (tCall (sp__law_gcd K) [] E0 (tCons (tVar 1) (tCons (tVar 2) tNil))) (tC (.int 1)))) (tRet (tC (.bl true))) tNext)
  (tSeq (tAsg (tCall (sp_order_of K) [] E0 (tCons (tVar 1) (tCons (tVar 2) tNil))) (gName 3))
  (tSeq (tIfS (tOr (tTest (tOp rNe (tVar 3) (tCall (sp__law_order K) [] E0 (tCons (tVar 1) (tCons (tVar 2) tNil))))) (tTest (tOp rNe (tOp rModU (tCall (sp_units_number K) [] E0 (tCons (tVar 1) tNil)) (tVar 3)) (tC (.int 0))))) (tRet (tC (.bl false))) tNext)
  (tSeq (tAsg (tOp rAdd (tC (.int 1)) (tCall (sp__law_roll K) [] E0 (tCons (tVar 0) (tCons (tC (.int 12)) tNil)))) (gName 4))
  (tSeq (tAsg (tIf (tTest (tOp rLtI (tCB (rAbs) (tCons (tVar 2) tNil)) (tC (.int 1000)))) (tCall (sp__law_pr_times K) [] E0 (tCons (tVar 2) (tCons (tVar 4) tNil))) (tC (.int 1))) (gName 5))
  (tRet (tOp rEq (tCall (sp_order_of K) [] E0 (tCons (tVar 1) (tCons (tVar 5) tNil))) (tCall (sp__law_order_of_power K) [] E0 (tCons (tVar 3) (tCons (tVar 4) (tCons (tVar 2) tNil)))))))))))
def t__law_order_right (K : PySem.W.Frag) : TS := (tSeq (tPar 1 2 (tCons (tOp rAdd (tC (.int 1)) (tCall (sp__law_roll K) [] E0 (tCons (tVar 0) (tCons (tC (.int 700)) tNil)))) (tCons (tOp rSub (tCall (sp__law_roll K) [] E0 (tCons (tVar 0) (tCons (tC (.int 2000)) tNil))) (tC (.int 1000))) tNil)))
  (tSeq (tIfS (tTest (tOp rEq (tCall (sp__law_roll K) [] E0 (tCons (tVar 0) (tCons (tC (.int 5)) tNil))) (tC (.int 0)))) (tAsg (tOp rSub (tCall (sp__law_roll K) [] E0 (tCons (tVar 0) (tCons (tOp rPowU (tC (.int 10)) (tC (.int 60))) tNil))) (tOp rMulU (tC (.int 5)) (tOp rPowU (tC (.int 10)) (tC (.int 59))))) (gName 2)) tNext)
  (t__law_order_right_k1_b K)))
theorem pure__law_order_right (K : PySem.W.Frag) (vs : List V) (H : Hp) (Q : VK) (E : XK) (h : sp__law_order_right K vs H Q E) : t__law_order_right K { nx := fun _ H' => Q .non H', rt := Q } (start ["dice", "modulus", "number", "told", "times", "power"] vs) H := by
  obtain ⟨d, rfl, hD, hq⟩ := h
  unfold t__law_order_right
  walk_at "z"
  refine ⟨d, _, rfl, hD, by decide, by decide, fun r1 H1 a1 b1 k1 d1 => ?_⟩
  walk_at "z"
  refine ⟨d, _, rfl, d1, by decide, by decide, fun r2 H2 a2 b2 k2 d2 => ?_⟩
  walk_at "z"
  refine ⟨d, _, rfl, d2, by decide, by decide, fun r3 H3 a3 b3 k3 d3 => ?_⟩
  walk_at "z"
  have K3 : Keep d H H3 := (k1.trans k2).trans k3
  obtain ⟨m, hm⟩ : ∃ m : Nat, 1 + r1 = (m : Int) := ⟨(1 + r1).toNat, by omega⟩
  have key : ∀ (n : Int) H', -(10 ^ 60) < n → n < 10 ^ 60 → Keep d H H' → Dice H' d → t__law_order_right_k1_b K { nx := fun _ H' => Q V.non H', rt := Q } [some (.ref d), some (.int (m : Int)), some (.int n), none, none, none] H' := by
    intro n H4 n1 n2 K4 D4
    unfold t__law_order_right_k1_b
    walk_at "z"
    refine ⟨_, _, rfl, ?_⟩
    walk_at "z"
    rw [Int.natAbs_natCast]
    by_cases hg : Nat.gcd m n.natAbs = 1
    · rw [if_neg (by rw [hg]; decide)]
      have hm1 : 1 ≤ m := by omega
      have hm2 : m ≤ 700 := by omega
      have hE := euler_small hm1 hm2 hg
      refine ⟨m, n, rfl, hm1, by omega, n1, n2, hg, hE, fun k H5 hk s5 => ?_⟩
      walk_at "z"
      refine ⟨m, n, k, rfl, by omega, by omega, hk, ?_⟩
      walk_at "z"
      have gN := ppN_good hm1
      obtain ⟨N1, N2⟩ := cuN_bounds gN.pr
      rw [gN.prod] at N2
      have hkN : k ∣ cuN (ppN m) := hk.dvd.mp hE
      have hkle : k ≤ cuN (ppN m) := Nat.le_of_dvd N1 hkN
      have hk1 := hk.1
      refine ⟨m, rfl, hm1, by omega, fun H6 s6 => ?_⟩
      walk_at "z"
      refine ⟨by omega, ?_⟩
      rw [if_neg (fun c => c (by rw [← Int.natCast_emod, Nat.mod_eq_zero_of_dvd hkN]; rfl))]
      have K6 := (K4.same s5).same s6
      have D6 := (D4.same s5).same s6
      refine ⟨d, _, rfl, D6, by decide, by decide, fun r7 H7 a7 b7 k7 d7 => ?_⟩
      walk_at "z"
      have K7 := K6.trans k7
      obtain ⟨tt, ht⟩ : ∃ tt : Nat, 1 + r7 = (tt : Int) := ⟨(1 + r7).toNat, by omega⟩
      rw [ht]
      have fin : ∀ w j, Nat.gcd m (w : Int).natAbs = 1 → IsOrd m w j → -(10 ^ 60) < w → w < 10 ^ 60 → (j : Int) = (if -1000 < n ∧ n < 1000 then ((k / Nat.gcd k tt : Nat) : Int) else 1) →
          sp_order_of K [V.int (m : Int), V.int w] H7 (fun x H1 => sp__law_order_of_power K [V.int (k : Int), V.int (tt : Int), V.int n] H1 (fun y H2 => rEq x y H2 Q) E0) E0 := by
        intro w j hg2 hj w1 w2 e
        refine ⟨m, w, rfl, hm1, by omega, w1, w2, hg2, euler_small hm1 hm2 hg2, fun j2 H8 hj2 s8 => ?_⟩
        obtain rfl := hj.inj hj2
        refine ⟨k, tt, n, rfl, hk1, by omega, ?_⟩
        rw [← e]
        walk_at "z"
        exact hq _ (K7.same s8) (d7.same s8)
      by_cases hn : -1000 < n ∧ n < 1000
      · rw [if_pos (abs_lt.mpr hn)]
        refine ⟨n, _, rfl, by omega, by omega, by omega, by omega, ?_⟩
        walk_at "z"
        rw [Int.toNat_natCast]
        have hp := ipow_bound (n := n) (t := tt) hn (by omega)
        have hgp : Nat.gcd m (n ^ tt).natAbs = 1 := by
          rw [Int.natAbs_pow]
          exact Nat.Coprime.pow_right tt hg
        exact fin (n ^ tt) _ hgp (hk.pow (by omega)) (by omega) (by omega) (by rw [if_pos hn])
      · rw [if_neg fun c => hn (abs_lt.mp c)]
        refine fin 1 1 (by simp) ⟨Nat.le_refl 1, by simp, fun j a b => by omega⟩ (by omega) (by omega) (by rw [if_neg hn]; rfl)
    · rw [if_pos (by omega)]
      exact hq _ K4 D4
  rw [hm]
  by_cases h0 : r3 = 0
  · rw [if_pos h0]
    refine ⟨cpow (by decide), d, _, rfl, d3, by decide, by decide, fun r4 H4 a4 b4 k4 d4 => ?_⟩
    walk_at "z"
    refine ⟨cpow (by decide), mulS (by decide), ?_⟩
    have e1 : (10 : Int) ^ (60 : Int).toNat = 10 ^ 60 := rfl
    have e2 : (10 : Int) ^ (59 : Int).toNat = 10 ^ 59 := rfl
    rw [e1] at b4
    rw [e2]
    exact key _ _ (by omega) (by omega) (K3.trans k4) d4
  · rw [if_neg h0]
    exact key _ _ (by omega) (by omega) K3 d3

theorem ok__law_order_right {P : Program} {w : World} {K : PySem.W.Frag} {mg : Str → Option Value} {base : Heap} (T : Tx K mg) : Okk P w K mg base 5 "_law_order_right" ["dice"] (sp__law_order_right K) := by
  obtain ⟨fd_units_number, F_units_number, b_units_number, g_units_number, k_units_number⟩ := ok_units_number (P := P) (w := w) (base := base) T
  obtain ⟨fd_order_of, F_order_of, b_order_of, g_order_of, k_order_of⟩ := ok_order_of (P := P) (w := w) (base := base) T
  obtain ⟨fd__law_roll, F__law_roll, b__law_roll, g__law_roll, k__law_roll⟩ := ok__law_roll (P := P) (w := w) (base := base) T
  obtain ⟨fd__law_gcd, F__law_gcd, b__law_gcd, g__law_gcd, k__law_gcd⟩ := ok__law_gcd (P := P) (w := w) (base := base) T
  obtain ⟨fd__law_pr_times, F__law_pr_times, b__law_pr_times, g__law_pr_times, k__law_pr_times⟩ := ok__law_pr_times (P := P) (w := w) (base := base) T
  obtain ⟨fd__law_order, F__law_order, b__law_order, g__law_order, k__law_order⟩ := ok__law_order (P := P) (w := w) (base := base) T
  obtain ⟨fd__law_order_of_power, F__law_order_of_power, b__law_order_of_power, g__law_order_of_power, k__law_order_of_power⟩ := ok__law_order_of_power (P := P) (w := w) (base := base) T
  have hf_abs := T.n_abs
  obtain ⟨fd, F⟩ := T.f__law_order_right
  refine ⟨fd, F.ok sc__law_order_right (fun vs H Q E h => len__law_order_right h) (fun cdv A outer s H vs Q E hr h => ⟨t__law_order_right K, PSs.nox ?_, pure__law_order_right K vs H Q E h⟩), F.bindsN (fun _ _ _ _ _ _ us hl => match us, hl with | [_], _ => rfl), T.g__law_order_right, F.kp⟩
  exact (pss_cons (ps_par (i := 1) (j := 2) rfl sc__law_order_right.nd rfl rfl (by decide) rfl rfl (pa_cons (pe_op op_add pe_int (pe_call F__law_roll (hr.mono (by decide)) rfl g__law_roll k__law_roll b__law_roll .nil pass0 (pa_cons (pv 0) (pa_cons pe_int pa_nil)))) (pa_cons (pe_op op_sub (pe_call F__law_roll (hr.mono (by decide)) rfl g__law_roll k__law_roll b__law_roll .nil pass0 (pa_cons (pv 0) (pa_cons pe_int pa_nil))) pe_int) pa_nil)) (by rfl))
      (pss_cons (ps_if (pt_cmpR op_eq (pe_call F__law_roll (hr.mono (by decide)) rfl g__law_roll k__law_roll b__law_roll .nil pass0 (pa_cons (pv 0) (pa_cons pe_int pa_nil))) pe_int (nomark _)) (pss_one (ps_set (i := 2) sc__law_order_right.nd rfl (by first | exact Or.inl rfl | exact Or.inr rfl) (pe_op op_sub (pe_call F__law_roll (hr.mono (by decide)) rfl g__law_roll k__law_roll b__law_roll .nil pass0 (pa_cons (pv 0) (pa_cons (pe_op op_pow pe_int pe_int) pa_nil))) (pe_op op_mulU pe_int (pe_op op_pow pe_int pe_int))))) pss_nil)
      (pss_cons (ps_if (pt_cmpR op_ne (pe_call F__law_gcd (hr.mono (by decide)) rfl g__law_gcd k__law_gcd b__law_gcd .nil pass0 (pa_cons (pv 1) (pa_cons (pv 2) pa_nil))) pe_int (nomark _)) (pss_one (ps_ret pe_bl)) pss_nil)
      (pss_cons (ps_set (i := 3) sc__law_order_right.nd rfl (by first | exact Or.inl rfl | exact Or.inr rfl) (pe_call F_order_of (hr.mono (by decide)) rfl g_order_of k_order_of b_order_of .nil pass0 (pa_cons (pv 1) (pa_cons (pv 2) pa_nil))))
      (pss_cons (ps_if (PW.pt (pw_or (pt_cmpR op_ne (pv 3) (pe_call F__law_order (hr.mono (by decide)) rfl g__law_order k__law_order b__law_order .nil pass0 (pa_cons (pv 1) (pa_cons (pv 2) pa_nil))) (nomark _)) (pw_or1 (pt_cmpR op_ne (pe_op op_mod (pe_call F_units_number (hr.mono (by decide)) rfl g_units_number k_units_number b_units_number .nil pass0 (pa_cons (pv 1) pa_nil)) (pv 3)) pe_int (nomark _))))) (pss_one (ps_ret pe_bl)) pss_nil)
      (pss_cons (ps_set (i := 4) sc__law_order_right.nd rfl (by first | exact Or.inl rfl | exact Or.inr rfl) (pe_op op_add pe_int (pe_call F__law_roll (hr.mono (by decide)) rfl g__law_roll k__law_roll b__law_roll .nil pass0 (pa_cons (pv 0) (pa_cons pe_int pa_nil)))))
      (pss_cons (ps_set (i := 5) sc__law_order_right.nd rfl (by first | exact Or.inl rfl | exact Or.inr rfl) (pe_ifExp (pt_cmpR op_lt (pe_callB call_abs (by rfl) hf_abs (by decide +kernel) (pa_cons (pv 2) pa_nil)) pe_int (nomark _)) (pe_call F__law_pr_times (hr.mono (by decide)) rfl g__law_pr_times k__law_pr_times b__law_pr_times .nil pass0 (pa_cons (pv 2) (pa_cons (pv 4) pa_nil))) pe_int))
      (pss_one (ps_ret (pe_cmpR op_eq (pe_call F_order_of (hr.mono (by decide)) rfl g_order_of k_order_of b_order_of .nil pass0 (pa_cons (pv 1) (pa_cons (pv 5) pa_nil))) (pe_call F__law_order_of_power (hr.mono (by decide)) rfl g__law_order_of_power k__law_order_of_power b__law_order_of_power .nil pass0 (pa_cons (pv 3) (pa_cons (pv 4) (pa_cons (pv 2) pa_nil)))) (nomark _)))))))))))
/-! ### _law_maker_right -/
theorem sc__law_maker_right : FnScope ["dice", "prime", "told", "some", "one"] ["dice"] (defScope s__law_maker_right) := ⟨rfl, rfl, rfl, by decide +kernel, rfl, by decide +kernel, by decide +kernel⟩
def sp__law_maker_right (K : PySem.W.Frag) : Sp := fun vs H Q _ => ∃ d : Addr, vs = [.ref d] ∧ Dice H d ∧ ∀ H', Keep d H H' → Dice H' d → Q (.bl true) H'
theorem len__law_maker_right {K : PySem.W.Frag} {vs : List V} {H : Hp} {Q : VK} {E : XK} (h : sp__law_maker_right K vs H Q E) : vs.length = ["dice"].length := by
  obtain ⟨_, rfl, _⟩ := h
  rfl
def t__law_maker_right_k1_b (K : PySem.W.Frag) : TS := (tRet (tOp (rEqD K) (tLc (iRng2 (tCons (tC (.int 1)) (tCons (tOp rAdd (tVar 2) (tC (.int 1))) tNil))) (gName 4) (tTest (tOp rEq (tCall (sp_order_of K) [] E0 (tCons (tVar 1) (tCons (tVar 4) tNil))) (tOp rSub (tVar 1) (tC (.int 1))))) (tVar 4) [4]) (tLst (tCons (tVar 2) tNil))))
def t__law_maker_right_k2_b (K : PySem.W.Frag) : TS := (tSeq (tIfS (tAnd (tTest (tOp (rNeD K) (tVar 3) (tLst tNil))) (tOr (tTest (tOp rNe (tVar 2) (tOp (rIxA K) (tVar 3) (tC (.int 0))))) (tTest (tOp rNe (tCB (rLenU K) (tCons (tVar 3) tNil)) (tCall (sp_units_number K) [] E0 (tCons (tOp rSub (tVar 1) (tC (.int 1))) tNil)))))) (tRet (tC (.bl false))) tNext)
  (t__law_maker_right_k1_b K))
def t__law_maker_right (K : PySem.W.Frag) : TS := (tSeq (tAsg (tCall (sp__law_pick K) [] E0 (tCons (tVar 0) (tCons (tLst (tCons (tC (.int 2)) (tCons (tC (.int 3)) (tCons (tC (.int 5)) (tCons (tC (.int 7)) (tCons (tC (.int 11)) (tCons (tC (.int 13)) (tCons (tC (.int 23)) (tCons (tC (.int 41)) (tCons (tC (.int 71)) (tCons (tC (.int 73)) (tCons (tC (.int 97)) (tCons (tC (.int 191)) (tCons (tC (.int 193)) (tCons (tC (.int 241)) (tCons (tC (.int 311)) (tCons (tC (.int 409)) (tCons (tC (.int 439)) (tCons (tC (.int 457)) (tCons (tC (.int 499)) tNil)))))))))))))))))))) tNil))) (gName 1))
  (tSeq (tAsg (tCall (sp_least_maker K) [] E0 (tCons (tVar 1) tNil)) (gName 2))
  (tSeq (tAsg (tIf (tTest (tOp rLtI (tVar 1) (tC (.int 200)))) (tCall (sp__law_makers K) [] E0 (tCons (tVar 1) tNil)) (tLst tNil)) (gName 3))
  (t__law_maker_right_k2_b K))))
theorem menu_list : ([V.int 2, V.int 3, V.int 5, V.int 7, V.int 11, V.int 13, V.int 23, V.int 41, V.int 71, V.int 73, V.int 97, V.int 191, V.int 193, V.int 241, V.int 311, V.int 409, V.int 439, V.int 457, V.int 499] : List V) = menuP.map fun p : Nat => V.int (p : Int) := rfl
theorem map_int (l : List Nat) : (l.map fun x : Nat => V.int (x : Int)) = (l.map fun x : Nat => (x : Int)).map V.int := by
  rw [List.map_map]; rfl
theorem primeI_of {p : Nat} (h : PrimeN p) : PrimeI p := by
  refine ⟨by have := h.1; omega, fun k h1 h2 h3 => ?_⟩
  have e : k = ((k.toNat : Nat) : Int) := by omega
  rw [e] at h3
  exact h.2 k.toNat (by omega) (by omega) (Int.natCast_dvd_natCast.mp h3)
theorem pure__law_maker_right (K : PySem.W.Frag) (vs : List V) (H : Hp) (Q : VK) (E : XK) (h : sp__law_maker_right K vs H Q E) : t__law_maker_right K { nx := fun _ H' => Q .non H', rt := Q } (start ["dice", "prime", "told", "some", "one"] vs) H := by
  obtain ⟨d, rfl, hD, hq⟩ := h
  unfold t__law_maker_right
  walk_at "z"
  refine ⟨by decide, fun L hL => ?_⟩
  have hdL : d ≠ L := by
    obtain ⟨_, _, _, h⟩ := hD
    exact ne_of_none h hL
  refine ⟨d, L, _, rfl, hD.same (same_upd hL), hdL, upd_same, by simp, by decide, fun v H1 hv k1 d1 => ?_⟩
  have K1 : Keep d H H1 := fun b o n h => k1 b o n (by rw [upd_ne (ne_of_none h hL)]; exact h)
  rw [menu_list] at hv
  obtain ⟨p, hp, rfl⟩ := List.mem_map.mp hv
  obtain ⟨g, M⟩ := menu_ok hp
  have p2 := M.pr.1
  have p3 := M.lt
  walk_at "z"
  refine ⟨p, g, rfl, by omega, primeI_of M.pr, M.g1, M.mko, M.least, fun H2 s2 => ?_⟩
  walk_at "z"
  have K2 := K1.same s2
  have D2 := d1.same s2
  -- the last row
  have key1 : ∀ (S : Addr) H3, Keep d H H3 → Dice H3 d → t__law_maker_right_k1_b K { nx := fun _ H' => Q V.non H', rt := Q } [some (.ref d), some (.int (p : Int)), some (.int (g : Int)), some (.ref S), none] H3 := by
    intro S H3 K3 D3
    unfold t__law_maker_right_k1_b
    walk_at "z"
    have hg2 := M.gl
    have e0 : ((g : Int) + 1 - 1).toNat = g := by omega
    refine ⟨_, _, rfl, by omega, ?_⟩
    rw [e0]
    refine comp_R (fun i => if ordF p (i + 1) = p - 1 then some (V.int ((i + 1 : Nat) : Int)) else none) (by omega) (fun i H' hi s Qo hQo => ?_) (fun D H' s hD => ?_)
    · walk_at "z"
      obtain ⟨o1, o2, hk⟩ := ord_small M.pr M.lt (show 1 ≤ i + 1 by omega) (show i + 1 < p by omega)
      have ei : (1 : Int) + (i : Int) = ((i + 1 : Nat) : Int) := by omega
      rw [ei]
      refine ⟨p, _, rfl, by omega, by omega, by omega, by omega, o1, o2, fun k H4 hk2 s4 => ?_⟩
      obtain rfl := hk.inj hk2
      walk_at "z"
      have := hQo H4 s4
      by_cases c : ordF p (i + 1) = p - 1
      · rw [if_pos c] at this
        rw [if_pos (by omega)]
        exact this
      · rw [if_neg c] at this
        rw [if_neg (by omega)]
        exact this
    · rw [outL_mk fun i _ => rfl, M.few] at hD
      walk_at "z"
      refine ⟨by decide, fun R hR => ?_⟩
      refine eqD_ints (ns := [(g : Int)]) (ms := [(g : Int)]) (sqL_of (same_upd hR _ _ hD)) (sqL_of upd_same) ?_
      walk_at "z"
      exact hq _ ((K3.same s).same (same_upd hR)) ((D3.same s).same (same_upd hR))
  -- what is left behind the makers
  have key : ∀ (S : Addr) (sm : List Nat) H3, Keep d H H3 → Dice H3 d → SqL K H3 S (sm.map fun x : Nat => V.int (x : Int)) → (sm = [] ∨ ∃ r, sm = g :: r ∧ sm.length = cuN (ppN (p - 1))) →
      t__law_maker_right_k2_b K { nx := fun _ H' => Q V.non H', rt := Q } [some (.ref d), some (.int (p : Int)), some (.int (g : Int)), some (.ref S), none] H3 := by
    intro S sm H3 K3 D3 hS hsm
    unfold t__law_maker_right_k2_b
    walk_at "z"
    refine ⟨by decide, fun R hR => ?_⟩
    have s4 : Same H3 (upd H3 R (.lst [])) := same_upd hR
    have hS4 := s4.seq hS
    rw [map_int] at hS4
    refine neD_ints (ms := []) hS4 (sqL_of upd_same) ?_
    walk_at "z"
    rcases hsm with rfl | ⟨r, rfl, hl⟩
    · rw [if_neg (by simp)]
      exact key1 S _ (K3.same s4) (D3.same s4)
    · rw [if_pos (by simp)]
      refine ixL hS4 (v := .int (g : Int)) (by simp [atI, ixN]) ?_
      walk_at "z"
      refine lenL hS4 ?_
      walk_at "z"
      refine ⟨p - 1, by rw [show (p : Int) - 1 = ((p - 1 : Nat) : Int) by omega], by omega, by omega, fun H5 s5 => ?_⟩
      walk_at "z"
      have hl2 : ((List.map V.int (List.map (fun x : Nat => (x : Int)) (g :: r))).length : Int) = (cuN (ppN (p - 1)) : Int) := by rw [List.length_map, List.length_map, hl]
      rw [if_neg (fun c => c hl2)]
      exact key1 S _ ((K3.same s4).same s5) ((D3.same s4).same s5)
  by_cases h200 : (p : Int) < 200
  · rw [if_pos h200]
    refine ⟨p, rfl, M.pr, M.lt, fun S H3 s3 hS => ?_⟩
    obtain ⟨r, e1, e2⟩ := M.all (by omega)
    exact key S _ H3 (K2.same s3) (D2.same s3) (sqL_of hS) (.inr ⟨r, e1, by rw [e1]; exact e2⟩)
  · rw [if_neg h200]
    refine ⟨by decide, fun S hS => ?_⟩
    exact key S [] _ (K2.same (same_upd hS)) (D2.same (same_upd hS)) (sqL_of upd_same) (.inl rfl)
theorem ok__law_maker_right {P : Program} {w : World} {K : PySem.W.Frag} {mg : Str → Option Value} {base : Heap} (T : Tx K mg) : Okk P w K mg base 5 "_law_maker_right" ["dice"] (sp__law_maker_right K) := by
  obtain ⟨fd_units_number, F_units_number, b_units_number, g_units_number, k_units_number⟩ := ok_units_number (P := P) (w := w) (base := base) T
  obtain ⟨fd_order_of, F_order_of, b_order_of, g_order_of, k_order_of⟩ := ok_order_of (P := P) (w := w) (base := base) T
  obtain ⟨fd_least_maker, F_least_maker, b_least_maker, g_least_maker, k_least_maker⟩ := ok_least_maker (P := P) (w := w) (base := base) T
  obtain ⟨fd__law_pick, F__law_pick, b__law_pick, g__law_pick, k__law_pick⟩ := ok__law_pick (P := P) (w := w) (base := base) T
  obtain ⟨fd__law_makers, F__law_makers, b__law_makers, g__law_makers, k__law_makers⟩ := ok__law_makers (P := P) (w := w) (base := base) T
  have hf_len := T.n_len
  have hf_range := T.n_range
  obtain ⟨fd, F⟩ := T.f__law_maker_right
  refine ⟨fd, F.ok sc__law_maker_right (fun vs H Q E h => len__law_maker_right h) (fun cdv A outer s H vs Q E hr h => ⟨t__law_maker_right K, PSs.nox ?_, pure__law_maker_right K vs H Q E h⟩), F.bindsN (fun _ _ _ _ _ _ us hl => match us, hl with | [_], _ => rfl), T.g__law_maker_right, F.kp⟩
  have hu64 := hu64_of hr
  exact (pss_cons (ps_set (i := 1) sc__law_maker_right.nd rfl (by first | exact Or.inl rfl | exact Or.inr rfl) (pe_call F__law_pick (hr.mono (by decide)) rfl g__law_pick k__law_pick b__law_pick .nil pass0 (pa_cons (pv 0) (pa_cons (pe_lst (pa_cons pe_int (pa_cons pe_int (pa_cons pe_int (pa_cons pe_int (pa_cons pe_int (pa_cons pe_int (pa_cons pe_int (pa_cons pe_int (pa_cons pe_int (pa_cons pe_int (pa_cons pe_int (pa_cons pe_int (pa_cons pe_int (pa_cons pe_int (pa_cons pe_int (pa_cons pe_int (pa_cons pe_int (pa_cons pe_int (pa_cons pe_int pa_nil)))))))))))))))))))) pa_nil))))
      (pss_cons (ps_set (i := 2) sc__law_maker_right.nd rfl (by first | exact Or.inl rfl | exact Or.inr rfl) (pe_call F_least_maker (hr.mono (by decide)) rfl g_least_maker k_least_maker b_least_maker .nil pass0 (pa_cons (pv 1) pa_nil)))
      (pss_cons (ps_set (i := 3) sc__law_maker_right.nd rfl (by first | exact Or.inl rfl | exact Or.inr rfl) (pe_ifExp (pt_cmpR op_lt (pv 1) pe_int (nomark _)) (pe_call F__law_makers (hr.mono (by decide)) rfl g__law_makers k__law_makers b__law_makers .nil pass0 (pa_cons (pv 1) pa_nil)) (pe_lst pa_nil)))
      (pss_cons (ps_if (PW.pt (pw_and (pt_cmpR (op_neD hu64) (pv 3) (pe_lst pa_nil) (nomark _)) (pw_and1 (PW.pt (pw_or (pt_cmpR op_ne (pv 2) (pe_ix ix_lt (pv 3) pe_int (fun _ _ => rfl)) (nomark _)) (pw_or1 (pt_cmpR op_ne (pe_callB call_len_seq (by rfl) hf_len (by decide +kernel) (pa_cons (pv 3) pa_nil)) (pe_call F_units_number (hr.mono (by decide)) rfl g_units_number k_units_number b_units_number .nil pass0 (pa_cons (pe_op op_sub (pv 1) pe_int) pa_nil)) (nomark _)))))))) (pss_one (ps_ret pe_bl)) pss_nil)
      (pss_one (ps_ret (pe_cmpR (op_eqD hu64) (pe_lc (own := [("one", 4)]) (g := (gName 4)) (tt := (tTest (tOp rEq (tCall (sp_order_of K) [] E0 (tCons (tVar 1) (tCons (tVar 4) tNil))) (tOp rSub (tVar 1) (tC (.int 1)))))) rfl sc__law_maker_right.nd (pi_range2 rfl hf_range (pa_cons pe_int (pa_cons (pe_op op_add (pv 2) pe_int) pa_nil))) (blkOk_by (own := [("one", 4)]) (N := ["dice", "prime", "told", "some", "one"]) (sc := defScope s__law_maker_right) (by decide +kernel)) (fun _ _ _ _ _ => (pg_name (i := 4) sc__law_maker_right.nd rfl (by first | exact Or.inl rfl | exact Or.inr rfl))) (fun _ _ _ _ _ => (pts_one (pt_cmpR op_eq (pe_call F_order_of (hr.mono (by decide)) rfl g_order_of k_order_of b_order_of .nil pass0 (pa_cons (pv 1) (pa_cons (pv 4) pa_nil))) (pe_op op_sub (pv 1) pe_int) (nomark _)))) (fun _ _ _ _ _ => (pv 4))) (pe_lst (pa_cons (pv 2) pa_nil)) (nomark _))))))))
/-! ### law -/
theorem sc_law : FnScope ["script", "spot", "dice", "told"] ["script"] (defScope s_law) := ⟨rfl, rfl, rfl, by decide +kernel, rfl, by decide +kernel, by decide +kernel⟩
def sp_law (K : PySem.W.Frag) : Sp := fun vs H Q _ => ∃ (a : Addr) (ns : List Int), vs = [.ref a] ∧ SqL K H a (ns.map V.int) ∧ ns.length ≤ 63 ∧ ∀ H', Q (.bl true) H'
theorem len_law {K : PySem.W.Frag} {vs : List V} {H : Hp} {Q : VK} {E : XK} (h : sp_law K vs H Q E) : vs.length = ["script"].length := by
  obtain ⟨_, _, rfl, _⟩ := h
  rfl
def t_law_f1_b (K : PySem.W.Frag) : TS := (tSeq (tAsg (tCall (sp__law_dice K) [] E0 (tCons (tVar 0) (tCons (tVar 1) tNil))) (gName 2))
  (tIfS (tOr (tNot (tB (tCall (sp__law_order_right K) [] E0 (tCons (tVar 2) tNil)))) (tOr (tNot (tB (tCall (sp__law_order_right K) [] E0 (tCons (tVar 2) tNil)))) (tNot (tB (tCall (sp__law_maker_right K) [] E0 (tCons (tVar 2) tNil)))))) (tRet (tC (.bl false))) tNext))
def t_law (K : PySem.W.Frag) : TS := (tSeq (tFor (iRng1 (tCons (tCB (rMax2) (tCons (tC (.int 1)) (tCons (tCB (rMin2) (tCons (tC (.int 3)) (tCons (tCB (rLenU K) (tCons (tVar 0) tNil)) tNil))) tNil))) tNil)) (gName 1) (t_law_f1_b K))
  (tSeq (tAsg (tLst (tCons (tCall (sp_order_of K) [] E0 (tCons (tC (.int 7)) (tCons (tC (.int 2)) tNil))) (tCons (tCall (sp_order_of K) [] E0 (tCons (tC (.int 1)) (tCons (tC (.int 0)) tNil))) (tCons (tCall (sp_order_of K) [] E0 (tCons (tC (.int 1)) (tCons (tUn rNeg (tC (.int 5))) tNil))) (tCons (tCall (sp_order_of K) [] E0 (tCons (tC (.int 2)) (tCons (tOp rAdd (tOp rPowU (tC (.int 10)) (tC (.int 59))) (tC (.int 1))) tNil))) (tCons (tCall (sp_least_maker K) [] E0 (tCons (tC (.int 7)) tNil)) (tCons (tCall (sp_least_maker K) [] E0 (tCons (tC (.int 2)) tNil)) (tCons (tCall (sp_least_maker K) [] E0 (tCons (tC (.int 191)) tNil)) tNil)))))))) (gName 3))
  (tSeq (tIfS (tTest (tOp (rNeD K) (tVar 3) (tLst (tCons (tC (.int 3)) (tCons (tC (.int 1)) (tCons (tC (.int 1)) (tCons (tC (.int 1)) (tCons (tC (.int 3)) (tCons (tC (.int 1)) (tCons (tC (.int 19)) tNil)))))))))) (tRet (tC (.bl false))) tNext)
  (tRet (tAndV (tOp rEq (tCall (sp_order_of K) [] E0 (tCons (tC (.int 99999989)) (tCons (tC (.int 99999988)) tNil))) (tC (.int 2))) (tAndV (tCall (sp_is_prime K) [] E0 (tCons (tC (.int 99999989)) tNil)) (tOp rEq (tCall (sp_order_of K) [] E0 (tCons (tC (.int 65537)) (tCons (tC (.int 3)) tNil))) (tC (.int 65536)))))))))
def ordB (m n : Int) (k : Nat) : Bool := (n ^ k % m == 1 % m) && !(k == 0) && (List.range k).all fun j => j == 0 || n ^ j % m != 1 % m
theorem ordB_ok {m n : Int} {k : Nat} (h : ordB m n k = true) : IsOrd m n k := by
  unfold ordB at h
  simp only [Bool.and_eq_true, beq_iff_eq, Bool.not_eq_true', beq_eq_false_iff_ne] at h
  obtain ⟨⟨a, b⟩, c⟩ := h
  refine ⟨by omega, a, fun j j1 j2 e => ?_⟩
  have c2 := List.all_eq_true.mp c j (List.mem_range.mpr j2)
  simp only [Bool.or_eq_true, beq_iff_eq, bne_iff_ne, ne_eq] at c2
  rcases c2 with c2 | c2
  · omega
  · exact c2 e
theorem good_prime {p : Nat} {ps : List (Nat × Nat)} (hp : PrimeN p) (g : Good ps p) : ps = [(p, 1)] := by
  have all : ∀ q ∈ ps, q.1 = p := fun q hq => by
    obtain ⟨r, e, _⟩ := g.exact hq
    obtain ⟨pq, eq⟩ := g.pr q hq
    refine pq.eq hp ⟨q.1 ^ (q.2 - 1) * r, ?_⟩
    conv => lhs; rw [e]
    obtain ⟨k, hk⟩ : ∃ k, q.2 = k + 1 := ⟨q.2 - 1, by omega⟩
    rw [hk, Nat.pow_succ, Nat.add_sub_cancel, ← Nat.mul_assoc, Nat.mul_comm q.1]
  have p2 := hp.1
  match ps, g, all with
  | [], g, _ =>
    have := g.prod
    simp [prodN] at this
    omega
  | [(a, e)], g, all =>
    have ha : a = p := all _ List.mem_cons_self
    subst ha
    have h := g.prod
    rw [prodN_cons] at h
    have he := (g.pr _ List.mem_cons_self).2
    have h' : a ^ e = a ^ 1 := by simpa [prodN] using h
    have : e = 1 := (Nat.pow_right_inj (show 1 < a by omega)).mp h'
    rw [this]
  | x :: y :: r, g, all =>
    have h1 := (List.pairwise_cons.mp g.asc).1 y List.mem_cons_self
    have h2 := all x List.mem_cons_self
    have h3 := all y (List.mem_cons_of_mem _ List.mem_cons_self)
    omega
theorem cu_prime {p : Nat} (hp : PrimeN p) : cuN (ppN p) = p - 1 := by
  rw [good_prime hp (ppN_good (by have := hp.1; omega))]
  simp [cuN]
def noDivB (n k : Nat) : Bool := (List.range k).all fun i => n % (i + 2) != 0
theorem prime_by {n k : Nat} (h1 : 1 < n) (h2 : n < (k + 2) * (k + 2)) (h : noDivB n k = true) : PrimeN n :=
  (prime_end h1 h2 fun j j1 j2 jd => by
    have c := List.all_eq_true.mp h (j - 2) (List.mem_range.mpr (by omega))
    rw [show j - 2 + 2 = j by omega, Nat.mod_eq_zero_of_dvd jd] at c
    simp at c).1
theorem big_prime : PrimeN 99999989 := prime_by (k := 9999) (by decide) (by decide) (by decide +kernel)
theorem fermat_prime : PrimeN 65537 := prime_by (k := 300) (by decide) (by decide) (by decide +kernel)
theorem pow2_dvd {k : Nat} (h : k ∣ 2 ^ 16) (h2 : ¬ k ∣ 2 ^ 15) : k = 65536 := by
  obtain ⟨z, e⟩ := h
  have z0 : z ≠ 0 := fun c => by rw [c] at e; simp at e
  by_cases z1 : z = 1
  · rw [z1] at e; simpa using e.symm
  · obtain ⟨p, hp, hd⟩ := prime_dvd z (by omega)
    have p2 : PrimeN 2 := ⟨Nat.le_refl 2, fun k a b => by omega⟩
    have : p ∣ 2 := hp.dvd_pow (e := 16) (Nat.dvd_trans hd ⟨k, by rw [e, Nat.mul_comm]⟩)
    obtain rfl := hp.eq p2 this
    obtain ⟨y, rfl⟩ := hd
    exact absurd ⟨y, by rw [Nat.mul_left_comm] at e; omega⟩ h2
theorem cast_pow_mod {a k m r : Nat} (h : a ^ k % m = r) : (a : Int) ^ k % (m : Int) = (r : Int) := by
  rw [← Int.natCast_pow, ← Int.natCast_emod, h]
theorem fermat_one : ((3 : Nat) : Int) ^ 65536 % ((65537 : Nat) : Int) = ((1 : Nat) : Int) := cast_pow_mod (by decide +kernel)
theorem fermat_half : ((3 : Nat) : Int) ^ 32768 % ((65537 : Nat) : Int) = ((65536 : Nat) : Int) := cast_pow_mod (by decide +kernel)
theorem fermat_ord : ∀ k, IsOrd ((65537 : Nat) : Int) 3 k → k = 65536 := fun k hk => by
  have h1 : k ∣ 65536 := hk.dvd.mp (by rw [show (3 : Int) = ((3 : Nat) : Int) from rfl, fermat_one]; rfl)
  refine pow2_dvd h1 fun h2 => ?_
  have h3 := hk.dvd.mpr (show k ∣ 32768 from h2)
  rw [show (3 : Int) = ((3 : Nat) : Int) from rfl, fermat_half] at h3
  exact absurd h3 (by decide)
theorem big_two : (99999988 : Int) ^ 2 % ((99999989 : Nat) : Int) = 1 % ((99999989 : Nat) : Int) := by decide
theorem pure_law (K : PySem.W.Frag) (vs : List V) (H : Hp) (Q : VK) (E : XK) (h : sp_law K vs H Q E) : t_law K { nx := fun _ H' => Q .non H', rt := Q } (start ["script", "spot", "dice", "told"] vs) H := by
  obtain ⟨a, ns, rfl, hS, hl, hq⟩ := h
  unfold t_law
  walk_at "z"
  refine lenL hS ?_
  walk_at "z"
  have hb : ∃ n : Nat, (if (if ((ns.map V.int).length : Int) < 3 then ((ns.map V.int).length : Int) else 3) > 1 then (if ((ns.map V.int).length : Int) < 3 then ((ns.map V.int).length : Int) else 3) else 1) = (n : Int) ∧ n ≤ 3 := by
    rw [List.length_map]
    refine ⟨(if (if (ns.length : Int) < 3 then (ns.length : Int) else 3) > 1 then (if (ns.length : Int) < 3 then (ns.length : Int) else 3) else 1).toNat, ?_, ?_⟩
    · split <;> split <;> omega
    · split <;> split <;> omega
  obtain ⟨n, hn, hn3⟩ := hb
  rw [hn]
  refine ⟨_, rfl, by omega, by omega, for_R (fun i σ H' => ∃ o1 o2 o3, σ = [some (.ref a), o1, o2, o3] ∧ Same H H') ⟨_, _, _, rfl, Same.refl H⟩ (fun i σ H' hi h N hN => ?_) (fun σ H' h => ?_)⟩
  · obtain ⟨o1, o2, o3, rfl, s1⟩ := h
    unfold t_law_f1_b
    walk_at "z"
    refine ⟨a, ns, i, by rw [Int.zero_add], s1.seq hS, fun D H2 hD s2 d2 => ?_⟩
    walk_at "z"
    refine ⟨D, rfl, d2, fun H3 k3 d3 => ?_⟩
    walk_at "z"
    refine ⟨D, rfl, d3, fun H4 k4 d4 => ?_⟩
    walk_at "z"
    refine ⟨D, rfl, d4, fun H5 k5 d5 => ?_⟩
    walk_at "z"
    exact hN _ _ ⟨_, _, _, rfl, s1.trans (((Keep.refl D H2).trans (k3.trans (k4.trans k5))).out s2 hD)⟩
  · obtain ⟨o1, o2, o3, rfl, s1⟩ := h
    walk_at "z"
    refine ⟨7, 2, rfl, by decide, by decide, by decide, by decide, by decide, euler_small (by decide) (by decide) (by decide), fun k H2 hk s2 => ?_⟩
    obtain rfl := hk.inj (ordB_ok (m := ((7 : Nat) : Int)) (n := 2) (k := 3) (by decide))
    walk_at "z"
    refine ⟨1, 0, rfl, by decide, by decide, by decide, by decide, by decide, euler_small (by decide) (by decide) (by decide), fun k H3 hk s3 => ?_⟩
    obtain rfl := hk.inj (ordB_ok (m := ((1 : Nat) : Int)) (n := 0) (k := 1) (by decide))
    walk_at "z"
    refine ⟨1, -5, rfl, by decide, by decide, by decide, by decide, by decide, euler_small (by decide) (by decide) (by decide), fun k H4 hk s4 => ?_⟩
    obtain rfl := hk.inj (ordB_ok (m := ((1 : Nat) : Int)) (n := -5) (k := 1) (by decide))
    walk_at "z"
    refine ⟨cpow (by decide), 2, _, rfl, by decide, by decide, by decide, by decide, by decide, euler_small (by decide) (by decide) (by decide), fun k H5 hk s5 => ?_⟩
    obtain rfl := hk.inj (ordB_ok (m := ((2 : Nat) : Int)) (k := 1) (by decide))
    walk_at "z"
    have M7 := menu_pair (p := 7) (g := 3) (by decide)
    have M2 := menu_pair (p := 2) (g := 1) (by decide)
    have M191 := menu_pair (p := 191) (g := 19) (by decide)
    refine ⟨7, 3, rfl, by decide, primeI_of M7.pr, M7.g1, M7.mko, M7.least, fun H6 s6 => ?_⟩
    walk_at "z"
    refine ⟨2, 1, rfl, by decide, primeI_of M2.pr, M2.g1, M2.mko, M2.least, fun H7 s7 => ?_⟩
    walk_at "z"
    refine ⟨191, 19, rfl, by decide, primeI_of M191.pr, M191.g1, M191.mko, M191.least, fun H8 s8 => ?_⟩
    walk_at "z"
    refine ⟨by decide, fun R hR => ⟨by decide, fun R2 hR2 => ?_⟩⟩
    refine neD_ints (ns := [3, 1, 1, 1, 3, 1, 19]) (ms := [3, 1, 1, 1, 3, 1, 19]) (sqL_of (same_upd hR2 _ _ upd_same)) (sqL_of upd_same) ?_
    walk_at "z"
    refine ⟨99999989, 99999988, rfl, by decide, by decide, by decide, by decide, by decide, ?_, fun k H9 hk s9 => ?_⟩
    · rw [cu_prime big_prime]
      exact pow_mul_one big_two 49999994
    obtain rfl := hk.inj (show IsOrd ((99999989 : Nat) : Int) 99999988 2 from ⟨by decide, big_two, fun j j1 j2 => by
      obtain rfl : j = 1 := by omega
      decide⟩)
    walk_at "z"
    refine ⟨99999989, rfl, by decide, by decide, fun b hb => ?_⟩
    walk_at "z"
    rw [hb.mpr (primeI_of big_prime)]
    walk_at "z"
    refine ⟨65537, 3, rfl, by decide, by decide, by decide, by decide, by decide, ?_, fun k H10 hk s10 => ?_⟩
    · rw [cu_prime fermat_prime]
      exact fermat_one
    obtain rfl := fermat_ord k hk
    walk_at "z"
    exact hq _

theorem okF_law {P : Program} {w : World} {K : PySem.W.Frag} {mg : Str → Option Value} {base : Heap} {fd : FuncData} (T : Tx K mg) (F : FunD K "law" "law" (defArgs s_law) (defBody s_law) (defScope s_law) [] [] (He.ga K "law") fd) : FnOk P w K mg base CX0 6 (He.ga K "law") fd ["script"] (sp_law K) := by
  obtain ⟨fd_is_prime, F_is_prime, b_is_prime, g_is_prime, k_is_prime⟩ := ok_is_prime (P := P) (w := w) (base := base) T
  obtain ⟨fd_order_of, F_order_of, b_order_of, g_order_of, k_order_of⟩ := ok_order_of (P := P) (w := w) (base := base) T
  obtain ⟨fd_least_maker, F_least_maker, b_least_maker, g_least_maker, k_least_maker⟩ := ok_least_maker (P := P) (w := w) (base := base) T
  obtain ⟨fd__law_dice, F__law_dice, b__law_dice, g__law_dice, k__law_dice⟩ := ok__law_dice (P := P) (w := w) (base := base) T
  obtain ⟨fd__law_order_right, F__law_order_right, b__law_order_right, g__law_order_right, k__law_order_right⟩ := ok__law_order_right (P := P) (w := w) (base := base) T
  obtain ⟨fd__law_maker_right, F__law_maker_right, b__law_maker_right, g__law_maker_right, k__law_maker_right⟩ := ok__law_maker_right (P := P) (w := w) (base := base) T
  have hf_len := T.n_len
  have hf_max := T.n_max
  have hf_min := T.n_min
  have hf_range := T.n_range
  refine F.ok sc_law (fun vs H Q E h => len_law h) (fun cdv A outer s H vs Q E hr h => ⟨t_law K, PSs.nox ?_, pure_law K vs H Q E h⟩)
  have hu64 := hu64_of hr
  exact (pss_cons (ps_for PassesOwn.never rfl (pi_range1 rfl hf_range (pa_cons (pe_callB (call_max2 rfl) (by rfl) hf_max (by decide +kernel) (pa_cons pe_int (pa_cons (pe_callB (call_min2 rfl) (by rfl) hf_min (by decide +kernel) (pa_cons pe_int (pa_cons (pe_callB call_len_seq (by rfl) hf_len (by decide +kernel) (pa_cons (pv 0) pa_nil)) pa_nil))) pa_nil))) pa_nil)) (pg_name (i := 1) sc_law.nd rfl (by first | exact Or.inl rfl | exact Or.inr rfl)) (pss_cons (ps_set (i := 2) sc_law.nd rfl (by first | exact Or.inl rfl | exact Or.inr rfl) (pe_call F__law_dice (hr.mono (by decide)) rfl g__law_dice k__law_dice b__law_dice .nil pass0 (pa_cons (pv 0) (pa_cons (pv 1) pa_nil))))
      (pss_one (ps_if (PW.pt (pw_or (pt_not (pt_val (pe_call F__law_order_right (hr.mono (by decide)) rfl g__law_order_right k__law_order_right b__law_order_right .nil pass0 (pa_cons (pv 2) pa_nil)))) (pw_or (pt_not (pt_val (pe_call F__law_order_right (hr.mono (by decide)) rfl g__law_order_right k__law_order_right b__law_order_right .nil pass0 (pa_cons (pv 2) pa_nil)))) (pw_or1 (pt_not (pt_val (pe_call F__law_maker_right (hr.mono (by decide)) rfl g__law_maker_right k__law_maker_right b__law_maker_right .nil pass0 (pa_cons (pv 2) pa_nil)))))))) (pss_one (ps_ret pe_bl)) pss_nil))))
      (pss_cons (ps_set (i := 3) sc_law.nd rfl (by first | exact Or.inl rfl | exact Or.inr rfl) (pe_lst (pa_cons (pe_call F_order_of (hr.mono (by decide)) rfl g_order_of k_order_of b_order_of .nil pass0 (pa_cons pe_int (pa_cons pe_int pa_nil))) (pa_cons (pe_call F_order_of (hr.mono (by decide)) rfl g_order_of k_order_of b_order_of .nil pass0 (pa_cons pe_int (pa_cons pe_int pa_nil))) (pa_cons (pe_call F_order_of (hr.mono (by decide)) rfl g_order_of k_order_of b_order_of .nil pass0 (pa_cons pe_int (pa_cons (pe_un un_neg pe_int) pa_nil))) (pa_cons (pe_call F_order_of (hr.mono (by decide)) rfl g_order_of k_order_of b_order_of .nil pass0 (pa_cons pe_int (pa_cons (pe_op op_add (pe_op op_pow pe_int pe_int) pe_int) pa_nil))) (pa_cons (pe_call F_least_maker (hr.mono (by decide)) rfl g_least_maker k_least_maker b_least_maker .nil pass0 (pa_cons pe_int pa_nil)) (pa_cons (pe_call F_least_maker (hr.mono (by decide)) rfl g_least_maker k_least_maker b_least_maker .nil pass0 (pa_cons pe_int pa_nil)) (pa_cons (pe_call F_least_maker (hr.mono (by decide)) rfl g_least_maker k_least_maker b_least_maker .nil pass0 (pa_cons pe_int pa_nil)) pa_nil)))))))))
      (pss_cons (ps_if (pt_cmpR (op_neD hu64) (pv 3) (pe_lst (pa_cons pe_int (pa_cons pe_int (pa_cons pe_int (pa_cons pe_int (pa_cons pe_int (pa_cons pe_int (pa_cons pe_int pa_nil)))))))) (nomark _)) (pss_one (ps_ret pe_bl)) pss_nil)
      (pss_one (ps_ret (pe_and (pe_cmpR op_eq (pe_call F_order_of (hr.mono (by decide)) rfl g_order_of k_order_of b_order_of .nil pass0 (pa_cons pe_int (pa_cons pe_int pa_nil))) pe_int (nomark _)) (pe_and (pe_call F_is_prime (hr.mono (by decide)) rfl g_is_prime k_is_prime b_is_prime .nil pass0 (pa_cons pe_int pa_nil)) (pe_one (pe_cmpR op_eq (pe_call F_order_of (hr.mono (by decide)) rfl g_order_of k_order_of b_order_of .nil pass0 (pa_cons pe_int (pa_cons pe_int pa_nil))) pe_int (nomark _))))))))))
/-! ### the head: facts by names, and what the imports bring -/
def bulOk (K : PySem.W.Frag) (bl : List (Str × String)) : Bool := bl.all fun q => decide (PySem.W.nsIn K mainGlobals q.1 = some (some (.builtin q.2)))
def obsB (bl : List (Str × String)) (fa : List He.Fa) (fn : List He.DefD) (K : PySem.W.Frag) : Bool × He.AlD := (bulOk K bl, He.obsD fa fn K)
def obsBG (n : Nat) (bl : List (Str × String)) (fa : List He.Fa) (fn : List He.DefD) (g : Addr → Option Obj) : Bool × He.AlD := obsB bl fa fn (He.frG g (He.asD g n))
def hookB (n : Nat) (bl : List (Str × String)) (fa : List He.Fa) (fn : List He.DefD) : PySem.W.Hook where
  α := Bool × He.AlD
  obs := fun s => obsBG n bl fa fn s.heap.get?
  val := fun _ => (true, He.valD fn)
  says := fun _ h => ∃ K : PySem.W.Frag, K.In h ∧ bulOk K bl = true ∧ He.SaysD fa fn K
  of := fun _ _ e => ⟨_, He.frG_in, congrArg (fun z : Bool × He.AlD => z.1) e, congrArg (fun z : Bool × He.AlD => z.2) e⟩
  keeps := fun _ _ _ ⟨K, hK, c⟩ k => ⟨K, PySem.W.Frag.In.keeps hK k, c⟩
theorem obsBG_eq {n : Nat} {bl : List (Str × String)} {fa : List He.Fa} {fn : List He.DefD} {g : Addr → Option Obj} {s : Shared} (h : ∀ a, g a = s.heap.get? a) : obsBG n bl fa fn g = (hookB n bl fa fn).obs s := by
  have e : g = s.heap.get? := funext h
  rw [e] <;> rfl
theorem bul_ok {K : PySem.W.Frag} {h : Heap} {mg : Str → Option Value} {bl : List (Str × String)} (X : K.In h) (G : h.Ns mainGlobals mg) (c : bulOk K bl = true) (i : Nat) {q : Str × String} (hi : bl[i]? = some q := by rfl) : mg q.1 = some (.builtin q.2) :=
  PySem.W.mg_of X G (of_decide_eq_true (List.all_eq_true.mp c q (List.mem_of_getElem? hi)))
def d_is_int : He.DefD := ⟨("is_int", none), "is_int", "is_int", defArgs s_is_int, defBody s_is_int, defScope s_is_int, [], []⟩
def d_has_no_parts : He.DefD := ⟨("has_no_parts", none), "has_no_parts", "has_no_parts", defArgs s_has_no_parts, defBody s_has_no_parts, defScope s_has_no_parts, [], []⟩
def d_power_modulo : He.DefD := ⟨("power_modulo", none), "power_modulo", "power_modulo", defArgs s_power_modulo, defBody s_power_modulo, defScope s_power_modulo, [], []⟩
def d_integer_power : He.DefD := ⟨("integer_power", none), "integer_power", "integer_power", defArgs s_integer_power, defBody s_integer_power, defScope s_integer_power, [], []⟩
def d_prime_powers : He.DefD := ⟨("prime_powers", none), "prime_powers", "prime_powers", defArgs s_prime_powers, defBody s_prime_powers, defScope s_prime_powers, [], []⟩
def d_is_below : He.DefD := ⟨("is_below", none), "is_below", "is_below", defArgs s_is_below, defBody s_is_below, defScope s_is_below, [], []⟩
def d_check_between : He.DefD := ⟨("check_between", none), "check_between", "check_between", defArgs s_check_between, defBody s_check_between, defScope s_check_between, [], []⟩
def d_least_maker_by : He.DefD := ⟨("least_maker_by", none), "least_maker_by", "least_maker_by", defArgs s_least_maker_by, defBody s_least_maker_by, defScope s_least_maker_by, [], []⟩
def d_count_units : He.DefD := ⟨("count_units", none), "count_units", "count_units", defArgs s_count_units, defBody s_count_units, defScope s_count_units, [], []⟩
def d_check_integer : He.DefD := ⟨("check_integer", none), "check_integer", "check_integer", defArgs s_check_integer, defBody s_check_integer, defScope s_check_integer, [], []⟩
def d_is_prime : He.DefD := ⟨("is_prime", none), "is_prime", "is_prime", defArgs s_is_prime, defBody s_is_prime, defScope s_is_prime, [], []⟩
def d_units_number : He.DefD := ⟨("units_number", none), "units_number", "units_number", defArgs s_units_number, defBody s_units_number, defScope s_units_number, [], []⟩
def d_least_maker : He.DefD := ⟨("least_maker", none), "least_maker", "least_maker", defArgs s_least_maker, defBody s_least_maker, defScope s_least_maker, [], []⟩
def d_order_of : He.DefD := ⟨("order_of", none), "order_of", "order_of", defArgs s_order_of, defBody s_order_of, defScope s_order_of, [], []⟩
def d__law_dice : He.DefD := ⟨("_law_dice", none), "_law_dice", "_law_dice", defArgs s__law_dice, defBody s__law_dice, defScope s__law_dice, [], []⟩
def d__law_roll : He.DefD := ⟨("_law_roll", none), "_law_roll", "_law_roll", defArgs s__law_roll, defBody s__law_roll, defScope s__law_roll, [], []⟩
def d__law_gcd : He.DefD := ⟨("_law_gcd", none), "_law_gcd", "_law_gcd", defArgs s__law_gcd, defBody s__law_gcd, defScope s__law_gcd, [], []⟩
def d__law_pr_times : He.DefD := ⟨("_law_pr_times", none), "_law_pr_times", "_law_pr_times", defArgs s__law_pr_times, defBody s__law_pr_times, defScope s__law_pr_times, [], []⟩
def d__law_order : He.DefD := ⟨("_law_order", none), "_law_order", "_law_order", defArgs s__law_order, defBody s__law_order, defScope s__law_order, [], []⟩
def d__law_pick : He.DefD := ⟨("_law_pick", none), "_law_pick", "_law_pick", defArgs s__law_pick, defBody s__law_pick, defScope s__law_pick, [], []⟩
def d__law_order_of_power : He.DefD := ⟨("_law_order_of_power", none), "_law_order_of_power", "_law_order_of_power", defArgs s__law_order_of_power, defBody s__law_order_of_power, defScope s__law_order_of_power, [], []⟩
def d__law_makers : He.DefD := ⟨("_law_makers", none), "_law_makers", "_law_makers", defArgs s__law_makers, defBody s__law_makers, defScope s__law_makers, [], []⟩
def d__law_order_right : He.DefD := ⟨("_law_order_right", none), "_law_order_right", "_law_order_right", defArgs s__law_order_right, defBody s__law_order_right, defScope s__law_order_right, [], []⟩
def d__law_maker_right : He.DefD := ⟨("_law_maker_right", none), "_law_maker_right", "_law_maker_right", defArgs s__law_maker_right, defBody s__law_maker_right, defScope s__law_maker_right, [], []⟩
def d_law : He.DefD := ⟨("law", none), "law", "law", defArgs s_law, defBody s_law, defScope s_law, [], []⟩
def fnl : List He.DefD := [d_is_int, d_has_no_parts, d_power_modulo, d_integer_power, d_prime_powers, d_is_below, d_check_between, d_least_maker_by, d_count_units, d_check_integer, d_is_prime, d_units_number, d_least_maker, d_order_of, d__law_dice, d__law_roll, d__law_gcd, d__law_pr_times, d__law_order, d__law_pick, d__law_order_of_power, d__law_makers, d__law_order_right, d__law_maker_right, d_law]
def fal : List He.Fa := [.glo "is_int", .glo "has_no_parts", .glo "power_modulo", .glo "integer_power", .glo "prime_powers", .glo "is_below", .glo "check_between", .glo "least_maker_by", .glo "count_units", .glo "check_integer", .glo "is_prime", .glo "units_number", .glo "least_maker", .glo "order_of", .glo "_law_dice", .glo "_law_roll", .glo "_law_gcd", .glo "_law_pr_times", .glo "_law_order", .glo "_law_pick", .glo "_law_order_of_power", .glo "_law_makers", .glo "_law_order_right", .glo "_law_maker_right", .glo "law", .int "SIXTY_DIGITS" 1000000000000000000000000000000000000000000000000000000000000, .int "MOST" 100000000, .free "abs", .free "bool", .free "int", .free "isinstance", .free "len", .free "max", .free "min", .free "range", .free "tuple"]
def bul : List (Str × String) := [("gcd", "math.gcd")]
def loose0 : List PySem.Str := ["PaperError", "InvalidOperation", "InvalidNumber", "is_int", "is_below", "has_no_parts", "power_modulo", "integer_power", "SIXTY_DIGITS", "check_integer", "check_between", "MOST", "is_prime", "prime_powers", "least_maker_by", "count_units", "units_number", "order_of", "least_maker", "_law_dice", "_law_roll", "_law_pick", "_law_gcd", "_law_pr_times", "_law_order", "_law_order_right", "_law_order_of_power", "_law_makers", "_law_maker_right"]
def looseL : List PySem.Str := loose0
abbrev RR : PySem.W.OpenRow := PySem.W.OpenLaw.row PySem.Challenge.rw_zeroorone_k06_whole_orders_and_makers
abbrev hk : PySem.W.Hook := hookB 5 bul fal fnl
def obz (s : PySem.W.SharedT) : Bool × He.AlD := obsBG 5 bul fal fnl (HandSHeadRun.getT s)
theorem obz_eq (s : PySem.W.SharedT) : obz s = hk.obs s.abs := obsBG_eq (HandSHeadRun.getT_eq s)
theorem run (w : World) : HandSHeadRun.RunEqI RR (PySem.W.view RR.prog [0, 35]) hk obz 4000 looseL w := by
  unfold HandSHeadRun.RunEqI
  kernel_rfl
theorem tx_of {K : PySem.W.Frag} {h : Heap} {mg : Str → Option Value} (X : K.In h) (G : h.Ns mainGlobals mg) (b : bulOk K bul = true) (c : He.SaysD fal fnl K) : Tx K mg where
  f_is_int := c.def_ 0 (d := d_is_int) rfl
  g_is_int := He.glo_ok X G (c.fact 0 (f := .glo "is_int") rfl)
  f_has_no_parts := c.def_ 1 (d := d_has_no_parts) rfl
  g_has_no_parts := He.glo_ok X G (c.fact 1 (f := .glo "has_no_parts") rfl)
  f_power_modulo := c.def_ 2 (d := d_power_modulo) rfl
  g_power_modulo := He.glo_ok X G (c.fact 2 (f := .glo "power_modulo") rfl)
  f_integer_power := c.def_ 3 (d := d_integer_power) rfl
  g_integer_power := He.glo_ok X G (c.fact 3 (f := .glo "integer_power") rfl)
  f_prime_powers := c.def_ 4 (d := d_prime_powers) rfl
  g_prime_powers := He.glo_ok X G (c.fact 4 (f := .glo "prime_powers") rfl)
  f_is_below := c.def_ 5 (d := d_is_below) rfl
  g_is_below := He.glo_ok X G (c.fact 5 (f := .glo "is_below") rfl)
  f_check_between := c.def_ 6 (d := d_check_between) rfl
  g_check_between := He.glo_ok X G (c.fact 6 (f := .glo "check_between") rfl)
  f_least_maker_by := c.def_ 7 (d := d_least_maker_by) rfl
  g_least_maker_by := He.glo_ok X G (c.fact 7 (f := .glo "least_maker_by") rfl)
  f_count_units := c.def_ 8 (d := d_count_units) rfl
  g_count_units := He.glo_ok X G (c.fact 8 (f := .glo "count_units") rfl)
  f_check_integer := c.def_ 9 (d := d_check_integer) rfl
  g_check_integer := He.glo_ok X G (c.fact 9 (f := .glo "check_integer") rfl)
  f_is_prime := c.def_ 10 (d := d_is_prime) rfl
  g_is_prime := He.glo_ok X G (c.fact 10 (f := .glo "is_prime") rfl)
  f_units_number := c.def_ 11 (d := d_units_number) rfl
  g_units_number := He.glo_ok X G (c.fact 11 (f := .glo "units_number") rfl)
  f_least_maker := c.def_ 12 (d := d_least_maker) rfl
  g_least_maker := He.glo_ok X G (c.fact 12 (f := .glo "least_maker") rfl)
  f_order_of := c.def_ 13 (d := d_order_of) rfl
  g_order_of := He.glo_ok X G (c.fact 13 (f := .glo "order_of") rfl)
  f__law_dice := c.def_ 14 (d := d__law_dice) rfl
  g__law_dice := He.glo_ok X G (c.fact 14 (f := .glo "_law_dice") rfl)
  f__law_roll := c.def_ 15 (d := d__law_roll) rfl
  g__law_roll := He.glo_ok X G (c.fact 15 (f := .glo "_law_roll") rfl)
  f__law_gcd := c.def_ 16 (d := d__law_gcd) rfl
  g__law_gcd := He.glo_ok X G (c.fact 16 (f := .glo "_law_gcd") rfl)
  f__law_pr_times := c.def_ 17 (d := d__law_pr_times) rfl
  g__law_pr_times := He.glo_ok X G (c.fact 17 (f := .glo "_law_pr_times") rfl)
  f__law_order := c.def_ 18 (d := d__law_order) rfl
  g__law_order := He.glo_ok X G (c.fact 18 (f := .glo "_law_order") rfl)
  f__law_pick := c.def_ 19 (d := d__law_pick) rfl
  g__law_pick := He.glo_ok X G (c.fact 19 (f := .glo "_law_pick") rfl)
  f__law_order_of_power := c.def_ 20 (d := d__law_order_of_power) rfl
  g__law_order_of_power := He.glo_ok X G (c.fact 20 (f := .glo "_law_order_of_power") rfl)
  f__law_makers := c.def_ 21 (d := d__law_makers) rfl
  g__law_makers := He.glo_ok X G (c.fact 21 (f := .glo "_law_makers") rfl)
  f__law_order_right := c.def_ 22 (d := d__law_order_right) rfl
  g__law_order_right := He.glo_ok X G (c.fact 22 (f := .glo "_law_order_right") rfl)
  f__law_maker_right := c.def_ 23 (d := d__law_maker_right) rfl
  g__law_maker_right := He.glo_ok X G (c.fact 23 (f := .glo "_law_maker_right") rfl)
  f_law := c.def_ 24 (d := d_law) rfl
  g_law := He.glo_ok X G (c.fact 24 (f := .glo "law") rfl)
  c_SIXTY_DIGITS := He.int_ok X G (c.fact 25 (f := .int "SIXTY_DIGITS" 1000000000000000000000000000000000000000000000000000000000000) rfl)
  c_MOST := He.int_ok X G (c.fact 26 (f := .int "MOST" 100000000) rfl)
  n_abs := He.free_ok X G (c.fact 27 (f := .free "abs") rfl)
  n_bool := He.free_ok X G (c.fact 28 (f := .free "bool") rfl)
  n_int := He.free_ok X G (c.fact 29 (f := .free "int") rfl)
  n_isinstance := He.free_ok X G (c.fact 30 (f := .free "isinstance") rfl)
  n_len := He.free_ok X G (c.fact 31 (f := .free "len") rfl)
  n_max := He.free_ok X G (c.fact 32 (f := .free "max") rfl)
  n_min := He.free_ok X G (c.fact 33 (f := .free "min") rfl)
  n_range := He.free_ok X G (c.fact 34 (f := .free "range") rfl)
  n_tuple := He.free_ok X G (c.fact 35 (f := .free "tuple") rfl)
  b_gcd := bul_ok X G b 0
end L2.Z
open PySem PySem.W PySem.Calls PyProof.Rows
theorem PySem.Challenge.cw_zeroorone_k06_whole_orders_and_makers_holds : PySem.Challenge.rw_zeroorone_k06_whole_orders_and_makers.Holds := by
  w_on; o_law
  refine HandSHeadRun.head_imp (r := (OpenLaw.row PySem.Challenge.rw_zeroorone_k06_whole_orders_and_makers)) (q := view (OpenLaw.row PySem.Challenge.rw_zeroorone_k06_whole_orders_and_makers).prog [0, 35]) (H := L2.Z.hk) (ob := L2.Z.obz) (loose := L2.Z.looseL) (d := HandSHeadRun.topDef (OpenLaw.row PySem.Challenge.rw_zeroorone_k06_whole_orders_and_makers).prog 35) (kwd := []) L2.Z.obz_eq
    L2.Z.run (by kernel_rfl) (by kernel_rfl) (by kernel_rfl) (by rfl) (by first | assumption | decide +kernel) (by decide +kernel) ⟨rfl, rfl, rfl, rfl, rfl, by decide +kernel⟩ ?hw ?hc
  case hw => w_witness2
  case hc =>
    refine L2.walk_ofE (l := PySem.Challenge.rw_zeroorone_k06_whole_orders_and_makers) (n := 63) (k := 6) (x := "script") (CX := L2.CX0) rfl (by decide) (by kernel_rfl) ⟨rfl, by decide, by decide⟩ ?F (fun _ _ _ _ z => z)
    intro w mg fa h Y G hmg0
    obtain ⟨K, KX, bb, cc⟩ := Y
    have T := L2.Z.tx_of KX G bb cc
    have hmg : mg ("law" : PySem.Str) = some (.ref fa) := by
      have e : (HandSHeadRun.topDef (OpenLaw.row PySem.Challenge.rw_zeroorone_k06_whole_orders_and_makers).prog 35).name = ("law" : PySem.Str) := by kernel_rfl
      rw [← e]
      exact hmg0
    have e := hmg.symm.trans T.g_law
    cases e
    obtain ⟨fd, F⟩ := T.f_law
    have hb := L2.FunD.bindsA (ps := ["script"]) F fun _ _ _ _ _ _ us hl => match us, hl with | [_], _ => rfl
    refine ⟨K, fd, L2.Z.sp_law K, KX, fun s v => hb s [v] rfl, fun H a ns hl _ hS => ⟨a, ns, rfl, hS, hl, fun _ => rfl⟩, fun base _ _ => L2.Z.okF_law T F⟩
