import PyProof.Rows.All
import Wide.All
import OpenK.AllK
import Wide.FinOn
import HandS.ForMost
import HandS.Wide
import HandS.Deep
import HandS.Zip
import HandS.IsInst
import HandS.Defaults
import HandS.More
import HandS.Style
import HandS.Evl
import HandS.TupAny
import HandS.MakeKwOnly
import HandS.RaiseMore
import HandS.Replace
import HandS.Walk
import HandS.ForExc
import HandS.ExcInit
import HandS.ExcField
import HandS.TupSets
import HandS.TupMul
import PyProof.MaxThree
import PySem.Challenge.RW_ownrail_k03_things_that_are_engines
set_option Elab.async false
set_option linter.all false
set_option maxRecDepth 100000
set_option maxHeartbeats 4000000
/-! what every proof here leans on: data made of tuples, which no store can change -/
namespace OR
open PySem PySem.Spec PyProof.Rows L2

theorem hu65 {A : Around} {k : Nat} (hr : Room k A) : A.units + 65 < cLine := by
  have := hr.un
  omega

/-! ### tuples stay -/
def Tk (H H' : Hp) : Prop := ∀ a xs, Rd H a (.tup xs) → Rd H' a (.tup xs)
theorem Tk.refl (H : Hp) : Tk H H := fun _ _ h => h
theorem Tk.trans {H H1 H2 : Hp} (a : Tk H H1) (b : Tk H1 H2) : Tk H H2 := fun x o h => b x o (a x o h)
theorem tk_same {H H' : Hp} (e : Same H H') : Tk H H' := fun a xs h => by
  rcases h with h | ⟨o, h⟩
  · exact .inl (e _ _ h)
  · exact .inr ⟨o, e _ _ h⟩
theorem tk_seq {K : PySem.W.Frag} {H H' : Hp} {a : Addr} {xs : List V} (e : Tk H H') (h : SqT K H a xs) : SqT K H' a xs := by
  rcases h with h | h
  · exact .inl (e _ _ h)
  · exact .inr h
theorem same_new {H : Hp} {p : Addr} {o : HO} (h : H p = none) : Same H (upd H p o) := fun b x e => by
  rw [upd_ne (ne_of_none e h)]
  exact e
theorem tk_new {H : Hp} {p : Addr} {o : HO} (h : H p = none) : Tk H (upd H p o) := tk_same (same_new h)
/-- all but the object at b is as it was -/
def But (b : Addr) (H H' : Hp) : Prop := ∀ a o, a ≠ b → H a = some o → H' a = some o
theorem But.refl (b : Addr) (H : Hp) : But b H H := fun _ _ _ h => h
theorem But.trans {b : Addr} {H H1 H2 : Hp} (x : But b H H1) (y : But b H1 H2) : But b H H2 := fun a o n h => y a o n (x a o n h)
theorem but_same {b : Addr} {H H' : Hp} (e : Same H H') : But b H H' := fun a o _ h => e a o h
theorem but_set {b : Addr} {H : Hp} {o : HO} : But b H (upd H b o) := fun a u n h => by
  rw [upd_ne n]
  exact h
theorem tk_set {H : Hp} {b : Addr} {xs : List V} {o : HO} (hb : H b = some (.lst xs)) : Tk H (upd H b o) := fun a ys h => by
  have n : a ≠ b := fun z => by
    subst z
    rcases h with h | ⟨u, h⟩
    · rw [hb] at h
      cases h
    · rw [hb] at h
      cases h
  rcases h with h | ⟨u, h⟩
  · exact .inl (by rw [upd_ne n]; exact h)
  · exact .inr ⟨u, by rw [upd_ne n]; exact h⟩
theorem tk_but {H H' : Hp} {b : Addr} {xs : List V} (hb : H b = some (.lst xs)) (e : But b H H') : Tk H H' := fun a ys h => by
  have n : a ≠ b := fun z => by
    subst z
    rcases h with h | ⟨u, h⟩
    · rw [hb] at h
      cases h
    · rw [hb] at h
      cases h
  rcases h with h | ⟨u, h⟩
  · exact .inl (e _ _ n h)
  · exact .inr ⟨u, e _ _ n h⟩

/-! ### data of tuples, ints, texts, truths, None -/
mutual
inductive DT (K : PySem.W.Frag) (H : Hp) : V → PyData → Prop
  | non : DT K H .non .none
  | bl (b : Bool) : DT K H (.bl b) (.bool b)
  | int (i : Int) : DT K H (.int i) (.int i)
  | str (x : Str) : DT K H (.str x) (.str x)
  | tup {a : Addr} {xs : List V} {ds : List PyData} : SqT K H a xs → DTs K H xs ds → DT K H (.ref a) (.tuple ds)
inductive DTs (K : PySem.W.Frag) (H : Hp) : List V → List PyData → Prop
  | nil : DTs K H [] []
  | cons {v : V} {vs : List V} {d : PyData} {ds : List PyData} : DT K H v d → DTs K H vs ds → DTs K H (v :: vs) (d :: ds)
end
section
variable {K : PySem.W.Frag} {H H' : Hp}
mutual
theorem DT.mono (e : Tk H H') : ∀ (d : PyData) (v : V), DT K H v d → DT K H' v d
  | .none, _, h => by cases h; exact .non
  | .bool b, _, h => by cases h; exact .bl b
  | .int i, _, h => by cases h; exact .int i
  | .str x, _, h => by cases h; exact .str x
  | .tuple ds, _, h => by
    cases h with
    | tup hs ha => exact .tup (tk_seq e hs) (DTs.mono e ds _ ha)
  | .list _, _, h => by cases h
  | .dict _, _, h => by cases h
theorem DTs.mono (e : Tk H H') : ∀ (ds : List PyData) (vs : List V), DTs K H vs ds → DTs K H' vs ds
  | [], _, h => by cases h; exact .nil
  | d :: ds, _, h => by
    cases h with
    | cons h1 h2 => exact .cons (DT.mono e d _ h1) (DTs.mono e ds _ h2)
end
mutual
theorem DT.dp : ∀ (d : PyData) (v : V), DT K H v d → Dp K H v d
  | .none, _, h => by cases h; exact .non
  | .bool b, _, h => by cases h; exact .bl b
  | .int i, _, h => by cases h; exact .int i
  | .str x, _, h => by cases h; exact .str x
  | .tuple ds, _, h => by
    cases h with
    | tup hs ha => exact .tup hs (DTs.dp ds _ ha)
  | .list _, _, h => by cases h
  | .dict _, _, h => by cases h
theorem DTs.dp : ∀ (ds : List PyData) (vs : List V), DTs K H vs ds → DpAll K H vs ds
  | [], _, h => by cases h; exact .nil
  | d :: ds, _, h => by
    cases h with
    | cons h1 h2 => exact .cons (DT.dp d _ h1) (DTs.dp ds _ h2)
end
theorem DT.up {v : V} {d : PyData} (h : DT K H v d) (e : Tk H H') : DT K H' v d := DT.mono e d v h
theorem DTs.up {vs : List V} {ds : List PyData} (h : DTs K H vs ds) (e : Tk H H') : DTs K H' vs ds := DTs.mono e ds vs h
theorem DTs.length {vs : List V} : ∀ {ds : List PyData}, DTs K H vs ds → vs.length = ds.length := by
  induction vs with
  | nil => intro ds h; cases h; rfl
  | cons v vs ih =>
    intro ds h
    cases h with
    | cons h1 h2 => rw [List.length_cons, List.length_cons, ih h2]
theorem DTs.get {vs : List V} : ∀ {ds : List PyData} {i : Nat} {d : PyData}, DTs K H vs ds → ds[i]? = some d → ∃ v, vs[i]? = some v ∧ DT K H v d := by
  induction vs with
  | nil => intro ds i d h e; cases h; simp at e
  | cons v vs ih =>
    intro ds i d h e
    cases h with
    | cons h1 h2 =>
      cases i with
      | zero => simp at e; subst e; exact ⟨v, rfl, h1⟩
      | succ i =>
        obtain ⟨u, q1, q2⟩ := ih h2 (i := i) (d := d) (by simpa using e)
        exact ⟨u, by simpa using q1, q2⟩
theorem DTs.getV {vs : List V} : ∀ {ds : List PyData} {i : Nat} {v : V}, DTs K H vs ds → vs[i]? = some v → ∃ d, ds[i]? = some d ∧ DT K H v d := by
  induction vs with
  | nil => intro ds i d h e; simp at e
  | cons u vs ih =>
    intro ds i d h e
    cases h with
    | cons h1 h2 =>
      cases i with
      | zero => simp at e; subst e; exact ⟨_, rfl, h1⟩
      | succ i =>
        obtain ⟨u, q1, q2⟩ := ih h2 (i := i) (v := d) (by simpa using e)
        exact ⟨u, by simpa using q1, q2⟩
theorem DTs.append {vs ws : List V} {ds es : List PyData} (h : DTs K H vs ds) (h2 : DTs K H ws es) : DTs K H (vs ++ ws) (ds ++ es) := by
  induction vs generalizing ds with
  | nil => cases h; exact h2
  | cons v vs ih =>
    cases h with
    | cons a b => exact .cons a (ih b)
theorem DTs.take {vs : List V} {ds : List PyData} (n : Nat) (h : DTs K H vs ds) : DTs K H (vs.take n) (ds.take n) := by
  induction vs generalizing ds n with
  | nil => cases h; rw [List.take_nil, List.take_nil]; exact .nil
  | cons v vs ih =>
    cases h with
    | cons a b =>
      cases n with
      | zero => exact .nil
      | succ n => exact .cons a (ih n b)
theorem DTs.drop {vs : List V} {ds : List PyData} (n : Nat) (h : DTs K H vs ds) : DTs K H (vs.drop n) (ds.drop n) := by
  induction vs generalizing ds n with
  | nil => cases h; rw [List.drop_nil, List.drop_nil]; exact .nil
  | cons v vs ih =>
    cases h with
    | cons a b =>
      cases n with
      | zero => exact .cons a b
      | succ n => exact ih n b
theorem DT.tupOf {v : V} {ds : List PyData} (h : DT K H v (.tuple ds)) : ∃ a xs, v = .ref a ∧ SqT K H a xs ∧ DTs K H xs ds := by
  cases h with
  | tup hs ha => exact ⟨_, _, rfl, hs, ha⟩
theorem DT.intOf {v : V} {i : Int} (h : DT K H v (.int i)) : v = .int i := by cases h; rfl
theorem DT.strOf {v : V} {i : Str} (h : DT K H v (.str i)) : v = .str i := by cases h; rfl
theorem DT.blOf {v : V} {i : Bool} (h : DT K H v (.bool i)) : v = .bl i := by cases h; rfl
theorem DTs.one {vs : List V} {d : PyData} (h : DTs K H vs [d]) : ∃ v, vs = [v] ∧ DT K H v d := by
  cases h with
  | cons a b => cases b; exact ⟨_, rfl, a⟩
theorem DTs.two {vs : List V} {d e : PyData} (h : DTs K H vs [d, e]) : ∃ v u, vs = [v, u] ∧ DT K H v d ∧ DT K H u e := by
  cases h with
  | cons a b =>
    obtain ⟨u, rfl, q⟩ := b.one
    exact ⟨_, u, rfl, a, q⟩
theorem DTs.five {vs : List V} {a b c d e : PyData} (h : DTs K H vs [a, b, c, d, e]) : ∃ v1 v2 v3 v4 v5, vs = [v1, v2, v3, v4, v5] ∧ DT K H v1 a ∧ DT K H v2 b ∧ DT K H v3 c ∧ DT K H v4 d ∧ DT K H v5 e := by
  cases h with
  | cons h1 h => cases h with
    | cons h2 h => cases h with
      | cons h3 h =>
        obtain ⟨v4, v5, rfl, h4, h5⟩ := h.two
        exact ⟨_, _, _, _, _, rfl, h1, h2, h3, h4, h5⟩
theorem DT.new {p : Addr} {xs : List V} {ds : List PyData} (h : DTs K H xs ds) (n : H p = none) : DT K (upd H p (.tup xs)) (.ref p) (.tuple ds) := .tup (SqT.of upd_same) (h.up (tk_new n))
end

/-! ### squares, rails, engines -/
inductive Sh where
  | l | s | r
  deriving DecidableEq
def Sh.str : Sh → Str
  | .l => "l"
  | .s => "s"
  | .r => "r"
def Sh.t : Sh → Int
  | .l => -1
  | .s => 0
  | .r => 1
def sq (p : Int × Int) : PyData := .tuple [.int p.1, .int p.2]
def rail (r : Sh × Int) : PyData := .tuple [.str r.1.str, .int r.2]
def eng (x y way look : Int) (rs : List (Sh × Int)) : PyData := .tuple [.int x, .int y, .int way, .int look, .tuple (rs.map rail)]
def tn (w : Int) (s : Sh) : Int := (w + s.t) % 4
def tb (w : Int) (s : Sh) : Int := (w - s.t) % 4
def dx (w : Int) : Int := if w = 1 then 1 else if w = 3 then -1 else 0
def dy (w : Int) : Int := if w = 0 then 1 else if w = 2 then -1 else 0
def on (p : Int × Int) (w : Int) : Int × Int := (p.1 + dx w, p.2 + dy w)
theorem tn_lo (w : Int) (s : Sh) : 0 ≤ tn w s := Int.emod_nonneg _ (by decide)
theorem tn_hi (w : Int) (s : Sh) : tn w s ≤ 3 := by
  have h : (w + s.t) % 4 < 4 := Int.emod_lt_of_pos _ (by decide)
  unfold tn
  omega
theorem tb_lo (w : Int) (s : Sh) : 0 ≤ tb w s := Int.emod_nonneg _ (by decide)
theorem tb_hi (w : Int) (s : Sh) : tb w s ≤ 3 := by
  have h : (w - s.t) % 4 < 4 := Int.emod_lt_of_pos _ (by decide)
  unfold tb
  omega
theorem way4 {w : Int} (h0 : 0 ≤ w) (h3 : w ≤ 3) : w = 0 ∨ w = 1 ∨ w = 2 ∨ w = 3 := by omega

/-! ### a law's box -/
def Box (H : Hp) (b : Addr) : Prop := ∃ i s c : Int, H b = some (.lst [.int i, .int s, .int c])
def spTake : Sp := fun vs H Q _ => ∃ (b : Addr) (m : Int), vs = [.ref b, .int m] ∧ Box H b ∧ 0 < m ∧ m < 2 ^ 64 ∧ ∀ r H', 0 ≤ r → r < m → But b H H' → Box H' b → Q (.int r) H'
def spBox (K : PySem.W.Frag) : Sp := fun vs H Q _ => ∃ (a : Addr) (ns : List Int) (k : Int), vs = [.ref a, .int k] ∧ SqL K H a (ns.map V.int) ∧ 0 ≤ k ∧ k < 2 ^ 60 ∧ ∀ b H', H b = none → Same H H' → Box H' b → Q (.ref b) H'
theorem mod_in {a m : Int} (h : 0 < m) : 0 ≤ a % m ∧ a % m < m := ⟨Int.emod_nonneg _ (by omega), Int.emod_lt_of_pos _ h⟩
theorem div_ok {i m : Int} (h : 0 < m) (h2 : m < 2 ^ 64) : CDivW i m := wide_div (b := 64) h (by omega) (by decide) (by decide)
theorem But.up {b : Addr} {H H' : Hp} {v : V} {d : PyData} {K : PySem.W.Frag} (e : But b H H') (hb : Box H b) (h : DT K H v d) : DT K H' v d := by
  obtain ⟨i, s, c, hb⟩ := hb
  exact h.up (tk_but hb e)
theorem atI_ints {ns : List Int} {k : Int} (h0 : 0 ≤ k) (h : k < (ns.length : Int)) : ∃ z, atI (ns.map V.int) k = some (.int z) := by
  obtain ⟨j, rfl⟩ := Int.eq_ofNat_of_zero_le h0
  have hj : j < ns.length := by omega
  exact ⟨ns[j], atI_nat (by rw [List.getElem?_map, List.getElem?_eq_getElem hj]; rfl)⟩

/-! ### == of squares -/
theorem eqv_sq (p q : Int × Int) : PyData.eqv (sq p) (sq q) = decide (p = q) := by
  obtain ⟨a, b⟩ := p
  obtain ⟨c, d⟩ := q
  simp only [sq, PyData.eqv, PyData.eqvAll, Bool.and_true]
  by_cases h : (a, b) = (c, d)
  · cases h
    simp
  · rw [decide_eq_false h]
    rw [Bool.and_eq_false_iff]
    by_cases h1 : a = c
    · right
      subst h1
      have : b ≠ d := fun z => h (by rw [z])
      simpa using this
    · left
      simpa using h1
theorem any_sq (p : Int × Int) : ∀ qs : List (Int × Int), ((qs.map sq).any fun z => PyData.eqv z (sq p)) = decide (p ∈ qs)
  | [] => by simp
  | q :: qs => by
    rw [List.map_cons, List.any_cons, any_sq p qs, eqv_sq]
    by_cases h : q = p
    · subst h
      simp
    · have h' : ¬ p = q := fun z => h z.symm
      simp [h, h']
theorem lay_sq (p : Int × Int) : (sq p).canLay0 = true := rfl
theorem lay_sqs : ∀ qs : List (Int × Int), PyData.canLayAll0 (qs.map sq) = true
  | [] => rfl
  | q :: qs => by
    rw [List.map_cons, PyData.canLayAll0, lay_sq, lay_sqs qs]
    rfl
theorem dep_sqs : ∀ qs : List (Int × Int), PyData.depthAll (qs.map sq) ≤ 3
  | [] => by simp [PyData.depthAll]
  | q :: qs => by
    have h := dep_sqs qs
    rw [List.map_cons, PyData.depthAll]
    have h2 : (sq q).depth ≤ 3 := by simp [sq, PyData.depth, PyData.depthAll]
    omega
theorem shaped_sq (p : Int × Int) : SeqAt.shaped (sq p) = true := by
  obtain ⟨a, b⟩ := p
  simp [SeqAt.shaped, sq, PyData.canLay0, PyData.canLayAll0, PyData.depth, PyData.depthAll]
theorem shaped_sqs (qs : List (Int × Int)) : SeqAt.shaped (.list (qs.map sq)) = true := by
  have h := dep_sqs qs
  have h2 := lay_sqs qs
  unfold SeqAt.shaped
  rw [PyData.canLay0, h2, PyData.depth, decide_eq_true (by omega)]
  rfl

/-! ### the road walked -/
def wst (x y w : Int) (rs : List (Sh × Int)) : List (Int × Int) × Int := rs.foldl (fun a r => (a.1 ++ [on (a.1.getLastD (0, 0)) (tn a.2 r.1)], tn a.2 r.1)) ([(x, y)], w)
theorem wst_snoc (x y w : Int) (rs : List (Sh × Int)) (r : Sh × Int) : wst x y w (rs ++ [r]) = ((wst x y w rs).1 ++ [on ((wst x y w rs).1.getLastD (0, 0)) (tn (wst x y w rs).2 r.1)], tn (wst x y w rs).2 r.1) := by
  unfold wst
  rw [List.foldl_append]
  rfl
theorem getLastD_snoc {α : Type} (l : List α) (a d : α) : (l ++ [a]).getLastD d = a := by
  rw [List.getLastD_eq_getLast?, List.getLast?_concat]
  rfl
/-- an engine as a law draws it -/
structure Drawn (x y w look : Int) (rs : List (Sh × Int)) : Prop where
  w0 : 0 ≤ w
  w3 : w ≤ 3
  lk : look = 1 ∨ look = -1
  ne : rs ≠ []
  ln : rs.length ≤ 12
  col : ∀ r ∈ rs, 0 ≤ r.2 ∧ r.2 ≤ 9
  nd : ((wst x y w rs).1.dropLast).Nodup
def spTurn : Sp := fun vs H Q _ => ∃ (w : Int) (s : Sh), vs = [.int w, .str s.str] ∧ ∀ H', Same H H' → Q (.int (tn w s)) H'
def spOn (K : PySem.W.Frag) : Sp := fun vs H Q _ => ∃ (v : V) (p : Int × Int) (w : Int), vs = [v, .int w] ∧ DT K H v (sq p) ∧ 0 ≤ w ∧ w ≤ 3 ∧ ∀ v' H', Same H H' → DT K H' v' (sq (on p w)) → Q v' H'
def spEngine (K : PySem.W.Frag) : Sp := fun vs H Q _ => ∃ (b : Addr) (m far : Int), vs = [.ref b, .int m, .int far] ∧ Box H b ∧ 0 < m ∧ m ≤ 12 ∧ 0 ≤ far ∧ far ≤ 1000000000 ∧
  ∀ v H' x y w look rs, Drawn x y w look rs → -far ≤ x → x ≤ far → -far ≤ y → y ≤ far → (rs.length : Int) ≤ m → But b H H' → Box H' b → DT K H' v (eng x y w look rs) → Q v H'
def t3 : Sh → Int
  | .l => 3
  | .s => 0
  | .r => 1
theorem t3_tn (w : Int) (s : Sh) : (w + t3 s) % 4 = tn w s := by
  cases s <;> simp only [t3, tn, Sh.t] <;> omega
def shOf (k : Int) : Sh := if k = 0 then .l else if k = 2 then .r else .s
theorem pick4 {r : Int} (h0 : 0 ≤ r) (h1 : r < 4) : ∃ c, atI ("lsrs" : Str).cps.toList r = some c ∧ (⟨#[c]⟩ : Str) = (shOf r).str := by
  have h : r = 0 ∨ r = 1 ∨ r = 2 ∨ r = 3 := by omega
  rcases h with rfl | rfl | rfl | rfl
  · exact ⟨108, by decide +kernel, by decide +kernel⟩
  · exact ⟨115, by decide +kernel, by decide +kernel⟩
  · exact ⟨114, by decide +kernel, by decide +kernel⟩
  · exact ⟨115, by decide +kernel, by decide +kernel⟩
structure EngInv (K : PySem.W.Frag) (b p1 p2 : Addr) (H H' : Hp) (x y w : Int) (i : Nat) (rs : List (Sh × Int)) (qs : List (Int × Int)) (here : Int × Int) (ahead : Int) (vh : V) (xs ys : List V) : Prop where
  dh : DT K H' vh (sq here)
  h1 : H' p1 = some (.lst xs)
  d1 : DTs K H' xs (rs.map rail)
  h2 : H' p2 = some (.lst ys)
  d2 : DTs K H' ys (qs.map sq)
  bx : Box H' b
  bt : But b H H'
  ln : rs.length ≤ i
  ne : 1 ≤ i → rs ≠ []
  z : i = 0 → qs = []
  ws : wst x y w rs = (qs ++ [here], ahead)
  nd : qs.Nodup
  col : ∀ r ∈ rs, 0 ≤ r.2 ∧ r.2 ≤ 9
  lq : qs.length = rs.length
theorem EngInv.but {K : PySem.W.Frag} {b p1 p2 : Addr} {H H' H2 : Hp} {x y w : Int} {i : Nat} {rs : List (Sh × Int)} {qs : List (Int × Int)} {here : Int × Int} {ahead : Int} {vh : V} {xs ys : List V}
    (I : EngInv K b p1 p2 H H' x y w i rs qs here ahead vh xs ys) (e : But b H' H2) (hb : Box H2 b) (n1 : p1 ≠ b) (n2 : p2 ≠ b) : EngInv K b p1 p2 H H2 x y w i rs qs here ahead vh xs ys := by
  obtain ⟨_, _, _, h0⟩ := I.bx
  have t := tk_but h0 e
  exact ⟨I.dh.up t, e _ _ n1 I.h1, I.d1.up t, e _ _ n2 I.h2, I.d2.up t, hb, I.bt.trans e, I.ln, I.ne, I.z, I.ws, I.nd, I.col, I.lq⟩
theorem EngInv.skip {K : PySem.W.Frag} {b p1 p2 : Addr} {H H' : Hp} {x y w : Int} {i : Nat} {rs : List (Sh × Int)} {qs : List (Int × Int)} {here : Int × Int} {ahead : Int} {vh : V} {xs ys : List V}
    (I : EngInv K b p1 p2 H H' x y w i rs qs here ahead vh xs ys) (hm : here ∈ qs) : EngInv K b p1 p2 H H' x y w (i + 1) rs qs here ahead vh xs ys := by
  refine ⟨I.dh, I.h1, I.d1, I.h2, I.d2, I.bx, I.bt, Nat.le_succ_of_le I.ln, fun _ => ?_, fun z => by omega, I.ws, I.nd, I.col, I.lq⟩
  by_cases h : i = 0
  · rw [I.z h] at hm
    cases hm
  · exact I.ne (by omega)
theorem EngInv.go {K : PySem.W.Frag} {b p1 p2 t : Addr} {H H' H2 : Hp} {x y w c : Int} {sh : Sh} {i : Nat} {rs : List (Sh × Int)} {qs : List (Int × Int)} {here : Int × Int} {ahead : Int} {vh v2 : V} {xs ys : List V}
    (I : EngInv K b p1 p2 H H' x y w i rs qs here ahead vh xs ys) (hm : ¬ here ∈ qs) (nt : H' t = none) (n1 : p1 ≠ b) (n2 : p2 ≠ b) (n21 : p2 ≠ p1) (f1 : H p1 = none) (f2 : H p2 = none) (c0 : 0 ≤ c) (c9 : c ≤ 9)
    (e : Same (upd (upd (upd H' t (.tup [.str sh.str, .int c])) p1 (.lst (xs ++ [.ref t]))) p2 (.lst (ys ++ [vh]))) H2) (d2 : DT K H2 v2 (sq (on here (tn ahead sh)))) :
    EngInv K b p1 p2 H H2 x y w (i + 1) (rs ++ [(sh, c)]) (qs ++ [here]) (on here (tn ahead sh)) (tn ahead sh) v2 (xs ++ [.ref t]) (ys ++ [vh]) := by
  have t1 : p1 ≠ t := ne_of_none I.h1 nt
  have t2 : p2 ≠ t := ne_of_none I.h2 nt
  have k1 : Tk H' (upd H' t (.tup [.str sh.str, .int c])) := tk_new nt
  have k2 : Tk (upd H' t (.tup [.str sh.str, .int c])) (upd (upd H' t (.tup [.str sh.str, .int c])) p1 (.lst (xs ++ [.ref t]))) := tk_set (by rw [upd_ne t1]; exact I.h1)
  have k3 : Tk (upd (upd H' t (.tup [.str sh.str, .int c])) p1 (.lst (xs ++ [.ref t]))) (upd (upd (upd H' t (.tup [.str sh.str, .int c])) p1 (.lst (xs ++ [.ref t]))) p2 (.lst (ys ++ [vh]))) := tk_set (by rw [upd_ne n21, upd_ne t2]; exact I.h2)
  have k := (k2.trans k3).trans (tk_same e)
  have kk := k1.trans k
  refine ⟨d2, e _ _ (by rw [upd_ne n21.symm, upd_same]), ?_, e _ _ upd_same, ?_, ?_, ?_, ?_, fun _ => by simp, fun z => by omega, ?_, nd_snoc I.nd hm, ?_, ?_⟩
  · rw [List.map_append]
    exact (I.d1.up kk).append (.cons ((DT.new (K := K) (.cons (.str _) (.cons (.int c) .nil)) nt).up k) .nil)
  · rw [List.map_append]
    exact (I.d2.up kk).append (.cons (I.dh.up kk) .nil)
  · obtain ⟨a1, a2, a3, h0⟩ := I.bx
    have bt : b ≠ t := ne_of_none h0 nt
    exact ⟨a1, a2, a3, e _ _ (by rw [upd_ne n2.symm, upd_ne n1.symm, upd_ne bt]; exact h0)⟩
  · intro a o n h
    have h' := I.bt a o n h
    refine e _ _ ?_
    rw [upd_ne (ne_of_none h f2), upd_ne (ne_of_none h f1), upd_ne (ne_of_none h' nt)]
    exact h'
  · rw [List.length_append]
    exact Nat.succ_le_succ I.ln
  · rw [wst_snoc, I.ws]
    dsimp only
    rw [getLastD_snoc]
  · intro r hr
    rcases List.mem_append.mp hr with h | h
    · exact I.col r h
    · cases List.mem_singleton.mp h
      exact ⟨c0, c9⟩
  · rw [List.length_append, List.length_append, I.lq]
    rfl
/-! ### tuples cut, put together, read -/
def cutD (xs : List PyData) (lo hi : Option Int) : List PyData := (xs.drop (HT.sIx xs.length 0 lo)).take (HT.sIx xs.length xs.length hi - HT.sIx xs.length 0 lo)
theorem DTs.cut {K : PySem.W.Frag} {H : Hp} {vs : List V} {ds : List PyData} (lo hi : Option Int) (h : DTs K H vs ds) : DTs K H (cutV vs lo hi) (cutD ds lo hi) := by
  unfold cutV cutD
  rw [h.length]
  exact (h.drop _).take _
theorem r_slA {K : PySem.W.Frag} {H : Hp} {v : V} {ds : List PyData} {lo hi : Option Int} {Q : VK} (h : DT K H v (.tuple ds)) (q : ∀ v' H', Same H H' → DT K H' v' (.tuple (cutD ds lo hi)) → Q v' H') : rSlA K v lo hi H Q := by
  obtain ⟨a, xs, rfl, hs, hx⟩ := h.tupOf
  refine ⟨a, xs, rfl, hs, fun e => ?_, fun _ p np => q _ _ (same_new np) (DT.new (hx.cut lo hi) np)⟩
  have e2 : cutD ds lo hi = ds := by
    unfold cutD
    rw [hx.length] at e
    rw [e.1, e.2, List.drop_zero, Nat.sub_zero, List.take_length]
  refine q _ _ (Same.refl H) ?_
  rw [e2]
  exact .tup hs hx
theorem r_catA {K : PySem.W.Frag} {H : Hp} {v u : V} {ds es : List PyData} {Q : VK} (h : DT K H v (.tuple ds)) (h2 : DT K H u (.tuple es)) (hl : ds.length + es.length ≤ 1000) (q : ∀ v' H', Same H H' → DT K H' v' (.tuple (ds ++ es)) → Q v' H') : rCatA K v u H Q := by
  obtain ⟨a, xs, rfl, hs, hx⟩ := h.tupOf
  obtain ⟨b, ys, rfl, hs2, hy⟩ := h2.tupOf
  refine ⟨a, b, xs, ys, rfl, rfl, hs, hs2, ?_, fun e => ?_, fun _ e => ?_, fun _ _ p np => q _ _ (same_new np) (DT.new (hx.append hy) np)⟩
  · rw [hx.length, hy.length]
    exact Nat.le_of_lt (small1000 hl)
  · subst e
    cases hx
    exact q _ _ (Same.refl H) (.tup hs2 hy)
  · subst e
    cases hy
    refine q _ _ (Same.refl H) ?_
    rw [List.append_nil]
    exact .tup hs hx
theorem atI_map {α β : Type} {xs : List α} {f : α → β} {i : Int} {v : α} (h : atI xs i = some v) : atI (xs.map f) i = some (f v) := by
  obtain ⟨j, h1, h2, h3, h4, h5⟩ := atI_get h
  unfold atI at h ⊢
  rw [List.length_map]
  cases e : ixN xs.length i with
  | none => rw [e] at h; cases h
  | some k =>
    rw [e] at h
    have h' : xs[k]? = some v := h
    show (xs.map f)[k]? = some (f v)
    rw [List.getElem?_map, h']
    rfl
theorem DTs.at {K : PySem.W.Frag} {H : Hp} {vs : List V} {ds : List PyData} {i : Int} {d : PyData} (h : DTs K H vs ds) (e : atI ds i = some d) : ∃ v, atI vs i = some v ∧ DT K H v d := by
  unfold atI at e ⊢
  rw [h.length]
  cases z : ixN ds.length i with
  | none => rw [z] at e; cases e
  | some k =>
    rw [z] at e
    have e' : ds[k]? = some d := e
    obtain ⟨v, h1, h2⟩ := h.get e'
    exact ⟨v, h1, h2⟩
theorem r_ixT {K : PySem.W.Frag} {H : Hp} {v : V} {ds : List PyData} {i : Int} {d : PyData} {Q : VK} (h : DT K H v (.tuple ds)) (e : atI ds i = some d) (q : ∀ v', DT K H v' d → Q v' H) : rIxT K v (.int i) H Q := by
  obtain ⟨a, xs, rfl, hs, hx⟩ := h.tupOf
  obtain ⟨v', h1, h2⟩ := hx.at e
  exact ⟨a, xs, i, v', rfl, rfl, hs, h1, q v' h2⟩
theorem DTs.last {K : PySem.W.Frag} {H : Hp} {vs : List V} {ds : List PyData} {d : PyData} (h : DTs K H vs (ds ++ [d])) : ∃ us u, vs = us ++ [u] ∧ DTs K H us ds ∧ DT K H u d := by
  induction ds generalizing vs with
  | nil =>
    obtain ⟨u, rfl, q⟩ := h.one
    exact ⟨[], u, rfl, .nil, q⟩
  | cons e ds ih =>
    cases h with
    | cons a b =>
      obtain ⟨us, u, rfl, q1, q2⟩ := ih b
      exact ⟨_ :: us, u, rfl, .cons a q1, q2⟩
theorem wst_last (x y w : Int) (rs : List (Sh × Int)) : ∃ L, (wst x y w rs).1 = L ++ [(wst x y w rs).1.getLastD (0, 0)] := by
  have ne : (wst x y w rs).1 ≠ [] := by
    rcases List.eq_nil_or_concat rs with rfl | ⟨r', r, rfl⟩
    · simp [wst]
    · simp [wst_snoc]
  rcases List.eq_nil_or_concat (wst x y w rs).1 with h | ⟨L, a, h⟩
  · exact absurd h ne
  · refine ⟨L, ?_⟩
    rw [List.concat_eq_append] at h
    rw [h, getLastD_snoc]
theorem wst_len (x y w : Int) (rs : List (Sh × Int)) : (wst x y w rs).1.length = rs.length + 1 := by
  rcases List.eq_nil_or_concat rs with rfl | ⟨r', r, rfl⟩
  · rfl
  · rw [List.concat_eq_append, wst_snoc, List.length_append, List.length_append, wst_len x y w r']
    rfl
termination_by rs.length
decreasing_by
  simp_all
theorem cut_last (xs : List V) (x : V) : cutV (xs ++ [x]) none (some (-1)) = xs := by
  have e1 : HT.sIx (xs ++ [x]).length 0 none = 0 := rfl
  have e2 : HT.sIx (xs ++ [x]).length (xs ++ [x]).length (some (-1)) = xs.length := by
    show (if (-1 : Int) < 0 then ((-1 : Int) + ((xs ++ [x]).length : Int)).toNat else min (-1 : Int).toNat (xs ++ [x]).length) = xs.length
    rw [if_pos (by decide), List.length_append]
    show ((-1 : Int) + ((xs.length + 1 : Nat) : Int)).toNat = xs.length
    omega
  unfold cutV
  rw [e1, e2, List.drop_zero, Nat.sub_zero, List.take_left]
theorem take_one {α : Type} {l : List α} {i : Nat} {a : α} (h : l[i]? = some a) : l.take (i + 1) = l.take i ++ [a] := by
  rw [List.take_add_one, h]
  rfl
theorem wst_take {x y w : Int} {rs : List (Sh × Int)} {i : Nat} {r : Sh × Int} (h : rs[i]? = some r) : wst x y w (rs.take (i + 1)) = ((wst x y w (rs.take i)).1 ++ [on ((wst x y w (rs.take i)).1.getLastD (0, 0)) (tn (wst x y w (rs.take i)).2 r.1)], tn (wst x y w (rs.take i)).2 r.1) := by
  rw [take_one h, wst_snoc]
theorem rails_at {K : PySem.W.Frag} {H : Hp} {vs : List V} {rs : List (Sh × Int)} {i : Nat} {v : V} (h : DTs K H vs (rs.map rail)) (e : vs[i]? = some v) : ∃ r, rs[i]? = some r ∧ ∃ a, v = .ref a ∧ SqT K H a [.str r.1.str, .int r.2] := by
  obtain ⟨d, h1, h2⟩ := h.getV e
  rw [List.getElem?_map] at h1
  cases z : rs[i]? with
  | none => rw [z] at h1; cases h1
  | some r =>
    rw [z] at h1
    cases Option.some.inj h1
    obtain ⟨a, xs, rfl, hs, hx⟩ := h2.tupOf
    obtain ⟨v1, v2, rfl, d1, d2⟩ := hx.two
    cases d1.strOf
    cases d2.intOf
    exact ⟨r, rfl, a, rfl, hs⟩
def spAbout : Sp := fun vs H Q _ => ∃ w : Int, vs = [.int w] ∧ Q (.int ((w + 2) % 4)) H
def spOnward (K : PySem.W.Frag) : Sp := fun vs H Q _ => ∃ (v : V) (p : Int × Int) (w n : Int), vs = [v, .int w, .int n] ∧ DT K H v (sq p) ∧ 0 ≤ w ∧ w ≤ 3 ∧ ∀ v' H', Same H H' → DT K H' v' (sq (p.1 + dx w * n, p.2 + dy w * n)) → Q v' H'
theorem dx_ok (w n : Int) : CMul (dx w) n := by
  left
  unfold dx
  split
  · decide
  · split <;> decide
theorem dy_ok (w n : Int) : CMul (dy w) n := by
  left
  unfold dy
  split
  · decide
  · split <;> decide
theorem on_one (p : Int × Int) (w : Int) : (p.1 + dx w * 1, p.2 + dy w * 1) = on p w := by
  unfold on
  rw [Int.mul_one, Int.mul_one]
theorem step_at {K : PySem.W.Frag} {H : Hp} {xs : List V} (h : DTs K H xs [sq (0, 1), sq (1, 0), sq (0, -1), sq (-1, 0)]) {w : Int} (w0 : 0 ≤ w) (w3 : w ≤ 3) : ∃ a, atI xs w = some (.ref a) ∧ SqT K H a [.int (dx w), .int (dy w)] := by
  have key : ∀ (v : V) (p : Int × Int), DT K H v (sq p) → ∃ a, v = .ref a ∧ SqT K H a [.int p.1, .int p.2] := fun v p hd => by
    obtain ⟨a, ys, rfl, hs, hy⟩ := hd.tupOf
    obtain ⟨v1, v2, rfl, d1, d2⟩ := hy.two
    cases d1.intOf
    cases d2.intOf
    exact ⟨a, rfl, hs⟩
  rcases way4 w0 w3 with rfl | rfl | rfl | rfl
  · obtain ⟨v, h1, h2⟩ := h.at (i := 0) (d := sq (0, 1)) rfl
    obtain ⟨a, rfl, h3⟩ := key v _ h2
    exact ⟨a, h1, h3⟩
  · obtain ⟨v, h1, h2⟩ := h.at (i := 1) (d := sq (1, 0)) rfl
    obtain ⟨a, rfl, h3⟩ := key v _ h2
    exact ⟨a, h1, h3⟩
  · obtain ⟨v, h1, h2⟩ := h.at (i := 2) (d := sq (0, -1)) rfl
    obtain ⟨a, rfl, h3⟩ := key v _ h2
    exact ⟨a, h1, h3⟩
  · obtain ⟨v, h1, h2⟩ := h.at (i := 3) (d := sq (-1, 0)) rfl
    obtain ⟨a, rfl, h3⟩ := key v _ h2
    exact ⟨a, h1, h3⟩
theorem sq_at {K : PySem.W.Frag} {H : Hp} {v : V} {p : Int × Int} (hd : DT K H v (sq p)) : ∃ a, v = .ref a ∧ SqT K H a [.int p.1, .int p.2] := by
  obtain ⟨a, ys, rfl, hs, hy⟩ := hd.tupOf
  obtain ⟨v1, v2, rfl, d1, d2⟩ := hy.two
  cases d1.intOf
  cases d2.intOf
  exact ⟨a, rfl, hs⟩
theorem eng_at {K : PySem.W.Frag} {H : Hp} {v : V} {x y w look : Int} {rs : List (Sh × Int)} (hd : DT K H v (eng x y w look rs)) : ∃ a r xs, v = .ref a ∧ SqT K H a [.int x, .int y, .int w, .int look, .ref r] ∧ SqT K H r xs ∧ DTs K H xs (rs.map rail) := by
  obtain ⟨a, ys, rfl, hs, hy⟩ := hd.tupOf
  obtain ⟨v1, v2, v3, v4, v5, rfl, d1, d2, d3, d4, d5⟩ := hy.five
  cases d1.intOf
  cases d2.intOf
  cases d3.intOf
  cases d4.intOf
  obtain ⟨r, xs, rfl, h1, h2⟩ := d5.tupOf
  exact ⟨a, r, xs, rfl, hs, h1, h2⟩
/-- a def of the text with keyword-only defaults, nothing leaves it -/
theorem FunD_ok0 {P : Program} {w : World} {K : PySem.W.Frag} {mg : Str → Option Value} {base : Heap} {x qual : Str} {params : Arguments} {body : List Stmt} {scope : Scope} {dvs : List V} {kws : List (Str × V)} {f : Addr} {fd : FuncData} {N ps : List Str} {k : Nat} {sp : Sp} (F : FunD K x qual params body scope dvs kws f fd) (S : FnScope N ps scope) (len : ∀ vs H Q E, sp vs H Q E → vs.length = ps.length)
    (hbody : ∀ (cdv : Value) (A : Around) (outer : List Env) (s : Shared) (H : Hp) (vs : List V) (Q : VK) (E : XK), Room k (A.deeper (envOfC qual scope s.heap.objs.size f cdv)) → sp vs H Q E →
      ∃ t, PSs (cxOf CX0 P w K mg base N qual scope f cdv A outer s H E).nox body t ∧ t { nx := fun _ H' => Q .non H', rt := Q } (start N vs) H) : FnOk P w K mg base CX0 (k + 1) f fd ps sp := by
  refine F.ok S len fun cdv A outer s H vs Q E hr hsp => ?_
  obtain ⟨t, h, q⟩ := hbody cdv A outer s H vs Q E hr hsp
  exact ⟨t, h.nox, q⟩
def spSAN (K : PySem.W.Frag) : Sp := fun vs H Q _ => ∃ (v : V) (x y w look : Int) (rs : List (Sh × Int)), vs = [v] ∧ DT K H v (eng x y w look rs) ∧ rs.length ≤ 900 ∧
  ∀ p xs H', Same H H' → H p = none → H' p = some (.lst xs) → DTs K H' xs ((wst x y w rs).1.map sq) → Q (.ref p) H'
def spSquares (K : PySem.W.Frag) : Sp := fun vs H Q _ => ∃ (v : V) (x y w look : Int) (rs : List (Sh × Int)), vs = [v] ∧ DT K H v (eng x y w look rs) ∧ rs.length ≤ 900 ∧
  ∀ v' H', Same H H' → DT K H' v' (.tuple ((wst x y w rs).1.dropLast.map sq)) → Q v' H'
def wantedOf (x y w look : Int) (rs : List (Sh × Int)) : Int × Int := if look = 1 then (wst x y w rs).1.getLastD (0, 0) else on (x, y) ((w + 2) % 4)
def spWanted (K : PySem.W.Frag) : Sp := fun vs H Q _ => ∃ (v : V) (x y w look : Int) (rs : List (Sh × Int)), vs = [v] ∧ DT K H v (eng x y w look rs) ∧ (rs ≠ [] ∧ rs.length ≤ 900 ∧ (look = 1 ∨ look = -1)) ∧
  ∀ v' H', Same H H' → DT K H' v' (sq (wantedOf x y w look rs)) → Q v' H'
/-! ### a comprehension over two tuples -/
theorem lc_zipT {K : PySem.W.Frag} {a b : Addr} {xs ys : List V} {g : TG} {tt : TT} {te : TE} {vs : List Nat} {σ : L2.St} {H1 : Hp} {D : Addr} {Qd : Hp → Prop} (hl : xs.length = ys.length) (Pv : Nat → Hp → Prop) (h0 : Pv 0 (upd H1 D (.lst []))) (hq : ∀ i H, Pv i H → SqT K H a xs ∧ SqT K H b ys)
    (hs : ∀ (i : Nat) (x y : V) (T : Addr) (H : Hp), xs[i]? = some x → ys[i]? = some y → Pv i H → H T = none → g (.ref T) (wipe σ vs) (upd H T (.tup [x, y])) fun σ2 H2 => wipe σ2 vs = wipe σ vs ∧ tt σ2 H2 fun b H3 =>
      if b = true then te σ2 H3 fun y H4 => ∃ acc, H4 D = some (.lst acc) ∧ acc.length < sizeLine ∧ Pv (i + 1) (upd H4 D (.lst (acc ++ [y]))) else Pv (i + 1) H3) (hd : ∀ H, Pv xs.length H → Qd H) :
    ∃ W : Nat → Nat → Hp → Prop, (∃ m, W 0 m (upd H1 D (.lst []))) ∧ ∀ i m H, W i m H →
      ((RZ.ItzT K a b).stop i H ∧ Qd H) ∨ ((RZ.ItzT K a b).go i H ∧ ∃ Nx : Hp → Prop, (∀ H', Nx H' → ∃ m', m' < m ∧ W (i + 1) m' H') ∧ ∀ x H', (RZ.ItzT K a b).yld i H x H' → g x (wipe σ vs) H' fun σ2 H2 => wipe σ2 vs = wipe σ vs ∧ tt σ2 H2 fun b H3 =>
        if b = true then te σ2 H3 fun y H4 => ∃ acc, H4 D = some (.lst acc) ∧ acc.length < sizeLine ∧ Nx (upd H4 D (.lst (acc ++ [y]))) else Nx H3) := by
  refine ⟨fun i m H => m = xs.length - i ∧ i ≤ xs.length ∧ Pv i H, ⟨xs.length, rfl, Nat.zero_le _, h0⟩, ?_⟩
  rintro i m H ⟨rfl, hi, p⟩
  obtain ⟨q1, q2⟩ := hq i H p
  by_cases hlt : i < xs.length
  · have hlt2 : i < ys.length := hl ▸ hlt
    refine .inr ⟨⟨xs, ys, xs[i], ys[i], q1, q2, by simp [hlt], by simp [hlt2]⟩, Pv (i + 1), fun H' p' => ⟨xs.length - (i + 1), by omega, rfl, hlt, p'⟩, fun x H' y => ?_⟩
    obtain ⟨T, x1, y1, rfl, nT, rfl, f1, f2⟩ := y
    exact hs i x1 y1 T H (f1 _ q1) (f2 _ q2) p nT
  · have e : i = xs.length := by omega
    subst e
    exact .inl ⟨⟨xs, ys, q1, q2, .inl (Nat.le_refl _)⟩, hd H p⟩
/-! ### what a datum's type is -/
def tyN : PyData → String
  | .none => "NoneType"
  | .bool _ => "bool"
  | .int _ => "int"
  | .str _ => "str"
  | .list _ => "list"
  | .tuple _ => "tuple"
  | .dict _ => "dict"
theorem DT.ty {K : PySem.W.Frag} {H : Hp} {v : V} {d : PyData} (h : DT K H v d) : TyX K H v (.type (tyN d)) := by
  cases h with
  | non => exact .base .non
  | bl b => exact .base (.bl b)
  | int i => exact .base (.int i)
  | str x => exact .base (.str x)
  | tup hs ha =>
    rcases hs with (hs | ⟨o, hs⟩) | ⟨o, its, n, hk, hc, _⟩
    · exact .base (.tup hs)
    · exact .fTuple hs
    · exact .kTuple hk hc
def isT : PyData → Bool
  | .tuple _ => true
  | _ => false
def isB : PyData → Bool
  | .bool _ => true
  | _ => false
def isS : PyData → Bool
  | .str _ => true
  | _ => false
theorem kT {K : PySem.W.Frag} {H : Hp} {v : V} {d : PyData} (h : DT K H v d) : PySem.W.kitOne K (.type (tyN d)) (.type "tuple") = some (isT d) := by
  cases h with
  | non => exact kit_ty (a := "NoneType") (r := false) (by decide +kernel)
  | bl _ => exact kit_ty (a := "bool") (r := false) (by decide +kernel)
  | int _ => exact kit_ty (a := "int") (r := false) (by decide +kernel)
  | str _ => exact kit_ty (a := "str") (r := false) (by decide +kernel)
  | tup _ _ => exact kit_ty (a := "tuple") (r := true) (by decide +kernel)
theorem kL {K : PySem.W.Frag} {H : Hp} {v : V} {d : PyData} (h : DT K H v d) : PySem.W.kitOne K (.type (tyN d)) (.type "list") = some false := by
  cases h with
  | non => exact kit_ty (a := "NoneType") (r := false) (by decide +kernel)
  | bl _ => exact kit_ty (a := "bool") (r := false) (by decide +kernel)
  | int _ => exact kit_ty (a := "int") (r := false) (by decide +kernel)
  | str _ => exact kit_ty (a := "str") (r := false) (by decide +kernel)
  | tup _ _ => exact kit_ty (a := "tuple") (r := false) (by decide +kernel)
theorem kD {K : PySem.W.Frag} {H : Hp} {v : V} {d : PyData} (h : DT K H v d) : PySem.W.kitOne K (.type (tyN d)) (.type "dict") = some false := by
  cases h with
  | non => exact kit_ty (a := "NoneType") (r := false) (by decide +kernel)
  | bl _ => exact kit_ty (a := "bool") (r := false) (by decide +kernel)
  | int _ => exact kit_ty (a := "int") (r := false) (by decide +kernel)
  | str _ => exact kit_ty (a := "str") (r := false) (by decide +kernel)
  | tup _ _ => exact kit_ty (a := "tuple") (r := false) (by decide +kernel)
theorem kB {K : PySem.W.Frag} {H : Hp} {v : V} {d : PyData} (h : DT K H v d) : PySem.W.kitOne K (.type (tyN d)) (.type "bool") = some (isB d) := by
  cases h with
  | non => exact kit_ty (a := "NoneType") (r := false) (by decide +kernel)
  | bl _ => exact kit_ty (a := "bool") (r := true) (by decide +kernel)
  | int _ => exact kit_ty (a := "int") (r := false) (by decide +kernel)
  | str _ => exact kit_ty (a := "str") (r := false) (by decide +kernel)
  | tup _ _ => exact kit_ty (a := "tuple") (r := false) (by decide +kernel)
theorem kS {K : PySem.W.Frag} {H : Hp} {v : V} {d : PyData} (h : DT K H v d) : PySem.W.kitOne K (.type (tyN d)) (.type "str") = some (isS d) := by
  cases h with
  | non => exact kit_ty (a := "NoneType") (r := false) (by decide +kernel)
  | bl _ => exact kit_ty (a := "bool") (r := false) (by decide +kernel)
  | int _ => exact kit_ty (a := "int") (r := false) (by decide +kernel)
  | str _ => exact kit_ty (a := "str") (r := true) (by decide +kernel)
  | tup _ _ => exact kit_ty (a := "tuple") (r := false) (by decide +kernel)
theorem kTL {K : PySem.W.Frag} {H : Hp} {v : V} {d : PyData} (h : DT K H v d) : PySem.W.kitAny K (.type (tyN d)) [.type "tuple", .type "list"] = some (isT d) :=
  kitAny_cons (kT h) (fun e => by rw [e]; exact kitAny_cons (kL h) (fun _ => kitAny_nil) (fun z => by cases z)) (fun e => e)
theorem kTLD {K : PySem.W.Frag} {H : Hp} {v : V} {d : PyData} (h : DT K H v d) : PySem.W.kitAny K (.type (tyN d)) [.type "tuple", .type "list", .type "dict"] = some (isT d) :=
  kitAny_cons (kT h) (fun e => by rw [e]; exact kitAny_cons (kL h) (fun _ => kitAny_cons (kD h) (fun _ => kitAny_nil) (fun z => by cases z)) (fun z => by cases z)) (fun e => e)
theorem iteEq {α : Type} [DecidableEq α] {x y : α} {A B : Prop} (h : x = y) (k : A) : if decide (x = y) = true then A else B := by
  rw [decide_eq_true h]
  exact iteT k
mutual
def okD : PyData → Bool
  | .none => true
  | .bool _ => true
  | .int _ => true
  | .str x => PyData.strOk x
  | .tuple ds => decide (ds.length ≤ 1000) && okAll ds
  | .list _ => false
  | .dict _ => false
def okAll : List PyData → Bool
  | [] => true
  | d :: ds => okD d && okAll ds
end
mutual
theorem lay_ok : ∀ d : PyData, okD d = true → d.canLay0 = true
  | .none, _ => rfl
  | .bool _, _ => rfl
  | .int _, _ => rfl
  | .str x, h => by
    rw [okD] at h
    rw [PyData.canLay0]
    exact h
  | .tuple ds, h => by
    rw [okD, Bool.and_eq_true] at h
    rw [PyData.canLay0]
    exact lay_oks ds h.2
  | .list _, h => by rw [okD] at h; cases h
  | .dict _, h => by rw [okD] at h; cases h
theorem lay_oks : ∀ ds : List PyData, okAll ds = true → PyData.canLayAll0 ds = true
  | [], _ => rfl
  | d :: ds, h => by
    rw [okAll, Bool.and_eq_true] at h
    rw [PyData.canLayAll0, lay_ok d h.1, lay_oks ds h.2]
    rfl
end
theorem okAll_get : ∀ {ds : List PyData} {i : Nat} {d : PyData}, okAll ds = true → ds[i]? = some d → okD d = true
  | [], _, _, _, e => by simp at e
  | x :: ds, 0, d, h, e => by
    rw [okAll, Bool.and_eq_true] at h
    simp at e
    rw [← e]
    exact h.1
  | x :: ds, i + 1, d, h, e => by
    rw [okAll, Bool.and_eq_true] at h
    exact okAll_get (i := i) h.2 (by simpa using e)
theorem dep_get : ∀ {ds : List PyData} {i : Nat} {d : PyData}, ds[i]? = some d → d.depth ≤ PyData.depthAll ds
  | [], _, _, e => by simp at e
  | x :: ds, 0, d, e => by
    simp at e
    rw [PyData.depthAll, ← e]
    exact Nat.le_max_left _ _
  | x :: ds, i + 1, d, e => by
    have h := dep_get (ds := ds) (i := i) (d := d) (by simpa using e)
    rw [PyData.depthAll]
    exact Nat.le_trans h (Nat.le_max_right _ _)
def spAlike (K : PySem.W.Frag) (n : Nat) : Sp := fun vs H Q _ => ∃ (v u : V) (d : PyData), vs = [v, u] ∧ DT K H v d ∧ DT K H u d ∧ okD d = true ∧ d.depth ≤ n ∧ (∀ H', Same H H' → Q (.bl true) H')
theorem tk_setD {H : Hp} {b : Addr} {kvs : List (Key × V)} {o : HO} (hb : H b = some (.dK kvs)) : Tk H (upd H b o) := fun a ys h => by
  have n : a ≠ b := fun z => by
    subst z
    rcases h with h | ⟨u, h⟩
    · rw [hb] at h
      cases h
    · rw [hb] at h
      cases h
  rcases h with h | ⟨u, h⟩
  · exact .inl (by rw [upd_ne n]; exact h)
  · exact .inr ⟨u, by rw [upd_ne n]; exact h⟩
def spDue (K : PySem.W.Frag) : Sp := fun vs H Q _ => ∃ (v : V) (x y w look : Int) (rs : List (Sh × Int)), vs = [v] ∧ DT K H v (eng x y w look rs) ∧ 0 ≤ w ∧ w ≤ 3 ∧ rs.length ≤ 900 ∧
  ∀ v' H', Same H H' → DT K H' v' (.tuple [.tuple ((wst x y w rs).1.dropLast.map sq), sq (wantedOf x y w look rs)]) → Q v' H'
theorem okAll_map {α : Type} (f : α → PyData) (h : ∀ a, okD (f a) = true) : ∀ l : List α, okAll (l.map f) = true
  | [] => rfl
  | a :: l => by
    rw [List.map_cons, okAll, h a, okAll_map f h l]
    rfl
theorem ok_sq (p : Int × Int) : okD (sq p) = true := by
  simp [sq, okD, okAll]
theorem ok_sqs (l : List (Int × Int)) (h : l.length ≤ 1000) : okD (.tuple (l.map sq)) = true := by
  rw [okD, okAll_map sq ok_sq, List.length_map, decide_eq_true h]
  rfl
theorem depT_sqs (l : List (Int × Int)) : (PyData.tuple (l.map sq)).depth ≤ 4 := by
  have h := dep_sqs l
  rw [PyData.depth]
  omega
theorem dep_sq (p : Int × Int) : (sq p).depth = 1 := by
  simp [sq, PyData.depth, PyData.depthAll]
theorem lawRange {n : Nat} (k : Int) (h2 : 2 ≤ k) (h9 : k ≤ 60) : 0 ≤ (if (if ((n : Int)) < k then ((n : Int)) else k) > 2 then (if ((n : Int)) < k then ((n : Int)) else k) else 2) ∧ (if (if ((n : Int)) < k then ((n : Int)) else k) > 2 then (if ((n : Int)) < k then ((n : Int)) else k) else 2) ≤ 60 := by
  split <;> split <;> omega
def spLaw (K : PySem.W.Frag) : Sp := fun vs H Q _ => ∃ (a : Addr) (ns : List Int), vs = [.ref a] ∧ SqL K H a (ns.map V.int) ∧ ns.length ≤ 63 ∧ ∀ H', Q (.bl true) H'
theorem SqL_but {K : PySem.W.Frag} {H H1 H2 : Hp} {a b : Addr} {xs : List V} (h : SqL K H a xs) (nb : H b = none) (e1 : Same H H1) (e2 : But b H1 H2) : SqL K H2 a xs := by
  rcases h with (h | ⟨o, h⟩) | h
  · exact .inl (.inl (e2 _ _ (ne_of_none h nb) (e1 _ _ h)))
  · exact .inl (.inr ⟨o, e2 _ _ (ne_of_none h nb) (e1 _ _ h)⟩)
  · exact .inr h
theorem Box.same {H H' : Hp} {b : Addr} (h : Box H b) (e : Same H H') : Box H' b := by
  obtain ⟨i, s, c, h⟩ := h
  exact ⟨i, s, c, e _ _ h⟩
theorem eng_cut (x y w look : Int) (rs : List (Sh × Int)) : cutD [.int x, .int y, .int w, .int look, .tuple (rs.map rail)] none (some 3) = [.int x, .int y, .int w] := rfl
/-! ### readings, step by step -/
section
variable {K : PySem.W.Frag} {σ : L2.St} {H : Hp} {Q : VK} {ta tb : TE} {r : R2} {v : V}
theorem r_c (k : Q v H) : tC v σ H Q := k
theorem r_v {i : Nat} (h : σ[i]? = some (some v)) (k : Q v H) : tVar i σ H Q := ⟨v, h, k⟩
theorem r_op (k : ta σ H fun x H1 => tb σ H1 fun y H2 => r x y H2 Q) : tOp r ta tb σ H Q := k
theorem r_tup {t : TA} (k : t σ H fun xs H1 => xs.length ≤ sizeLine ∧ ∀ p, H1 p = none → Q (.ref p) (upd H1 p (.tup xs))) : tTup t σ H Q := k
theorem r_lst {t : TA} (k : t σ H fun xs H1 => xs.length ≤ sizeLine ∧ ∀ p, H1 p = none → Q (.ref p) (upd H1 p (.lst xs))) : tLst t σ H Q := k
theorem r_cons {tr : TA} {Q : List V → Hp → Prop} (k : ta σ H fun x H1 => tr σ H1 fun xs H2 => Q (x :: xs) H2) : tCons ta tr σ H Q := k
theorem r_nil {Q : List V → Hp → Prop} (k : Q [] H) : tNil σ H Q := k
theorem r_call {sp : Sp} {dvs : List V} {E : XK} {t : TA} (k : t σ H fun vs H1 => sp (vs ++ dvs) H1 Q E) : tCall sp dvs E t σ H Q := k
theorem r_np {Q : Option Int → Hp → Prop} (k : Q none H) : tNoPart σ H Q := k
theorem r_nm {i : Nat} {Q : L2.St → Hp → Prop} (k : Q (σ.set i (some v)) H) : gName i v σ H Q := k
theorem r_asg {g : TG} {D : Ends} (k : ta σ H fun x H1 => g x σ H1 D.nx) : tAsg ta g D σ H := k
theorem r_seq {t u : TS} {D : Ends} (k : t { D with nx := u D } σ H) : tSeq t u D σ H := k
theorem r_next {D : Ends} (k : D.nx σ H) : tNext D σ H := k
theorem r_ret {D : Ends} (k : ta σ H D.rt) : tRet ta D σ H := k
theorem r_I0 {g : Int → Int → V} {i j : Int} (k : Q (g i j) H) : rI0 g (.int i) (.int j) H Q := ⟨i, j, rfl, rfl, k⟩
theorem r_I {C : Int → Int → Prop} {g : Int → Int → V} {i j : Int} (c : C i j) (k : Q (g i j) H) : rI C g (.int i) (.int j) H Q := ⟨i, j, rfl, rfl, c, k⟩
theorem r_ixTV {j : Nat} {ds : List PyData} {i : Int} {d : PyData} (hv : σ[j]? = some (some v)) (h : DT K H v (.tuple ds)) (e : atI ds i = some d) (q : ∀ v', DT K H v' d → Q v' H) : tOp (rIxT K) (tVar j) (tC (.int i)) σ H Q := ⟨v, hv, r_ixT h e q⟩
end
/-! ### what an expression comes to, whatever was laid meanwhile -/
def EvD (K : PySem.W.Frag) (te : TE) (σ : L2.St) (H : Hp) (d : PyData) : Prop := ∀ H1, Same H H1 → ∀ Q : VK, (∀ v H2, Same H1 H2 → DT K H2 v d → Q v H2) → te σ H1 Q
def EvI (te : TE) (σ : L2.St) (i : Int) : Prop := ∀ (H : Hp) (Q : VK), Q (.int i) H → te σ H Q
section
variable {K : PySem.W.Frag} {σ : L2.St} {H : Hp} {ta tb : TE} {a b : Int}
theorem evi_v {i : Nat} (h : σ[i]? = some (some (.int a))) : EvI (tVar i) σ a := fun H Q q => ⟨_, h, q⟩
theorem evi_c : EvI (tC (.int a)) σ a := fun H Q q => q
theorem evi_0 {g : Int → Int → Int} (h1 : EvI ta σ a) (h2 : EvI tb σ b) : EvI (tOp (rI0 fun i j => .int (g i j)) ta tb) σ (g a b) := fun H Q q => h1 H _ (h2 H _ ⟨a, b, rfl, rfl, q⟩)
theorem evd_i (h : EvI ta σ a) : EvD K ta σ H (.int a) := fun H1 _ Q q => h H1 Q (q _ _ (Same.refl _) (.int a))
theorem evd_2 (h1 : EvI ta σ a) (h2 : EvI tb σ b) : EvD K (tTup (tCons ta (tCons tb tNil))) σ H (.tuple [.int a, .int b]) := fun H1 _ Q q =>
  h1 H1 _ (h2 H1 _ ⟨by show 2 ≤ sizeLine; decide, fun p np => q _ _ (same_new np) (DT.new (.cons (.int a) (.cons (.int b) .nil)) np)⟩)
def pick4D (w : Int) (d0 d1 d2 d3 : PyData) : PyData := if w = 0 then d0 else if w = 1 then d1 else if w = 2 then d2 else d3
theorem r_disp4 {t0 t1 t2 t3 : TE} {d0 d1 d2 d3 : PyData} {j : Nat} {w : Int} {Q : VK} (e0 : EvD K t0 σ H d0) (e1 : EvD K t1 σ H d1) (e2 : EvD K t2 σ H d2) (e3 : EvD K t3 σ H d3) (hk : σ[j]? = some (some (.int w))) (w0 : 0 ≤ w) (w3 : w ≤ 3)
    (q : ∀ v H', Same H H' → DT K H' v (pick4D w d0 d1 d2 d3) → Q v H') : tDGet (tDisp [(tC (.int 0), t0), (tC (.int 1), t1), (tC (.int 2), t2), (tC (.int 3), t3)]) (tVar j) σ H Q := by
  intro p np
  have s0 : Same H (upd H p (.dK [])) := same_new np
  refine e0 _ s0 _ fun v0 H1 s1 x0 => ?_
  refine e1 _ (s0.trans s1) _ fun v1 H2 s2 x1 => ?_
  refine e2 _ ((s0.trans s1).trans s2) _ fun v2 H3 s3 x2 => ?_
  refine e3 _ (((s0.trans s1).trans s2).trans s3) _ fun v3 H4 s4 x3 => ?_
  have s14 := ((s1.trans s2).trans s3).trans s4
  have hp : H4 p = some (.dK []) := s14 _ _ upd_same
  refine ⟨hp, [(Sum.inl 0, v0), (Sum.inl 1, v1), (Sum.inl 2, v2), (Sum.inl 3, v3)], rfl, by show 4 ≤ 15; decide, ?_⟩
  have tk := tk_setD (o := HO.dK (mergeK [] [(Sum.inl 0, v0), (Sum.inl 1, v1), (Sum.inl 2, v2), (Sum.inl 3, v3)])) hp
  have sH : Same H (upd H4 p (HO.dK (mergeK [] [(Sum.inl 0, v0), (Sum.inl 1, v1), (Sum.inl 2, v2), (Sum.inl 3, v3)]))) := fun c o h => by
    rw [upd_ne (ne_of_none h np)]
    exact s14 _ _ (s0 _ _ h)
  rcases way4 w0 w3 with rfl | rfl | rfl | rfl
  · exact ⟨.int 0, hk, p, v0, rfl, .inl ⟨_, Sum.inl 0, .inl upd_same, rfl, rfl⟩, q _ _ sH (x0.up (((tk_same s2).trans ((tk_same s3).trans (tk_same s4))).trans tk))⟩
  · exact ⟨.int 1, hk, p, v1, rfl, .inl ⟨_, Sum.inl 1, .inl upd_same, rfl, rfl⟩, q _ _ sH (x1.up (((tk_same s3).trans (tk_same s4)).trans tk))⟩
  · exact ⟨.int 2, hk, p, v2, rfl, .inl ⟨_, Sum.inl 2, .inl upd_same, rfl, rfl⟩, q _ _ sH (x2.up ((tk_same s4).trans tk))⟩
  · exact ⟨.int 3, hk, p, v3, rfl, .inl ⟨_, Sum.inl 3, .inl upd_same, rfl, rfl⟩, q _ _ sH (x3.up tk)⟩
end
/-! ### calls by names alone -/
section
variable {X : Cx} {k : Nat} {f : Addr} {fd : FuncData} {ps ks : List Str} {sp : Sp} {E : XK} {x : Str} {p pos : Pos} {kws : List Keyword} {tk : TA} {g : List Value → List Value → List Value} {gV : List V → List V → List V}
theorem pe_kw0 (F : FnOk X.prog X.w X.K X.mg X.base CX0 k f fd ps sp) (room : Room k X.A) (gl : Gl X x) (at_ : X.mg x = some (.ref f)) (kp : PySem.W.keepIn X.K (.ref f) = true) (kb : KBn X.K fd ps 0 ks g gV) (out : Passes CX0 X E) (kw : PK X kws tk)
    (all_ : (backToKw pos (keywordEach kws X.env)).all (·.1.isSome) = true := by rfl) (names : (backToKw pos (keywordEach kws X.env)).filterMap (·.1) = ks := by rfl) (nodb : (x == ("__debug__" : Str)) = false := by decide)
    (plain : ((backTo pos (starEach [] X.env)).any (·.1) || (backToKw pos (keywordEach kws X.env)).any (·.1.isNone)) = false := by rfl) : PE X (.Call (.Name x p) [] kws pos) (tCallN 0 ks.length sp gV E tNil tk) :=
  ⟨fun pins s σ H Q I h => wpAny_Call_Name_kw (ld_glob I gl at_ (PySem.W.callWith_KW0 (h₀ := X.base) I.ok.mod.kin kp all_ (thn (kw.run pos pins s σ H _ I h) fun ws s2 ⟨zs, H2, I2, rz, l1, l2, q2⟩ => ⟨I2.kIn, by
    rw [names]
    exact run_fnN (us := []) (vs := []) F room kb out I2 .nil rz rfl l2 q2⟩) plain) nodb)⟩
end
def swap2 {α : Type} : List α → List α
  | [a, b] => [b, a]
  | l => l
theorem vals_swap2 {zs : List V} {ws : List Value} (r : Vals zs ws) : Vals (swap2 zs) (swap2 ws) := by
  cases r with
  | nil => exact .nil
  | cons a t => cases t with
    | nil => exact .cons a .nil
    | cons b t => cases t with
      | nil => exact .cons b (.cons a .nil)
      | cons c t => exact .cons a (.cons b (.cons c t))
theorem script_keep {K : PySem.W.Frag} {H0 : Hp} {a b : Addr} {xs : List V} (h : SqL K H0 a xs) (nb : H0 b = none) : ∀ H1 H2 : Hp, But b H1 H2 → SqL K H1 a xs → SqL K H2 a xs := fun H1 H2 e h1 => by
  rcases h with (h | ⟨o, h⟩) | h
  · rcases h1 with (h1 | ⟨o1, h1⟩) | h1
    · exact .inl (.inl (e _ _ (ne_of_none h nb) h1))
    · exact .inl (.inr ⟨o1, e _ _ (ne_of_none h nb) h1⟩)
    · exact .inr h1
  · rcases h1 with (h1 | ⟨o1, h1⟩) | h1
    · exact .inl (.inl (e _ _ (ne_of_none h nb) h1))
    · exact .inl (.inr ⟨o1, e _ _ (ne_of_none h nb) h1⟩)
    · exact .inr h1
  · exact .inr h
/-- a loop over a written text's signs -/
theorem for_str {x : Str} {g : TG} {tb : TS} {D : Ends} {σ : L2.St} {H : Hp} (Pv : Nat → L2.St → Hp → Prop) (h0 : Pv 0 σ H)
    (hs : ∀ i c σ H, x.cps[i]? = some c → Pv i σ H → g (.str ⟨#[c]⟩) σ H fun σ2 H2 => tb { D with nx := Pv (i + 1), ct := Pv (i + 1), bk := D.nx } σ2 H2) (hd : ∀ σ H, Pv x.cps.size σ H → D.nx σ H) :
    ∃ W : Nat → Nat → L2.St → Hp → Prop, (∃ m, W 0 m σ H) ∧ ∀ i m σ H, W i m σ H →
      ((Its x).stop i H ∧ D.nx σ H) ∨ ((Its x).go i H ∧ ∃ N : L2.St → Hp → Prop, (∀ σ' H', N σ' H' → ∃ m', m' < m ∧ W (i + 1) m' σ' H') ∧ ∀ v H', (Its x).yld i H v H' → g v σ H' fun σ2 H2 => tb { D with nx := N, ct := N, bk := D.nx } σ2 H2) := by
  refine ⟨fun i m σ H => m = x.cps.size - i ∧ i ≤ x.cps.size ∧ Pv i σ H, ⟨x.cps.size, by simp, Nat.zero_le _, h0⟩, ?_⟩
  rintro i m σ H ⟨rfl, hi, p⟩
  by_cases hlt : i < x.cps.size
  · refine .inr ⟨hlt, Pv (i + 1), fun σ' H' p' => ⟨x.cps.size - (i + 1), by omega, rfl, hlt, p'⟩, fun v H' y => ?_⟩
    obtain ⟨e1, c, hc, e2⟩ := y
    subst e1 e2
    exact hs i c σ H' hc p
  · have e : i = x.cps.size := by omega
    subst e
    exact .inl ⟨Nat.le_refl _, hd σ H p⟩
/-! ### gone on -/
def fwdE (x y w look : Int) (r : Sh × Int) (rest : List (Sh × Int)) : PyData := eng (on (x, y) (tn w r.1)).1 (on (x, y) (tn w r.1)).2 (tn w r.1) look (rest ++ [r])
def bwdE (x y w look : Int) (r : Sh × Int) (init : List (Sh × Int)) : PyData := eng (on (x, y) ((w + 2) % 4)).1 (on (x, y) ((w + 2) % 4)).2 (tb w r.1) look (r :: init)
def spFwd (K : PySem.W.Frag) : Sp := fun vs H Q _ => ∃ (v : V) (x y w look : Int) (r : Sh × Int) (rest : List (Sh × Int)), vs = [v] ∧ DT K H v (eng x y w look (r :: rest)) ∧ rest.length ≤ 900 ∧ ∀ v' H', Same H H' → DT K H' v' (fwdE x y w look r rest) → Q v' H'
def spBwd (K : PySem.W.Frag) : Sp := fun vs H Q _ => ∃ (v : V) (x y w look : Int) (r : Sh × Int) (init : List (Sh × Int)), vs = [v] ∧ DT K H v (eng x y w look (init ++ [r])) ∧ init.length ≤ 900 ∧ ∀ v' H', Same H H' → DT K H' v' (bwdE x y w look r init) → Q v' H'
def spGone (K : PySem.W.Frag) : Sp := fun vs H Q _ => ∃ (v : V) (x y w look : Int) (rs : List (Sh × Int)), vs = [v] ∧ DT K H v (eng x y w look rs) ∧ rs ≠ [] ∧ rs.length ≤ 900 ∧
  ∀ v' H', Same H H' → (∀ r rest, rs = r :: rest → look = 1 → DT K H' v' (fwdE x y w look r rest)) → (∀ init r, rs = init ++ [r] → look ≠ 1 → DT K H' v' (bwdE x y w look r init)) → Q v' H'
def spHand (K : PySem.W.Frag) : Sp := fun vs H Q _ => ∃ (v : V) (x y w look : Int) (rs : List (Sh × Int)), vs = [v] ∧ DT K H v (eng x y w look rs) ∧ ∀ v' H', Same H H' → DT K H' v' (eng x y w (-look) rs) → Q v' H'
def spBack : Sp := fun vs H Q _ => ∃ (w : Int) (s : Sh), vs = [.int w, .str s.str] ∧ ∀ H', Same H H' → Q (.int (tb w s)) H'
theorem cut_1n (d : PyData) (ds : List PyData) : cutD (d :: ds) (some 1) none = ds := by
  have e1 : HT.sIx (d :: ds).length 0 (some 1) = 1 := by
    rw [show (some (1 : Int)) = some ((1 : Nat) : Int) from rfl, HT.sIx_nat, List.length_cons]
    omega
  unfold cutD
  rw [e1, HT.sIx_none, List.length_cons]
  show List.take (ds.length + 1 - 1) ds = ds
  rw [Nat.add_sub_cancel, List.take_length]
theorem cut_n1 (d : PyData) (ds : List PyData) : cutD (d :: ds) none (some 1) = [d] := by
  have e1 : HT.sIx (d :: ds).length (d :: ds).length (some 1) = 1 := by
    rw [show (some (1 : Int)) = some ((1 : Nat) : Int) from rfl, HT.sIx_nat, List.length_cons]
    omega
  unfold cutD
  rw [e1, HT.sIx_none]
  rfl
theorem six_m1 (n k : Nat) : HT.sIx (n + 1) k (some (-1)) = n := by
  show (if (-1 : Int) < 0 then ((-1 : Int) + ((n + 1 : Nat) : Int)).toNat else min (-1 : Int).toNat (n + 1)) = n
  rw [if_pos (by decide)]
  omega
theorem cut_l1 (d : PyData) (ds : List PyData) : cutD (ds ++ [d]) (some (-1)) none = [d] := by
  unfold cutD
  have e : (ds ++ [d]).length = ds.length + 1 := by
    rw [List.length_append]
    rfl
  rw [e, six_m1, HT.sIx_none, List.drop_left, Nat.add_sub_cancel_left]
  rfl
theorem cut_i1 (d : PyData) (ds : List PyData) : cutD (ds ++ [d]) none (some (-1)) = ds := by
  unfold cutD
  have e : (ds ++ [d]).length = ds.length + 1 := by
    rw [List.length_append]
    rfl
  rw [e, six_m1, HT.sIx_none, List.drop_zero, Nat.sub_zero, List.take_left]
theorem rail_at {K : PySem.W.Frag} {H : Hp} {v : V} {r : Sh × Int} (h : DT K H v (rail r)) : ∃ a, v = .ref a ∧ SqT K H a [.str r.1.str, .int r.2] := by
  obtain ⟨a, xs, rfl, hs, hx⟩ := h.tupOf
  obtain ⟨v1, v2, rfl, d1, d2⟩ := hx.two
  cases d1.strOf
  cases d2.intOf
  exact ⟨a, rfl, hs⟩
theorem iteNe {d e : PyData} {A B : Prop} (h : PyData.eqv d e = true) (k : B) : if (!PyData.eqv d e) = true then A else B := by
  rw [h]
  exact iteF k
theorem small12 {n : Nat} (h : n ≤ 12) : n < sizeLine := Nat.lt_of_le_of_lt h (by decide)
end OR

/-! a def's body over data: slots hold data or addresses, a ledger tells what stands at each address that may change -/
namespace OR
open PySem PySem.Spec PyProof.Rows L2

theorem smallL {n : Nat} (h : n ≤ 1000000) : n < sizeLine := Nat.lt_of_le_of_lt h (by decide)
inductive Vd where
  | dat (d : PyData)
  | raw (v : V)
abbrev Vd.int (i : Int) : Vd := .dat (.int i)
abbrev Vd.str (x : Str) : Vd := .dat (.str x)
abbrev Vd.bl (b : Bool) : Vd := .dat (.bool b)
abbrev Vd.ref (a : Addr) : Vd := .raw (.ref a)
def RV (K : PySem.W.Frag) (H : Hp) (v : V) : Vd → Prop
  | .dat d => DT K H v d
  | .raw u => v = u
abbrev RVs (K : PySem.W.Frag) (H : Hp) : List V → List Vd → Prop := Paired (RV K H)
abbrev RVp {α : Type} (K : PySem.W.Frag) (H : Hp) : List (α × V) → List (α × Vd) → Prop := Paired fun p q => p.1 = q.1 ∧ RV K H p.2 q.2
theorem RV.up {K : PySem.W.Frag} {H H' : Hp} {v : V} {d : Vd} (h : RV K H v d) (e : Tk H H') : RV K H' v d := by
  cases d with
  | dat d => exact DT.up (d := d) h e
  | raw u => exact h
theorem RVs.up {K : PySem.W.Frag} {H H' : Hp} {v : List V} {d : List Vd} (h : RVs K H v d) (e : Tk H H') : RVs K H' v d := Paired.mapP h fun _ _ q => q.up e
theorem RVp.up {α : Type} {K : PySem.W.Frag} {H H' : Hp} {v : List (α × V)} {d : List (α × Vd)} (h : RVp K H v d) (e : Tk H H') : RVp K H' v d := Paired.mapP h fun _ _ q => ⟨q.1, q.2.up e⟩
theorem RVs.length {K : PySem.W.Frag} {H : Hp} {vs : List V} {ds : List Vd} (h : RVs K H vs ds) : vs.length = ds.length := Paired.length h
theorem RVs.get {K : PySem.W.Frag} {H : Hp} : ∀ {vs : List V} {ds : List Vd} {i : Nat} {d : Vd}, RVs K H vs ds → ds[i]? = some d → ∃ v, vs[i]? = some v ∧ RV K H v d
  | _, _, _, _, .nil, e => by simp at e
  | _, _, 0, _, .cons r _, e => by simp at e; subst e; exact ⟨_, rfl, r⟩
  | _, _, i + 1, x, .cons _ t, e => by
    obtain ⟨u, h1, h2⟩ := RVs.get (i := i) (d := x) t (by simpa using e)
    exact ⟨u, by simpa using h1, h2⟩
theorem RVs.getV {K : PySem.W.Frag} {H : Hp} : ∀ {vs : List V} {ds : List Vd} {i : Nat} {v : V}, RVs K H vs ds → vs[i]? = some v → ∃ d, ds[i]? = some d ∧ RV K H v d
  | _, _, _, _, .nil, e => by simp at e
  | _, _, 0, _, .cons r _, e => by simp at e; subst e; exact ⟨_, rfl, r⟩
  | _, _, i + 1, x, .cons _ t, e => by
    obtain ⟨u, h1, h2⟩ := RVs.getV (i := i) (v := x) t (by simpa using e)
    exact ⟨u, by simpa using h1, h2⟩
theorem RVs.append {K : PySem.W.Frag} {H : Hp} : ∀ {vs us : List V} {ds es : List Vd}, RVs K H vs ds → RVs K H us es → RVs K H (vs ++ us) (ds ++ es)
  | _, _, _, _, .nil, s => s
  | _, _, _, _, .cons r t, s => .cons r (RVs.append t s)
theorem RVs.take {K : PySem.W.Frag} {H : Hp} : ∀ {vs : List V} {ds : List Vd} (n : Nat), RVs K H vs ds → RVs K H (vs.take n) (ds.take n)
  | _, _, 0, _ => .nil
  | _, _, _ + 1, .nil => .nil
  | _, _, n + 1, .cons r t => .cons r (RVs.take n t)
theorem RVs.drop {K : PySem.W.Frag} {H : Hp} : ∀ {vs : List V} {ds : List Vd} (n : Nat), RVs K H vs ds → RVs K H (vs.drop n) (ds.drop n)
  | _, _, 0, h => h
  | _, _, _ + 1, .nil => .nil
  | _, _, n + 1, .cons _ t => RVs.drop n t
theorem RVs.set {K : PySem.W.Frag} {H : Hp} {v : V} {d : Vd} (r : RV K H v d) : ∀ {vs : List V} {ds : List Vd} (i : Nat), RVs K H vs ds → RVs K H (vs.set i v) (ds.set i d)
  | _, _, _, .nil => .nil
  | _, _, 0, .cons _ t => .cons r t
  | _, _, i + 1, .cons q t => .cons q (RVs.set r i t)
/-- data alone -/
def dats (ds : List PyData) : List Vd := ds.map Vd.dat
theorem RVs.dts {K : PySem.W.Frag} {H : Hp} : ∀ {vs : List V} {ds : List PyData}, RVs K H vs (dats ds) → DTs K H vs ds
  | [], [], _ => .nil
  | _, d :: ds, h => by
    cases h with
    | cons r t => exact .cons r (RVs.dts t)
  | _ :: _, [], h => by cases h
theorem DTs.rvs {K : PySem.W.Frag} {H : Hp} {vs : List V} {ds : List PyData} (h : DTs K H vs ds) : RVs K H vs (dats ds) := by
  induction vs generalizing ds with
  | nil => cases h; exact .nil
  | cons v vs ih =>
    cases h with
    | cons a b => exact .cons a (ih b)

/-! ### what stands at an address that may change -/
inductive Cell where
  | lst (xs : List Vd)
  | dT (kvs : List (List Key × Vd))
  | dK (kvs : List (Key × Vd))
  | ins (C dx : Addr) (fs : List (Str × Vd))
  | box
def HasC (K : PySem.W.Frag) (H : Hp) (a : Addr) : Cell → Prop
  | .lst xs => ∃ vs, H a = some (.lst vs) ∧ RVs K H vs xs
  | .dT kvs => ∃ ws, H a = some (.dT ws) ∧ RVp K H ws kvs
  | .dK kvs => ∃ ws, H a = some (.dK ws) ∧ RVp K H ws kvs
  | .ins C dx fs => ∃ ws, H a = some (.ins C dx ws) ∧ RVp K H ws fs
  | .box => Box H a
theorem HasC.up {K : PySem.W.Frag} {H H' : Hp} {a : Addr} {c : Cell} (h : HasC K H a c) (e : Tk H H') (k : ∀ o, H a = some o → H' a = some o) : HasC K H' a c := by
  cases c with
  | lst xs => obtain ⟨vs, h1, h2⟩ := h; exact ⟨vs, k _ h1, RVs.up h2 e⟩
  | dT xs => obtain ⟨vs, h1, h2⟩ := h; exact ⟨vs, k _ h1, RVp.up h2 e⟩
  | dK xs => obtain ⟨vs, h1, h2⟩ := h; exact ⟨vs, k _ h1, RVp.up h2 e⟩
  | ins C dx xs => obtain ⟨vs, h1, h2⟩ := h; exact ⟨vs, k _ h1, RVp.up h2 e⟩
  | box => obtain ⟨i, s, c, h⟩ := h; exact ⟨i, s, c, k _ h⟩
theorem HasC.some {K : PySem.W.Frag} {H : Hp} {a : Addr} {c : Cell} (h : HasC K H a c) : ∃ o, H a = some o ∧ Mut (some o) := by
  cases c with
  | lst xs => obtain ⟨vs, h1, h2⟩ := h; exact ⟨_, h1, trivial⟩
  | dT xs => obtain ⟨vs, h1, h2⟩ := h; exact ⟨_, h1, trivial⟩
  | dK xs => obtain ⟨vs, h1, h2⟩ := h; exact ⟨_, h1, trivial⟩
  | ins C dx xs => obtain ⟨vs, h1, h2⟩ := h; exact ⟨_, h1, trivial⟩
  | box => obtain ⟨i, s, c, h⟩ := h; exact ⟨_, h, trivial⟩
theorem mut_no_tup {H : Hp} {a : Addr} {o : HO} {xs : List V} (h : H a = some o) (m : Mut (some o)) (r : Rd H a (.tup xs)) : False := by
  rcases r with r | ⟨u, r⟩
  · rw [h] at r; cases r; exact m
  · rw [h] at r; cases r; exact m
/-- a store at an address that may change leaves all tuples -/
theorem tk_mut {H : Hp} {a : Addr} {o o' : HO} (h : H a = some o) (m : Mut (some o)) : Tk H (upd H a o') := fun b xs r => by
  have n : b ≠ a := fun z => by subst z; exact mut_no_tup h m r
  rcases r with r | ⟨u, r⟩
  · exact .inl (by rw [upd_ne n]; exact r)
  · exact .inr ⟨u, by rw [upd_ne n]; exact r⟩
abbrev Led := List (Addr × Cell)
def addrs (A : Led) : List Addr := A.map (·.1)
structure LedOk (K : PySem.W.Frag) (A : Led) (H : Hp) : Prop where
  has : ∀ p ∈ A, HasC K H p.1 p.2
  nd : (addrs A).Nodup
theorem tk_but_led {K : PySem.W.Frag} {A : Led} {H H' : Hp} (L : LedOk K A H) (e : ∀ a o, a ∉ addrs A → H a = some o → H' a = some o) : Tk H H' := fun b xs r => by
  have n : b ∉ addrs A := fun z => by
    obtain ⟨p, hp, rfl⟩ := List.mem_map.mp z
    obtain ⟨o, h1, h2⟩ := (L.has p hp).some
    exact mut_no_tup h1 h2 r
  rcases r with r | ⟨u, r⟩
  · exact .inl (e _ _ n r)
  · exact .inr ⟨u, e _ _ n r⟩
theorem LedOk.same {K : PySem.W.Frag} {A : Led} {H H' : Hp} (L : LedOk K A H) (e : Same H H') : LedOk K A H' := ⟨fun p hp => (L.has p hp).up (tk_same e) fun o h => e _ _ h, L.nd⟩
theorem LedOk.new {K : PySem.W.Frag} {A : Led} {H : Hp} {p : Addr} {o : HO} {c : Cell} (L : LedOk K A H) (n : H p = none) (h : HasC K (upd H p o) p c) : LedOk K ((p, c) :: A) (upd H p o) := by
  refine ⟨fun q hq => ?_, ?_⟩
  · rcases List.mem_cons.mp hq with rfl | hq
    · exact h
    · exact (L.has q hq).up (tk_new n) fun o h => by rw [upd_ne (ne_of_none h n)]; exact h
  · refine List.nodup_cons.mpr ⟨fun z => ?_, L.nd⟩
    obtain ⟨q, hq, e⟩ := List.mem_map.mp z
    obtain ⟨o, h1, _⟩ := (L.has q hq).some
    have e' : q.1 = p := e
    rw [e', n] at h1
    cases h1
theorem addrs_set {A : Led} {k : Nat} {p : Addr} {c c' : Cell} (h : A[k]? = some (p, c)) : addrs (A.set k (p, c')) = addrs A := by
  unfold addrs
  rw [List.map_set]
  refine List.ext_getElem? fun i => ?_
  rw [List.getElem?_set]
  split
  · rename_i e
    subst e
    have hl : k < A.length := (List.getElem?_eq_some_iff.mp h).1
    rw [if_pos (by rw [List.length_map]; exact hl), List.getElem?_map, h]
    rfl
  · rfl
theorem mem_set_cases {α : Type} {A : List α} {k : Nat} {x q : α} (h : q ∈ A.set k x) : q = x ∨ ∃ j, j ≠ k ∧ A[j]? = some q := by
  obtain ⟨j, hj⟩ := List.mem_iff_getElem?.mp h
  rw [List.getElem?_set] at hj
  split at hj
  · split at hj
    · exact .inl (Option.some.inj hj).symm
    · cases hj
  · rename_i n
    exact .inr ⟨j, fun z => n z.symm, hj⟩
theorem nodup_ix {α : Type} {l : List α} (nd : l.Nodup) {i j : Nat} {a : α} (h1 : l[i]? = some a) (h2 : l[j]? = some a) : i = j := by
  obtain ⟨l1, e1⟩ := List.getElem?_eq_some_iff.mp h1
  obtain ⟨l2, e2⟩ := List.getElem?_eq_some_iff.mp h2
  exact (List.getElem_inj nd).mp (e1.trans e2.symm)
theorem LedOk.set {K : PySem.W.Frag} {A : Led} {H : Hp} {k : Nat} {p : Addr} {o : HO} {c c' : Cell} (L : LedOk K A H) (hk : A[k]? = some (p, c)) (h : HasC K (upd H p o) p c') : LedOk K (A.set k (p, c')) (upd H p o) := by
  have hp := L.has _ (List.mem_of_getElem? hk)
  obtain ⟨u, h1, h2⟩ := hp.some
  refine ⟨fun q hq => ?_, ?_⟩
  · rcases mem_set_cases hq with rfl | ⟨j, nj, hj⟩
    · exact h
    · have ne : q.1 ≠ p := fun z => nj (nodup_ix L.nd (a := p) (by unfold addrs; rw [List.getElem?_map, hj, ← z]; rfl) (by unfold addrs; rw [List.getElem?_map, hk]; rfl))
      exact (L.has q (List.mem_of_getElem? hj)).up (tk_mut h1 h2) fun o h => by rw [upd_ne ne]; exact h
  · rw [addrs_set hk]
    exact L.nd

/-! ### a def's body: what stood ahead (H0), what may be changed of it (X) -/
structure Bd where
  K : PySem.W.Frag
  H0 : Hp
  X : List Addr
structure Wd (B : Bd) (A : Led) (H : Hp) : Prop where
  led : LedOk B.K A H
  fr : ∀ a o, a ∉ B.X → B.H0 a = some o → H a = some o
  new : ∀ p ∈ A, p.1 ∈ B.X ∨ B.H0 p.1 = none
  ex : ∀ a ∈ B.X, H a ≠ none
theorem Wd.same {B : Bd} {A : Led} {H H' : Hp} (W : Wd B A H) (e : Same H H') : Wd B A H' := ⟨W.led.same e, fun a o n h => e _ _ (W.fr a o n h), W.new, fun a h => by
  cases z : H a with
  | none => exact absurd z (W.ex a h)
  | some o => rw [e _ _ z]; exact fun q => nomatch q⟩
theorem Wd.notX {B : Bd} {A : Led} {H : Hp} {p : Addr} (W : Wd B A H) (n : H p = none) : p ∉ B.X := fun h => W.ex p h n
theorem Wd.free {B : Bd} {A : Led} {H : Hp} {p : Addr} (W : Wd B A H) (n : H p = none) : B.H0 p = none := by
  cases e : B.H0 p with
  | none => rfl
  | some o => rw [W.fr p o (W.notX n) e] at n; cases n
theorem Wd.laid {B : Bd} {A : Led} {H : Hp} {p : Addr} {o : HO} {c : Cell} (W : Wd B A H) (n : H p = none) (h : HasC B.K (upd H p o) p c) : Wd B ((p, c) :: A) (upd H p o) :=
  ⟨W.led.new n h, fun a u na q => (same_new n) _ _ (W.fr a u na q), fun q hq => by
    rcases List.mem_cons.mp hq with rfl | hq
    · exact .inr (W.free n)
    · exact W.new q hq, fun a h => by
    by_cases z : a = p
    · rw [z, upd_same]; exact fun q => nomatch q
    · rw [upd_ne z]; exact W.ex a h⟩
theorem Wd.set {B : Bd} {A : Led} {H : Hp} {k : Nat} {p : Addr} {o : HO} {c c' : Cell} (W : Wd B A H) (hk : A[k]? = some (p, c)) (h : HasC B.K (upd H p o) p c') : Wd B (A.set k (p, c')) (upd H p o) := by
  have hn := W.new _ (List.mem_of_getElem? hk)
  refine ⟨W.led.set hk h, fun a u na q => ?_, fun q hq => ?_, fun a h => ?_⟩
  rotate_right
  · by_cases z : a = p
    · rw [z, upd_same]; exact fun q => nomatch q
    · rw [upd_ne z]; exact W.ex a h
  · have ne : a ≠ p := fun z => by
      subst z
      rcases hn with z | z
      · exact na z
      · rw [z] at q; cases q
    rw [upd_ne ne]
    exact W.fr a u na q
  · rcases mem_set_cases hq with rfl | ⟨j, _, hj⟩
    · exact hn
    · exact W.new q (List.mem_of_getElem? hj)
theorem Wd.at {B : Bd} {A : Led} {H : Hp} {k : Nat} {p : Addr} {c : Cell} (W : Wd B A H) (hk : A[k]? = some (p, c)) : HasC B.K H p c := W.led.has _ (List.mem_of_getElem? hk)
theorem Wd.sub {B : Bd} {A A' : Led} {H : Hp} (W : Wd B A H) (s : A'.Sublist A) : Wd B A' H :=
  ⟨⟨fun p hp => W.led.has p (s.subset hp), List.Nodup.sublist (s.map _) W.led.nd⟩, W.fr, fun p hp => W.new p (s.subset hp), W.ex⟩

abbrev Rho := List (Option Vd)
structure REnv (K : PySem.W.Frag) (H : Hp) (σ : L2.St) (ρ : Rho) : Prop where
  len : σ.length = ρ.length
  get : ∀ (i : Nat) (d : Vd), ρ[i]? = some (some d) → ∃ v, σ[i]? = some (some v) ∧ RV K H v d
theorem REnv.up {K : PySem.W.Frag} {H H' : Hp} {σ : L2.St} {ρ : Rho} (e : REnv K H σ ρ) (t : Tk H H') : REnv K H' σ ρ := ⟨e.len, fun i d h => by
  obtain ⟨v, h1, h2⟩ := e.get i d h
  exact ⟨v, h1, h2.up t⟩⟩
theorem REnv.set {K : PySem.W.Frag} {H : Hp} {σ : L2.St} {ρ : Rho} {v : V} {d : Vd} (i : Nat) (e : REnv K H σ ρ) (r : RV K H v d) : REnv K H (σ.set i (some v)) (ρ.set i (some d)) := by
  refine ⟨by rw [List.length_set, List.length_set, e.len], fun j u h => ?_⟩
  rw [List.getElem?_set] at h ⊢
  split at h
  · rename_i z
    rw [if_pos z]
    split at h
    · rename_i l
      rw [if_pos (by rw [e.len]; exact l)]
      cases h
      exact ⟨v, rfl, r⟩
    · cases h
  · rename_i z
    rw [if_neg z]
    exact e.get j u h
def Ret (B : Bd) (H : Hp) (Q : Vd → Led → Prop) (Qv : VK) : Prop := ∀ z d A' H', Wd B A' H' → Tk H H' → RV B.K H' z d → Q d A' → Qv z H'
theorem Ret.on {B : Bd} {H H' : Hp} {Q : Vd → Led → Prop} {Qv : VK} (r : Ret B H Q Qv) (t : Tk H H') : Ret B H' Q Qv := fun z d A' H1 w t1 rv q => r z d A' H1 w (t.trans t1) rv q
def WE (B : Bd) (te : TE) (ρ : Rho) (A : Led) (Q : Vd → Led → Prop) : Prop := ∀ σ H (Qv : VK), REnv B.K H σ ρ → Wd B A H → Ret B H Q Qv → te σ H Qv
def RetB (B : Bd) (H : Hp) (Q : Bool → Led → Prop) (Qv : Bool → Hp → Prop) : Prop := ∀ b A' H', Wd B A' H' → Tk H H' → Q b A' → Qv b H'
def WT (B : Bd) (te : TT) (ρ : Rho) (A : Led) (Q : Bool → Led → Prop) : Prop := ∀ σ H (Qv : Bool → Hp → Prop), REnv B.K H σ ρ → Wd B A H → RetB B H Q Qv → te σ H Qv
def RetA (B : Bd) (H : Hp) (Q : List Vd → Led → Prop) (Qv : List V → Hp → Prop) : Prop := ∀ vs ds A' H', Wd B A' H' → Tk H H' → RVs B.K H' vs ds → Q ds A' → Qv vs H'
def WA (B : Bd) (te : TA) (ρ : Rho) (A : Led) (Q : List Vd → Led → Prop) : Prop := ∀ σ H (Qv : List V → Hp → Prop), REnv B.K H σ ρ → Wd B A H → RetA B H Q Qv → te σ H Qv
/-- an operator, by values -/
def RW (B : Bd) (r : R2) (x y : Vd) (A : Led) (Q : Vd → Led → Prop) : Prop := ∀ v u H Qv, RV B.K H v x → RV B.K H u y → Wd B A H → Ret B H Q Qv → r v u H Qv
def RU (B : Bd) (r : V → Hp → VK → Prop) (x : Vd) (A : Led) (Q : Vd → Led → Prop) : Prop := ∀ v H Qv, RV B.K H v x → Wd B A H → Ret B H Q Qv → r v H Qv
def RL (B : Bd) (r : List V → Hp → VK → Prop) (xs : List Vd) (A : Led) (Q : Vd → Led → Prop) : Prop := ∀ vs H Qv, RVs B.K H vs xs → Wd B A H → Ret B H Q Qv → r vs H Qv
/-- a def's promise, used -/
def RS (B : Bd) (sp : Sp) (xs : List Vd) (A : Led) (Q : Vd → Led → Prop) : Prop := ∀ vs H Qv E, RVs B.K H vs xs → Wd B A H → Ret B H Q Qv → sp vs H Qv E
section
variable {B : Bd} {ρ : Rho} {A : Led} {Q : Vd → Led → Prop} {ta tb tc : TE} {r r' : R2}
theorem we_var {i : Nat} {d : Vd} (h : ρ[i]? = some (some d)) (k : Q d A) : WE B (tVar i) ρ A Q := fun σ H Qv e w c => by
  obtain ⟨v, h1, h2⟩ := e.get i d h
  exact ⟨v, h1, c v d A H w (Tk.refl H) h2 k⟩
theorem we_int {i : Int} (k : Q (.int i) A) : WE B (tC (.int i)) ρ A Q := fun σ H Qv e w c => c _ (.int i) A H w (Tk.refl H) (DT.int i) k
theorem we_bl {i : Bool} (k : Q (.bl i) A) : WE B (tC (.bl i)) ρ A Q := fun σ H Qv e w c => c _ (.bl i) A H w (Tk.refl H) (DT.bl i) k
theorem we_str {i : Str} (k : Q (.str i) A) : WE B (tC (.str i)) ρ A Q := fun σ H Qv e w c => c _ (.str i) A H w (Tk.refl H) (DT.str i) k
theorem we_non (k : Q (.dat .none) A) : WE B (tC .non) ρ A Q := fun σ H Qv e w c => c _ (.dat .none) A H w (Tk.refl H) DT.non k
theorem we_raw {v : V} (k : Q (.raw v) A) : WE B (tC v) ρ A Q := fun σ H Qv e w c => c _ (.raw v) A H w (Tk.refl H) rfl k
/-- a module's datum -/
theorem we_glob {v : V} {d : PyData} (h : ∀ H, DT B.K H v d) (k : Q (.dat d) A) : WE B (tC v) ρ A Q := fun σ H Qv e w c => c _ (.dat d) A H w (Tk.refl H) (h H) k
theorem we_mono {Q' : Vd → Led → Prop} (h : WE B ta ρ A Q) (k : ∀ d A', Q d A' → Q' d A') : WE B ta ρ A Q' := fun σ H Qv e w c => h σ H Qv e w fun z d A' H' w' t rv q => c z d A' H' w' t rv (k _ _ q)
theorem we_op (h : WE B ta ρ A fun x A1 => WE B tb ρ A1 fun y A2 => RW B r x y A2 Q) : WE B (tOp r ta tb) ρ A Q := fun σ H Qv e w c =>
  h σ H _ e w fun v d A1 H1 w1 t1 r1 q1 => q1 σ H1 _ (e.up t1) w1 fun u d2 A2 H2 w2 t2 r2 q2 => q2 v u H2 Qv (r1.up t2) r2 w2 (c.on (t1.trans t2))
theorem we_un {r : V → Hp → VK → Prop} (h : WE B ta ρ A fun x A1 => RU B r x A1 Q) : WE B (tUn r ta) ρ A Q := fun σ H Qv e w c =>
  h σ H _ e w fun v d A1 H1 w1 t1 r1 q1 => q1 v H1 Qv r1 w1 (c.on t1)
theorem wa_nil {Q : List Vd → Led → Prop} (k : Q [] A) : WA B tNil ρ A Q := fun σ H Qv e w c => c _ [] A H w (Tk.refl H) .nil k
theorem wa_cons {t : TA} {Q : List Vd → Led → Prop} (h : WE B ta ρ A fun x A1 => WA B t ρ A1 fun xs A2 => Q (x :: xs) A2) : WA B (tCons ta t) ρ A Q := fun σ H Qv e w c =>
  h σ H _ e w fun v d A1 H1 w1 t1 r1 q1 => q1 σ H1 _ (e.up t1) w1 fun vs ds A2 H2 w2 t2 r2 q2 => c _ (d :: ds) A2 H2 w2 (t1.trans t2) (.cons (r1.up t2) r2) q2
theorem we_call {sp : Sp} {dvs : List V} {E : XK} {t : TA} {ds : List Vd} (hd : ∀ H, RVs B.K H dvs ds) (h : WA B t ρ A fun xs A1 => RS B sp (xs ++ ds) A1 Q) : WE B (tCall sp dvs E t) ρ A Q := fun σ H Qv e w c =>
  h σ H _ e w fun vs xs A1 H1 w1 t1 r1 q1 => q1 _ H1 Qv E (RVs.append r1 (hd H1)) w1 (c.on t1)
theorem we_call0 {sp : Sp} {E : XK} {t : TA} (h : WA B t ρ A fun xs A1 => RS B sp xs A1 Q) : WE B (tCall sp [] E t) ρ A Q := fun σ H Qv e w c =>
  h σ H _ e w fun vs xs A1 H1 w1 t1 r1 q1 => by
    show sp (vs ++ []) H1 Qv E
    rw [List.append_nil]
    exact q1 _ H1 Qv E r1 w1 (c.on t1)
theorem we_cb {r : List V → Hp → VK → Prop} {t : TA} (h : WA B t ρ A fun xs A1 => RL B r xs A1 Q) : WE B (tCB r t) ρ A Q := fun σ H Qv e w c =>
  h σ H _ e w fun vs xs A1 H1 w1 t1 r1 q1 => q1 vs H1 Qv r1 w1 (c.on t1)
/-- the addresses among values stay -/
def undat : Vd → Option PyData
  | .dat d => some d
  | .raw _ => none
def undats : List Vd → Option (List PyData)
  | [] => some []
  | .dat d :: r => match undats r with
    | some ds => some (d :: ds)
    | none => none
  | .raw _ :: _ => none
theorem undats_is : ∀ {xs : List Vd} {ds : List PyData}, undats xs = some ds → xs = dats ds
  | [], ds, h => by cases h; rfl
  | .dat d :: r, ds, h => by
    unfold undats at h
    cases e : undats r with
    | none => rw [e] at h; cases h
    | some es =>
      rw [e] at h
      cases h
      rw [undats_is e]
      rfl
  | .raw _ :: _, _, h => by cases h
theorem we_tup {t : TA} (h : WA B t ρ A fun xs A1 => ∃ ds, undats xs = some ds ∧ ds.length ≤ 1000000 ∧ Q (.dat (.tuple ds)) A1) : WE B (tTup t) ρ A Q := fun σ H Qv e w c =>
  h σ H _ e w fun vs xs A1 H1 w1 t1 r1 q1 => by
    obtain ⟨ds, eds, hl, q⟩ := q1
    cases undats_is eds
    have d := RVs.dts r1
    refine ⟨by rw [d.length]; exact Nat.le_of_lt (smallL hl), fun p np => c _ (.dat (.tuple ds)) A1 _ (w1.same (same_new np)) (t1.trans (tk_new np)) (DT.new d np) q⟩
theorem we_lst {t : TA} (h : WA B t ρ A fun xs A1 => xs.length ≤ 1000000 ∧ ∀ p, Q (.ref p) ((p, .lst xs) :: A1)) : WE B (tLst t) ρ A Q := fun σ H Qv e w c =>
  h σ H _ e w fun vs xs A1 H1 w1 t1 r1 q1 => by
    refine ⟨by rw [RVs.length r1]; exact Nat.le_of_lt (smallL q1.1), fun p np => c _ (.ref p) _ _ (w1.laid np (c := .lst xs) ⟨vs, upd_same, RVs.up r1 (tk_new np)⟩) (t1.trans (tk_new np)) rfl (q1.2 p)⟩
theorem we_if {t : TT} (h : WT B t ρ A fun b A1 => if b = true then WE B ta ρ A1 Q else WE B tb ρ A1 Q) : WE B (tIf t ta tb) ρ A Q := fun σ H Qv e w c =>
  h σ H _ e w fun b A1 H1 w1 t1 q1 => by
    cases b with
    | true => exact q1 σ H1 Qv (e.up t1) w1 (c.on t1)
    | false => exact q1 σ H1 Qv (e.up t1) w1 (c.on t1)
end
section
variable {B : Bd} {ρ : Rho} {A : Led} {Q : Bool → Led → Prop} {t u : TT} {ta : TE}
theorem wt_test (h : WE B ta ρ A fun x A1 => ∃ k, x = .bl k ∧ Q k A1) : WT B (tTest ta) ρ A Q := fun σ H Qv e w c =>
  h σ H _ e w fun v d A1 H1 w1 t1 r1 q1 => by
    obtain ⟨k, rfl, q⟩ := q1
    exact ⟨k, DT.blOf r1, c k A1 H1 w1 t1 q⟩
theorem wt_b (h : WE B ta ρ A fun x A1 => ∃ k, x = .bl k ∧ Q k A1) : WT B (tB ta) ρ A Q := fun σ H Qv e w c =>
  h σ H _ e w fun v d A1 H1 w1 t1 r1 q1 => by
    obtain ⟨k, rfl, q⟩ := q1
    exact ⟨k, DT.blOf r1, c k A1 H1 w1 t1 q⟩
theorem wt_and (h : WT B t ρ A fun b A1 => if b = true then WT B u ρ A1 Q else Q false A1) : WT B (tAnd t u) ρ A Q := fun σ H Qv e w c =>
  h σ H _ e w fun b A1 H1 w1 t1 q1 => by
    cases b with
    | true => exact q1 σ H1 Qv (e.up t1) w1 fun b A2 H2 w2 t2 q => c b A2 H2 w2 (t1.trans t2) q
    | false => exact c false A1 H1 w1 t1 q1
theorem wt_or (h : WT B t ρ A fun b A1 => if b = true then Q true A1 else WT B u ρ A1 Q) : WT B (tOr t u) ρ A Q := fun σ H Qv e w c =>
  h σ H _ e w fun b A1 H1 w1 t1 q1 => by
    cases b with
    | false => exact q1 σ H1 Qv (e.up t1) w1 fun b A2 H2 w2 t2 q => c b A2 H2 w2 (t1.trans t2) q
    | true => exact c true A1 H1 w1 t1 q1
theorem wt_not (h : WT B t ρ A fun b A1 => Q (!b) A1) : WT B (tNot t) ρ A Q := fun σ H Qv e w c =>
  h σ H _ e w fun b A1 H1 w1 t1 q1 => c _ A1 H1 w1 t1 q1
theorem wt_yes (h : Q true A) : WT B tYes ρ A Q := fun σ H Qv e w c => c true A H w (Tk.refl H) h
end
section
variable {B : Bd} {ρ : Rho} {A : Led} {Q : Vd → Led → Prop} {ta tb tc : TE} {r r' : R2}
theorem we_andV (h : WE B ta ρ A fun x A1 => ∃ k, x = .bl k ∧ if k = true then WE B tb ρ A1 Q else Q (.bl false) A1) : WE B (tAndV ta tb) ρ A Q := fun σ H Qv e w c =>
  h σ H _ e w fun v d A1 H1 w1 t1 r1 q1 => by
    obtain ⟨k, rfl, q⟩ := q1
    refine ⟨k, DT.blOf r1, ?_⟩
    cases k with
    | true => exact q σ H1 Qv (e.up t1) w1 (c.on t1)
    | false => exact c _ (.bl false) A1 H1 w1 t1 (DT.bl false) q
theorem we_orV (h : WE B ta ρ A fun x A1 => ∃ k, x = .bl k ∧ if k = true then Q (.bl true) A1 else WE B tb ρ A1 Q) : WE B (tOrV ta tb) ρ A Q := fun σ H Qv e w c =>
  h σ H _ e w fun v d A1 H1 w1 t1 r1 q1 => by
    obtain ⟨k, rfl, q⟩ := q1
    refine ⟨k, DT.blOf r1, ?_⟩
    cases k with
    | false => exact q σ H1 Qv (e.up t1) w1 (c.on t1)
    | true => exact c _ (.bl true) A1 H1 w1 t1 (DT.bl true) q
theorem we_notV (h : WE B ta ρ A fun x A1 => ∃ k, x = .bl k ∧ Q (.bl (!k)) A1) : WE B (tNotV ta) ρ A Q := fun σ H Qv e w c =>
  h σ H _ e w fun v d A1 H1 w1 t1 r1 q1 => by
    obtain ⟨k, rfl, q⟩ := q1
    exact ⟨k, DT.blOf r1, c _ (.bl (!k)) A1 H1 w1 t1 (DT.bl _) q⟩
theorem we_chain (h : WE B ta ρ A fun x A1 => WE B tb ρ A1 fun y A2 => RW B r x y A2 fun z A3 => ∃ k, z = .bl k ∧ if k = true then WE B tc ρ A3 fun z A4 => RW B r' y z A4 Q else Q (.bl false) A3) : WE B (tChain r r' ta tb tc) ρ A Q := fun σ H Qv e w c =>
  h σ H _ e w fun v d A1 H1 w1 t1 r1 q1 => q1 σ H1 _ (e.up t1) w1 fun u d2 A2 H2 w2 t2 r2 q2 => q2 v u H2 _ (r1.up t2) r2 w2 fun z d3 A3 H3 w3 t3 r3 q3 => by
    obtain ⟨k, rfl, q⟩ := q3
    refine ⟨k, DT.blOf r3, ?_⟩
    cases k with
    | true => exact q σ H3 _ (e.up (t1.trans (t2.trans t3))) w3 fun z d4 A4 H4 w4 t4 r4 q4 => q4 u z H4 Qv (r2.up (t3.trans t4)) r4 w4 (c.on (t1.trans (t2.trans (t3.trans t4))))
    | false => exact c _ (.bl false) A3 H3 w3 (t1.trans (t2.trans t3)) (DT.bl false) q
/-! operators -/
theorem rw_I0i {f : Int → Int → Int} {i j : Int} (k : Q (.int (f i j)) A) : RW B (rI0 fun i j => .int (f i j)) (.dat (.int i)) (.dat (.int j)) A Q := fun v u H Qv rv ru w c => ⟨i, j, DT.intOf rv, DT.intOf ru, c _ (.int _) A H w (Tk.refl H) (DT.int _) k⟩
theorem rw_I0b {f : Int → Int → Bool} {i j : Int} (k : Q (.bl (f i j)) A) : RW B (rI0 fun i j => .bl (f i j)) (.dat (.int i)) (.dat (.int j)) A Q := fun v u H Qv rv ru w c => ⟨i, j, DT.intOf rv, DT.intOf ru, c _ (.bl _) A H w (Tk.refl H) (DT.bl _) k⟩
theorem rw_Ii {C : Int → Int → Prop} {f : Int → Int → Int} {i j : Int} (h : C i j) (k : Q (.int (f i j)) A) : RW B (rI C fun i j => .int (f i j)) (.dat (.int i)) (.dat (.int j)) A Q := fun v u H Qv rv ru w c => ⟨i, j, DT.intOf rv, DT.intOf ru, h, c _ (.int _) A H w (Tk.refl H) (DT.int _) k⟩
theorem ru_i {f : Int → Int} {i : Int} (k : Q (.int (f i)) A) : RU B (rU fun i => .int (f i)) (.dat (.int i)) A Q := fun v H Qv rv w c => ⟨i, DT.intOf rv, c _ (.int _) A H w (Tk.refl H) (DT.int _) k⟩
theorem rw_eqi {i j : Int} (k : Q (.bl (decide (i = j))) A) : RW B rEq (.dat (.int i)) (.dat (.int j)) A Q := fun v u H Qv rv ru w c => by
  cases DT.intOf rv
  cases DT.intOf ru
  refine ⟨rfl, c _ (.bl (decide (i = j))) A H w (Tk.refl H) ?_ k⟩
  have e : decide (V.int i = V.int j) = decide (i = j) := by
    by_cases h : i = j
    · rw [h]; simp
    · rw [decide_eq_false h, decide_eq_false (fun z => h (V.int.inj z))]
  rw [e]
  exact DT.bl _
theorem rw_nei {i j : Int} (k : Q (.bl (!decide (i = j))) A) : RW B rNe (.dat (.int i)) (.dat (.int j)) A Q := fun v u H Qv rv ru w c => by
  cases DT.intOf rv
  cases DT.intOf ru
  refine ⟨rfl, c _ (.bl (!decide (i = j))) A H w (Tk.refl H) ?_ k⟩
  have e : decide (V.int i = V.int j) = decide (i = j) := by
    by_cases h : i = j
    · rw [h]; simp
    · rw [decide_eq_false h, decide_eq_false (fun z => h (V.int.inj z))]
  rw [e]
  exact DT.bl _
theorem rw_eqs {i j : Str} (k : Q (.bl (decide (i = j))) A) : RW B rEq (.dat (.str i)) (.dat (.str j)) A Q := fun v u H Qv rv ru w c => by
  cases DT.strOf rv
  cases DT.strOf ru
  refine ⟨rfl, c _ (.bl (decide (i = j))) A H w (Tk.refl H) ?_ k⟩
  have e : decide (V.str i = V.str j) = decide (i = j) := by
    by_cases h : i = j
    · rw [h]; simp
    · rw [decide_eq_false h, decide_eq_false (fun z => h (V.str.inj z))]
  rw [e]
  exact DT.bl _
theorem rw_nes {i j : Str} (k : Q (.bl (!decide (i = j))) A) : RW B rNe (.dat (.str i)) (.dat (.str j)) A Q := fun v u H Qv rv ru w c => by
  cases DT.strOf rv
  cases DT.strOf ru
  refine ⟨rfl, c _ (.bl (!decide (i = j))) A H w (Tk.refl H) ?_ k⟩
  have e : decide (V.str i = V.str j) = decide (i = j) := by
    by_cases h : i = j
    · rw [h]; simp
    · rw [decide_eq_false h, decide_eq_false (fun z => h (V.str.inj z))]
  rw [e]
  exact DT.bl _
theorem rw_ixT {ds : List PyData} {i : Int} {d : PyData} (h : atI ds i = some d) (k : Q (.dat d) A) : RW B (rIxT B.K) (.dat (.tuple ds)) (.dat (.int i)) A Q := fun v u H Qv rv ru w c => by
  cases DT.intOf ru
  exact r_ixT rv h fun v' d' => c _ (.dat d) A H w (Tk.refl H) d' k
theorem atI_of {α β : Type} {xs : List α} {ys : List β} {i : Int} {y : β} (hl : xs.length = ys.length) (h : atI ys i = some y) : ∃ k : Nat, ys[k]? = some y ∧ ∀ x, xs[k]? = some x → atI xs i = some x := by
  unfold atI at h ⊢
  rw [hl]
  cases z : ixN ys.length i with
  | none => rw [z] at h; cases h
  | some k =>
    rw [z] at h
    exact ⟨k, h, fun x hx => hx⟩
theorem rw_ixL {n : Nat} {p : Addr} {xs : List Vd} {i : Int} {d : Vd} (hk : A[n]? = some (p, .lst xs)) (h : atI xs i = some d) (k : Q d A) : RW B (rIxL B.K) (.ref p) (.dat (.int i)) A Q := fun v u H Qv rv ru w c => by
  cases DT.intOf ru
  obtain rfl : v = .ref p := rv
  obtain ⟨vs, h1, h2⟩ := w.at hk
  obtain ⟨j, hj, hx⟩ := atI_of (RVs.length h2) h
  obtain ⟨x, e1, e2⟩ := RVs.get h2 hj
  exact ⟨p, vs, i, x, rfl, rfl, SqL.of h1, hx x e1, c x d A H w (Tk.refl H) e2 k⟩
theorem rw_ixS {x : Str} {i : Int} {z : Nat} (hl : x.length ≤ sizeLine) (h : atI x.cps.toList i = some z) (k : Q (.str ⟨#[z]⟩) A) : RW B rIxS (.dat (.str x)) (.dat (.int i)) A Q := fun v u H Qv rv ru w c => by
  cases DT.intOf ru
  cases DT.strOf rv
  exact ⟨x, i, z, rfl, rfl, hl, h, c _ (.str _) A H w (Tk.refl H) (DT.str _) k⟩
theorem rw_catA {ds es : List PyData} (hl : ds.length + es.length ≤ 1000000) (k : Q (.dat (.tuple (ds ++ es))) A) : RW B (rCatA B.K) (.dat (.tuple ds)) (.dat (.tuple es)) A Q := fun v u H Qv rv ru w c => by
  have q : ∀ v' H', Same H H' → DT B.K H' v' (.tuple (ds ++ es)) → Qv v' H' := fun v' H' s' d' => c _ (.dat (.tuple (ds ++ es))) A H' (w.same s') (tk_same s') d' k
  obtain ⟨a, xs, rfl, hs, hx⟩ := DT.tupOf rv
  obtain ⟨b, ys, rfl, hs2, hy⟩ := DT.tupOf ru
  refine ⟨a, b, xs, ys, rfl, rfl, hs, hs2, ?_, fun e => ?_, fun _ e => ?_, fun _ _ p np => q _ _ (same_new np) (DT.new (hx.append hy) np)⟩
  · rw [hx.length, hy.length]
    exact Nat.le_of_lt (smallL hl)
  · subst e
    cases hx
    exact q _ _ (Same.refl H) (.tup hs2 hy)
  · subst e
    cases hy
    refine q _ _ (Same.refl H) ?_
    rw [List.append_nil]
    exact .tup hs hx
theorem rw_cat {m n : Nat} {p q : Addr} {xs ys : List Vd} (hp : A[m]? = some (p, .lst xs)) (hq : A[n]? = some (q, .lst ys)) (hl : xs.length + ys.length ≤ 1000000) (k : ∀ l, Q (.ref l) ((l, .lst (xs ++ ys)) :: A)) : RW B rCat (.ref p) (.ref q) A Q := fun v u H Qv rv ru w c => by
  obtain rfl : v = .ref p := rv
  obtain rfl : u = .ref q := ru
  obtain ⟨vs, h1, h2⟩ := w.at hp
  obtain ⟨us, h3, h4⟩ := w.at hq
  refine ⟨p, q, vs, us, rfl, rfl, h1, h3, by rw [RVs.length h2, RVs.length h4]; exact Nat.le_of_lt (smallL hl), fun l nl => ?_⟩
  exact c _ (.ref l) _ _ (w.laid nl (c := .lst (xs ++ ys)) ⟨_, upd_same, RVs.append (RVs.up h2 (tk_new nl)) (RVs.up h4 (tk_new nl))⟩) (tk_new nl) rfl (k l)
theorem rw_eqD {d e : PyData} (h1 : SeqAt.shaped d = true) (h2 : SeqAt.shaped e = true) (k : Q (.bl (PyData.eqv d e)) A) : RW B (rEqD B.K) (.dat d) (.dat e) A Q := fun v u H Qv rv ru w c =>
  ⟨d, e, DT.dp d v rv, DT.dp e u ru, h1, h2, c _ (.bl _) A H w (Tk.refl H) (DT.bl _) k⟩
theorem rw_neD {d e : PyData} (h1 : SeqAt.shaped d = true) (h2 : SeqAt.shaped e = true) (k : Q (.bl (!PyData.eqv d e)) A) : RW B (rNeD B.K) (.dat d) (.dat e) A Q := fun v u H Qv rv ru w c =>
  ⟨d, e, DT.dp d v rv, DT.dp e u ru, h1, h2, c _ (.bl _) A H w (Tk.refl H) (DT.bl _) k⟩
theorem dpl {K : PySem.W.Frag} {H : Hp} {p : Addr} {vs : List V} {ds : List PyData} (h : H p = some (.lst vs)) (r : RVs K H vs (dats ds)) : Dp K H (.ref p) (.list ds) := .lst (SqL.of h) (DTs.dp ds vs (RVs.dts r))
theorem rw_eqDl {m n : Nat} {p q : Addr} {ds es : List PyData} (hp : A[m]? = some (p, .lst (dats ds))) (hq : A[n]? = some (q, .lst (dats es))) (h1 : SeqAt.shaped (.list ds) = true) (h2 : SeqAt.shaped (.list es) = true) (k : Q (.bl (PyData.eqv (.list ds) (.list es))) A) : RW B (rEqD B.K) (.ref p) (.ref q) A Q := fun v u H Qv rv ru w c => by
  obtain rfl : v = .ref p := rv
  obtain rfl : u = .ref q := ru
  obtain ⟨vs, a1, a2⟩ := w.at hp
  obtain ⟨us, b1, b2⟩ := w.at hq
  exact ⟨.list ds, .list es, dpl a1 a2, dpl b1 b2, h1, h2, c _ (.bl _) A H w (Tk.refl H) (DT.bl _) k⟩
theorem rw_neDl {m n : Nat} {p q : Addr} {ds es : List PyData} (hp : A[m]? = some (p, .lst (dats ds))) (hq : A[n]? = some (q, .lst (dats es))) (h1 : SeqAt.shaped (.list ds) = true) (h2 : SeqAt.shaped (.list es) = true) (k : Q (.bl (!PyData.eqv (.list ds) (.list es))) A) : RW B (rNeD B.K) (.ref p) (.ref q) A Q := fun v u H Qv rv ru w c => by
  obtain rfl : v = .ref p := rv
  obtain rfl : u = .ref q := ru
  obtain ⟨vs, a1, a2⟩ := w.at hp
  obtain ⟨us, b1, b2⟩ := w.at hq
  exact ⟨.list ds, .list es, dpl a1 a2, dpl b1 b2, h1, h2, c _ (.bl _) A H w (Tk.refl H) (DT.bl _) k⟩
theorem rw_inDl {n : Nat} {q : Addr} {d : PyData} {es : List PyData} (hq : A[n]? = some (q, .lst (dats es))) (h1 : SeqAt.shaped d = true) (h2 : SeqAt.shaped (.list es) = true) (k : Q (.bl (es.any fun z => PyData.eqv z d)) A) : RW B (rInD B.K) (.dat d) (.ref q) A Q := fun v u H Qv rv ru w c => by
  obtain rfl : u = .ref q := ru
  obtain ⟨us, b1, b2⟩ := w.at hq
  exact ⟨d, es, DT.dp d v rv, dpl b1 b2, h1, h2, c _ (.bl _) A H w (Tk.refl H) (DT.bl _) k⟩
theorem rw_notInDl {n : Nat} {q : Addr} {d : PyData} {es : List PyData} (hq : A[n]? = some (q, .lst (dats es))) (h1 : SeqAt.shaped d = true) (h2 : SeqAt.shaped (.list es) = true) (k : Q (.bl (!es.any fun z => PyData.eqv z d)) A) : RW B (rNotInD B.K) (.dat d) (.ref q) A Q := fun v u H Qv rv ru w c => by
  obtain rfl : u = .ref q := ru
  obtain ⟨us, b1, b2⟩ := w.at hq
  exact ⟨d, es, DT.dp d v rv, dpl b1 b2, h1, h2, c _ (.bl _) A H w (Tk.refl H) (DT.bl _) k⟩
end
/-! ### statements -/
structure EndsD where
  nx : Rho → Led → Prop
  rt : Vd → Led → Prop
  bk : Rho → Led → Prop := fun _ _ => False
  ct : Rho → Led → Prop := fun _ _ => False
def RetS (B : Bd) (H : Hp) (N : Rho → Led → Prop) (Qs : L2.St → Hp → Prop) : Prop := ∀ σ' H' ρ' A', Tk H H' → REnv B.K H' σ' ρ' → Wd B A' H' → N ρ' A' → Qs σ' H'
structure EOk (B : Bd) (H : Hp) (E : Ends) (D : EndsD) : Prop where
  nx : RetS B H D.nx E.nx
  rt : Ret B H D.rt E.rt
  bk : RetS B H D.bk E.bk
  ct : RetS B H D.ct E.ct
theorem RetS.on {B : Bd} {H H' : Hp} {N : Rho → Led → Prop} {Qs : L2.St → Hp → Prop} (c : RetS B H N Qs) (t : Tk H H') : RetS B H' N Qs := fun σ H2 ρ A t2 e w q => c σ H2 ρ A (t.trans t2) e w q
theorem EOk.on {B : Bd} {H H' : Hp} {E : Ends} {D : EndsD} (c : EOk B H E D) (t : Tk H H') : EOk B H' E D := ⟨c.nx.on t, c.rt.on t, c.bk.on t, c.ct.on t⟩
def WS (B : Bd) (ts : TS) (ρ : Rho) (A : Led) (D : EndsD) : Prop := ∀ σ H (E : Ends), REnv B.K H σ ρ → Wd B A H → EOk B H E D → ts E σ H
def WG (B : Bd) (g : TG) (x : Vd) (ρ : Rho) (A : Led) (N : Rho → Led → Prop) : Prop := ∀ v σ H (Qs : L2.St → Hp → Prop), RV B.K H v x → REnv B.K H σ ρ → Wd B A H → RetS B H N Qs → g v σ H Qs
def WGs (B : Bd) (g : TGs) (xs : List Vd) (ρ : Rho) (A : Led) (N : Rho → Led → Prop) : Prop := ∀ vs σ H (Qs : L2.St → Hp → Prop), RVs B.K H vs xs → REnv B.K H σ ρ → Wd B A H → RetS B H N Qs → g vs σ H Qs
section
variable {B : Bd} {ρ : Rho} {A : Led} {D : EndsD} {N : Rho → Led → Prop} {ta tb : TE} {t u : TS} {c : TT} {g : TG} {gs : TGs} {x : Vd}
theorem ws_seq (h : WS B t ρ A { D with nx := fun ρ' A' => WS B u ρ' A' D }) : WS B (tSeq t u) ρ A D := fun σ H E e w k =>
  h σ H { E with nx := u E } e w ⟨fun σ' H' ρ' A' t' e' w' q => q σ' H' E e' w' (k.on t'), k.rt, k.bk, k.ct⟩
theorem ws_cut (M : Rho → Led → Prop) (h : WS B t ρ A { D with nx := M }) (h2 : ∀ ρ' A', M ρ' A' → WS B u ρ' A' D) : WS B (Evl.tCut t u) ρ A D := fun σ H E e w k =>
  ⟨fun σ' H' => ∃ ρ' A', Tk H H' ∧ REnv B.K H' σ' ρ' ∧ Wd B A' H' ∧ M ρ' A', h σ H _ e w ⟨fun σ' H' ρ' A' t' e' w' q => ⟨ρ', A', t', e', w', q⟩, k.rt, k.bk, k.ct⟩, fun σ' H' ⟨ρ', A', t', e', w', q⟩ => h2 ρ' A' q σ' H' E e' w' (k.on t')⟩
theorem ws_asg (h : WE B ta ρ A fun x A1 => WG B g x ρ A1 D.nx) : WS B (tAsg ta g) ρ A D := fun σ H E e w k =>
  h σ H _ e w fun v d A1 H1 w1 t1 r1 q1 => q1 v σ H1 E.nx r1 (e.up t1) w1 (k.nx.on t1)
theorem ws_drop (h : WE B ta ρ A fun _ A1 => D.nx ρ A1) : WS B (tDrop ta) ρ A D := fun σ H E e w k =>
  h σ H _ e w fun v d A1 H1 w1 t1 r1 q1 => k.nx σ H1 ρ A1 t1 (e.up t1) w1 q1
theorem ws_ret (h : WE B ta ρ A D.rt) : WS B (tRet ta) ρ A D := fun σ H E e w k => h σ H _ e w k.rt
theorem ws_retN (h : D.rt (.dat .none) A) : WS B tRetN ρ A D := fun σ H E e w k => k.rt _ (.dat .none) A H w (Tk.refl H) DT.non h
theorem ws_next (h : D.nx ρ A) : WS B tNext ρ A D := fun σ H E e w k => k.nx σ H ρ A (Tk.refl H) e w h
theorem ws_break (h : D.bk ρ A) : WS B tBreak ρ A D := fun σ H E e w k => k.bk σ H ρ A (Tk.refl H) e w h
theorem ws_cont (h : D.ct ρ A) : WS B tCont ρ A D := fun σ H E e w k => k.ct σ H ρ A (Tk.refl H) e w h
theorem ws_if (h : WT B c ρ A fun b A1 => if b = true then WS B t ρ A1 D else WS B u ρ A1 D) : WS B (tIfS c t u) ρ A D := fun σ H E e w k =>
  h σ H _ e w fun b A1 H1 w1 t1 q1 => by
    cases b with
    | true => exact q1 σ H1 E (e.up t1) w1 (k.on t1)
    | false => exact q1 σ H1 E (e.up t1) w1 (k.on t1)
theorem ws_par {i j : Nat} {ta : TA} (h : WA B ta ρ A fun ds A1 => ∃ d e, ds = [d, e] ∧ D.nx ((ρ.set i (some d)).set j (some e)) A1) : WS B (tPar i j ta) ρ A D := fun σ H E e w k =>
  h σ H _ e w fun vs ds A1 H1 w1 t1 r1 q1 => by
    obtain ⟨d, e2, rfl, q⟩ := q1
    cases r1 with
    | cons r1 r2 => cases r2 with
      | cons r2 r3 => cases r3; exact ⟨_, _, rfl, k.nx _ H1 _ A1 t1 (((e.up t1).set i r1).set j r2) w1 q⟩
theorem ws_par3 {i j l : Nat} {ta : TA} (h : WA B ta ρ A fun ds A1 => ∃ d e f, ds = [d, e, f] ∧ D.nx (((ρ.set i (some d)).set j (some e)).set l (some f)) A1) : WS B (tPar3 i j l ta) ρ A D := fun σ H E e w k =>
  h σ H _ e w fun vs ds A1 H1 w1 t1 r1 q1 => by
    obtain ⟨d, e2, f, rfl, q⟩ := q1
    cases r1 with
    | cons r1 r2 => cases r2 with
      | cons r2 r3 => cases r3 with
        | cons r3 r4 => cases r4; exact ⟨_, _, _, rfl, k.nx _ H1 _ A1 t1 ((((e.up t1).set i r1).set j r2).set l r3) w1 q⟩
theorem wg_name {i : Nat} (h : N (ρ.set i (some x)) A) : WG B (gName i) x ρ A N := fun v σ H Qs r e w k => k _ H _ A (Tk.refl H) (e.set i r) w h
theorem wgs_nil (h : N ρ A) : WGs B gNil [] ρ A N := fun vs σ H Qs r e w k => by
  cases r
  exact ⟨rfl, k _ H _ A (Tk.refl H) e w h⟩
theorem wgs_cons {xs : List Vd} (h : WG B g x ρ A fun ρ' A' => WGs B gs xs ρ' A' N) : WGs B (gCons g gs) (x :: xs) ρ A N := fun vs σ H Qs r e w k => by
  cases r with
  | cons r rs => exact ⟨_, _, rfl, h _ σ H _ r e w fun σ' H' ρ' A' t' e' w' q => q _ σ' H' Qs (RVs.up rs t') e' w' (k.on t')⟩
theorem wg_tup {n : Nat} {ds : List PyData} (hl : ds.length = n) (h : WGs B gs (dats ds) ρ A N) : WG B (gTup B.K n gs) (.dat (.tuple ds)) ρ A N := fun v σ H Qs r e w k => by
  obtain ⟨a, xs, rfl, hs, hx⟩ := DT.tupOf r
  exact ⟨a, xs, rfl, hs, by rw [hx.length]; exact hl, h xs σ H Qs hx.rvs e w k⟩
theorem wg_setL {to ti : TE} (h : WE B to ρ A fun o A1 => WE B ti ρ A1 fun i A2 => ∃ n p xs k j, o = .ref p ∧ i = .int k ∧ A2[n]? = some (p, .lst xs) ∧ ixN xs.length k = some j ∧ N ρ (A2.set n (p, .lst (xs.set j x)))) : WG B (gSub to ti rSetL) x ρ A N := fun v σ H Qs r e w c =>
  h σ H _ e w fun o d A1 H1 w1 t1 r1 q1 => q1 σ H1 _ (e.up t1) w1 fun i d2 A2 H2 w2 t2 r2 q2 => by
    obtain ⟨n, p, xs, k, j, rfl, rfl, hn, hj, q⟩ := q2
    obtain rfl : o = .ref p := r1
    cases DT.intOf r2
    obtain ⟨vs, h1, h2⟩ := w2.at hn
    have tk := tk_mut (o' := HO.lst (vs.set j v)) h1 trivial
    refine ⟨p, vs, k, j, rfl, rfl, h1, by rw [RVs.length h2]; exact hj, c _ _ ρ _ ((t1.trans t2).trans tk) (e.up ((t1.trans t2).trans tk)) (w2.set hn (c' := .lst (xs.set j x)) ⟨_, upd_same, RVs.set ((r.up (t1.trans t2)).up tk) j (RVs.up h2 tk)⟩) q⟩
end
/-! ### what a loop walks -/
structure WkD (B : Bd) (H1 : Hp) (J : It) (n : Nat) (G : Led → Prop) (Y : Nat → Vd) : Prop where
  goes : ∀ i A H, i < n → Wd B A H → Tk H1 H → G A → J.go i H
  stops : ∀ A H, Wd B A H → Tk H1 H → G A → J.stop n H
  yields : ∀ i A H x H', i < n → Wd B A H → Tk H1 H → G A → J.yld i H x H' → Same H H' ∧ RV B.K H' x (Y i)
def WI (B : Bd) (wi : TI) (ρ : Rho) (A : Led) (R : Nat → (Led → Prop) → (Nat → Vd) → Led → Prop) : Prop := ∀ σ H (Rv : It → Hp → Prop), REnv B.K H σ ρ → Wd B A H →
  (∀ J n G Y A' H', Wd B A' H' → Tk H H' → (∀ B2 : Bd, B2.K = B.K → WkD B2 H' J n G Y) → R n G Y A' → Rv J H') → wi σ H Rv
section
variable {B : Bd} {ρ : Rho} {A : Led} {D : EndsD} {wi : TI} {g : TG} {tb : TS}
theorem ws_for (h : WI B wi ρ A fun n G Y A1 => ∃ I : Nat → Rho → Led → Prop, I 0 ρ A1 ∧ (∀ i ρ' A', i ≤ n → I i ρ' A' → G A') ∧
    (∀ i ρ' A', i < n → I i ρ' A' → WG B g (Y i) ρ' A' fun ρ2 A2 => WS B tb ρ2 A2 { nx := I (i + 1), rt := D.rt, ct := I (i + 1), bk := D.nx }) ∧ ∀ ρ' A', I n ρ' A' → D.nx ρ' A') : WS B (tFor wi g tb) ρ A D := fun σ H E e w k =>
  h σ H _ e w fun J n G Y A1 H1 w1 t1 wk ⟨I, h0, hG, hs, hd⟩ => by
    have wk := wk B rfl
    refine ⟨fun i m σ' H' => m = n - i ∧ i ≤ n ∧ ∃ ρ' A', REnv B.K H' σ' ρ' ∧ Wd B A' H' ∧ Tk H1 H' ∧ I i ρ' A', ⟨n, rfl, Nat.zero_le _, ρ, A1, e.up t1, w1, Tk.refl H1, h0⟩, ?_⟩
    rintro i m σ' H' ⟨rfl, hi, ρ', A', e', w', t', q⟩
    have hg := hG i ρ' A' hi q
    by_cases hlt : i < n
    · refine .inr ⟨wk.goes i A' H' hlt w' t' hg, fun σ2 H2 => ∃ ρ2 A2, REnv B.K H2 σ2 ρ2 ∧ Wd B A2 H2 ∧ Tk H1 H2 ∧ I (i + 1) ρ2 A2, fun σ2 H2 q2 => ⟨n - (i + 1), by omega, rfl, hlt, q2⟩, fun x H2 y => ?_⟩
      obtain ⟨s2, r2⟩ := wk.yields i A' H' x H2 hlt w' t' hg y
      refine hs i ρ' A' hlt q x σ' H2 _ r2 (e'.up (tk_same s2)) (w'.same s2) fun σ3 H3 ρ3 A3 t3 e3 w3 q3 => q3 σ3 H3 _ e3 w3 ?_
      have t13 : Tk H1 H3 := (t'.trans (tk_same s2)).trans t3
      exact ⟨fun σ4 H4 ρ4 A4 t4 e4 w4 q4 => ⟨ρ4, A4, e4, w4, t13.trans t4, q4⟩, k.rt.on (t1.trans t13), k.nx.on (t1.trans t13), fun σ4 H4 ρ4 A4 t4 e4 w4 q4 => ⟨ρ4, A4, e4, w4, t13.trans t4, q4⟩⟩
    · have z : i = n := by omega
      subst z
      exact .inl ⟨wk.stops A' H' w' t' hg, k.nx σ' H' ρ' A' (t1.trans t') e' w' (hd ρ' A' q)⟩
theorem wi_rng1 {ta : TA} {R : Nat → (Led → Prop) → (Nat → Vd) → Led → Prop} (h : WA B ta ρ A fun ds A1 => ∃ j : Int, ds = [.int j] ∧ -(2 ^ 62) ≤ j ∧ j < 2 ^ 62 ∧ R j.toNat (fun _ => True) (fun i => .int (0 + (i : Int))) A1) : WI B (iRng1 ta) ρ A R := fun σ H Rv e w k =>
  h σ H _ e w fun vs ds A1 H1 w1 t1 r1 q1 => by
    obtain ⟨j, rfl, h1, h2, q⟩ := q1
    cases r1 with
    | cons r rs =>
      cases rs
      cases DT.intOf r
      exact ⟨j, rfl, h1, h2, k _ _ _ _ A1 H1 w1 t1 (fun B2 _ => ⟨fun i A H hi _ _ _ => hi, fun A H _ _ _ => Nat.le_refl _, fun i A H x H' _ _ _ _ y => by
        obtain ⟨rfl, rfl⟩ := y
        exact ⟨Same.refl _, DT.int _⟩⟩) q⟩
theorem wi_rng2 {ta : TA} {R : Nat → (Led → Prop) → (Nat → Vd) → Led → Prop} (h : WA B ta ρ A fun ds A1 => ∃ i j : Int, ds = [.int i, .int j] ∧ (-(2 ^ 62) ≤ i ∧ i < 2 ^ 62 ∧ -(2 ^ 62) ≤ j ∧ j < 2 ^ 62) ∧ R (j - i).toNat (fun _ => True) (fun k => .int (i + (k : Int))) A1) : WI B (iRng2 ta) ρ A R := fun σ H Rv e w k =>
  h σ H _ e w fun vs ds A1 H1 w1 t1 r1 q1 => by
    obtain ⟨i, j, rfl, h1, q⟩ := q1
    cases r1 with
    | cons r rs => cases rs with
      | cons r2 rs =>
        cases rs
        cases DT.intOf r
        cases DT.intOf r2
        exact ⟨i, j, rfl, h1, k _ _ _ _ A1 H1 w1 t1 (fun B2 _ => ⟨fun i A H hi _ _ _ => hi, fun A H _ _ _ => Nat.le_refl _, fun i A H x H' _ _ _ _ y => by
          obtain ⟨rfl, rfl⟩ := y
          exact ⟨Same.refl _, DT.int _⟩⟩) q⟩
theorem wi_tup {te : TE} {R : Nat → (Led → Prop) → (Nat → Vd) → Led → Prop} (h : WE B te ρ A fun d A1 => ∃ ds, d = .dat (.tuple ds) ∧ R ds.length (fun _ => True) (fun i => .dat (ds.getD i .none)) A1) : WI B (iTup B.K te) ρ A R := fun σ H Rv e w k =>
  h σ H _ e w fun v d A1 H1 w1 t1 r1 q1 => by
    obtain ⟨ds, rfl, q⟩ := q1
    obtain ⟨a, xs, rfl, hs, hx⟩ := DT.tupOf r1
    refine ⟨a, rfl, ⟨xs, hs⟩, k _ _ _ _ A1 H1 w1 t1 (fun B2 eK => ?_) q⟩
    have hl := hx.length
    refine ⟨fun i A H hi _ t _ => ⟨xs, xs[i]'(by omega), tk_seq t hs, by simp [hl, hi]⟩, fun A H _ t _ => ⟨xs, tk_seq t hs, by omega⟩, fun i A H x H' hi _ t _ y => ?_⟩
    obtain ⟨rfl, y⟩ := y
    obtain ⟨d, hd, hdt⟩ := (hx.up t).getV (y xs (tk_seq t hs))
    refine ⟨Same.refl _, ?_⟩
    rw [List.getD_eq_getElem?_getD, hd, eK]
    exact hdt
/-- over a list that the body leaves as it is -/
theorem wi_list {te : TE} {R : Nat → (Led → Prop) → (Nat → Vd) → Led → Prop} (h : WE B te ρ A fun d A1 => ∃ p xs, d = .ref p ∧ (p, .lst xs) ∈ A1 ∧ R xs.length (fun A => (p, Cell.lst xs) ∈ A) (fun i => xs.getD i (.dat .none)) A1) : WI B (iList B.K te) ρ A R := fun σ H Rv e w k =>
  h σ H _ e w fun v d A1 H1 w1 t1 r1 q1 => by
    obtain ⟨p, xs, rfl, hp, q⟩ := q1
    obtain rfl : v = .ref p := r1
    obtain ⟨vs, h1, h2⟩ := w1.led.has _ hp
    refine ⟨p, rfl, ⟨vs, SqL.of h1⟩, k _ _ _ _ A1 H1 w1 t1 (fun B2 eK => ⟨fun i A H hi w _ hA => ?_, fun A H w _ hA => ?_, fun i A H x H' hi w _ hA y => ?_⟩) q⟩
    · obtain ⟨us, h3, h4⟩ := w.led.has _ hA
      have hl := RVs.length h4
      exact ⟨us, us[i]'(by omega), SqL.of h3, by simp [hl, hi]⟩
    · obtain ⟨us, h3, h4⟩ := w.led.has _ hA
      have hl := RVs.length h4
      exact ⟨us, SqL.of h3, by omega⟩
    · obtain ⟨us, h3, h4⟩ := w.led.has _ hA
      obtain ⟨rfl, y⟩ := y
      obtain ⟨d, hd, hdt⟩ := RVs.getV h4 (y us (SqL.of h3))
      refine ⟨Same.refl _, ?_⟩
      rw [List.getD_eq_getElem?_getD, hd]
      exact hdt
theorem pair_new {K : PySem.W.Frag} {H : Hp} {T : Addr} {x y : V} {d e : PyData} (n : H T = none) (h1 : DT K H x d) (h2 : DT K H y e) : DT K (upd H T (.tup [x, y])) (.ref T) (.tuple [d, e]) := DT.new (.cons h1 (.cons h2 .nil)) n
theorem wi_enum {ta : TA} {R : Nat → (Led → Prop) → (Nat → Vd) → Led → Prop} (h : WA B ta ρ A fun ds A1 => ∃ p xs, ds = [.ref p] ∧ (p, .lst (dats xs)) ∈ A1 ∧ R xs.length (fun A => (p, Cell.lst (dats xs)) ∈ A) (fun i => .dat (.tuple [.int (i : Nat), xs.getD i .none])) A1) : WI B (iEnum B.K ta) ρ A R := fun σ H Rv e w k =>
  h σ H _ e w fun v d A1 H1 w1 t1 r1 q1 => by
    obtain ⟨p, xs, rfl, hp, q⟩ := q1
    cases r1 with
    | cons r rs =>
      cases rs
      obtain rfl := r
      obtain ⟨vs, h1, h2⟩ := w1.led.has _ hp
      refine ⟨p, vs, rfl, SqL.of h1, k _ _ _ _ A1 H1 w1 t1 (fun B2 eK => ⟨fun i A H hi w _ hA => ?_, fun A H w _ hA => ?_, fun i A H x H' hi w _ hA y => ?_⟩) q⟩
      · obtain ⟨us, h3, h4⟩ := w.led.has _ hA
        have hl := (RVs.dts h4).length
        exact ⟨us, us[i]'(by omega), SqL.of h3, by simp [hl, hi]⟩
      · obtain ⟨us, h3, h4⟩ := w.led.has _ hA
        have hl := (RVs.dts h4).length
        exact ⟨us, SqL.of h3, by omega⟩
      · obtain ⟨us, h3, h4⟩ := w.led.has _ hA
        obtain ⟨T, x1, rfl, nT, rfl, y⟩ := y
        obtain ⟨d, hd, hdt⟩ := (RVs.dts h4).getV (y us (SqL.of h3))
        refine ⟨same_new nT, ?_⟩
        rw [List.getD_eq_getElem?_getD, hd]
        exact pair_new nT (.int _) hdt
theorem wi_str {te : TE} {R : Nat → (Led → Prop) → (Nat → Vd) → Led → Prop} (h : WE B te ρ A fun d A1 => ∃ x : Str, d = .str x ∧ R x.cps.size (fun _ => True) (fun i => .str ⟨#[x.cps.getD i 0]⟩) A1) : WI B (iStr te) ρ A R := fun σ H Rv e w k =>
  h σ H _ e w fun v d A1 H1 w1 t1 r1 q1 => by
    obtain ⟨x, rfl, q⟩ := q1
    cases DT.strOf r1
    refine ⟨x, rfl, k _ _ _ _ A1 H1 w1 t1 (fun B2 eK => ⟨fun i A H hi _ _ _ => hi, fun A H _ _ _ => Nat.le_refl _, fun i A H v H' hi _ _ _ y => ?_⟩) q⟩
    obtain ⟨rfl, c, hc, rfl⟩ := y
    refine ⟨Same.refl _, ?_⟩
    have e1 : x.cps.getD i 0 = c := by
      rw [Array.getD_eq_getD_getElem?, hc]
      rfl
    rw [e1]
    exact DT.str _
end
/-! ### comprehensions -/
def wipeR (ρ : Rho) : List Nat → Rho
  | [] => ρ
  | v :: vs => (wipeR ρ vs).set v none
theorem wipe_set {σ : L2.St} {i : Nat} {v : Option V} : ∀ {vs : List Nat}, i ∈ vs → wipe (σ.set i v) vs = wipe σ vs
  | [], h => by cases h
  | j :: vs, h => by
    unfold wipe
    by_cases e : i ∈ vs
    · rw [wipe_set e]
    · have z : i = j := by
        rcases List.mem_cons.mp h with z | z
        · exact z
        · exact absurd z e
      subst z
      refine List.ext_getElem? fun k => ?_
      rw [List.getElem?_set, List.getElem?_set]
      by_cases hk : i = k
      · rw [if_pos hk, if_pos hk, wipe_length, wipe_length, List.length_set]
      · rw [if_neg hk, if_neg hk]
        by_cases hkv : k ∈ vs
        · rw [wipe_in hkv, wipe_in hkv, List.length_set]
        · rw [wipe_out hkv, wipe_out hkv, List.getElem?_set, if_neg hk]
where
  wipe_in {σ : L2.St} {k : Nat} : ∀ {vs : List Nat}, k ∈ vs → (wipe σ vs)[k]? = if k < σ.length then some none else none
    | [], h => by cases h
    | j :: vs, h => by
      unfold wipe
      rw [List.getElem?_set, wipe_length]
      by_cases e : j = k
      · subst e
        rw [if_pos rfl]
        try rfl
      · rw [if_neg e]
        rcases List.mem_cons.mp h with z | z
        · exact absurd z.symm e
        · exact wipe_in z
theorem wipe_wipe {σ : L2.St} : ∀ {vs : List Nat}, wipe (wipe σ vs) vs = wipe σ vs := by
  have key : ∀ (us vs : List Nat) (σ : L2.St), (∀ u ∈ us, u ∈ vs) → wipe (wipe σ us) vs = wipe σ vs := by
    intro us
    induction us with
    | nil => intro vs σ _; rfl
    | cons u us ih =>
      intro vs σ h
      show wipe ((wipe σ us).set u none) vs = _
      rw [wipe_set (h u (by simp)), ih vs σ fun z hz => h z (by simp [hz])]
  intro vs
  exact key vs vs σ fun _ h => h
theorem REnv.unset {K : PySem.W.Frag} {H : Hp} {σ : L2.St} {ρ : Rho} (i : Nat) (e : REnv K H σ ρ) : REnv K H (σ.set i none) (ρ.set i none) := by
  refine ⟨by rw [List.length_set, List.length_set, e.len], fun j u h => ?_⟩
  rw [List.getElem?_set] at h ⊢
  split at h
  · split at h
    · cases h
    · cases h
  · rename_i z
    rw [if_neg z]
    exact e.get j u h
theorem REnv.wipe {K : PySem.W.Frag} {H : Hp} {σ : L2.St} {ρ : Rho} (e : REnv K H σ ρ) : ∀ vs : List Nat, REnv K H (L2.wipe σ vs) (wipeR ρ vs)
  | [] => e
  | v :: vs => (e.wipe vs).unset v
/-- a comprehension's target stores in its own slots alone -/
def Own (g : TG) (vs : List Nat) : Prop := ∀ v σ H (Q Q' : L2.St → Hp → Prop), (∀ σ' H', L2.wipe σ' vs = L2.wipe σ vs → Q σ' H' → Q' σ' H') → g v σ H Q → g v σ H Q'
def OwnS (g : TGs) (vs : List Nat) : Prop := ∀ us σ H (Q Q' : L2.St → Hp → Prop), (∀ σ' H', L2.wipe σ' vs = L2.wipe σ vs → Q σ' H' → Q' σ' H') → g us σ H Q → g us σ H Q'
theorem own_name {i : Nat} {vs : List Nat} (h : i ∈ vs) : Own (gName i) vs := fun v σ H Q Q' k q => k _ _ (wipe_set h) q
theorem own_nil {vs : List Nat} : OwnS gNil vs := fun us σ H Q Q' k q => ⟨q.1, k _ _ rfl q.2⟩
theorem own_cons {g : TG} {gs : TGs} {vs : List Nat} (h1 : Own g vs) (h2 : OwnS gs vs) : OwnS (gCons g gs) vs := fun us σ H Q Q' k ⟨v, r, e, q⟩ => ⟨v, r, e, h1 v σ H _ _ (fun σ1 H1 w1 q1 => h2 r σ1 H1 Q Q' (fun σ2 H2 w2 q2 => k σ2 H2 (w2.trans w1) q2) q1) q⟩
theorem own_tup {K : PySem.W.Frag} {n : Nat} {gs : TGs} {vs : List Nat} (h : OwnS gs vs) : Own (gTup K n gs) vs := fun v σ H Q Q' k ⟨a, xs, e, h1, h2, q⟩ => ⟨a, xs, e, h1, h2, h xs σ H Q Q' k q⟩
section
variable {B : Bd} {ρ : Rho} {A : Led} {Q : Vd → Led → Prop} {wi : TI} {g : TG} {tt : TT} {te : TE} {vs : List Nat}
/-- [te for g in wi if tt]: I by the turn, what is made so far, the ledger -/
theorem we_lc (own : Own g vs) (h : WI B wi ρ A fun n G Y A1 => ∃ I : Nat → List Vd → Led → Prop, n ≤ 1000000 ∧ I 0 [] A1 ∧ (∀ i acc A', i ≤ n → I i acc A' → G A' ∧ acc.length ≤ i) ∧
    (∀ i acc A', i < n → I i acc A' → ∀ H0 X, WG ⟨B.K, H0, X⟩ g (Y i) (wipeR ρ vs) A' fun ρ2 A2 => WT ⟨B.K, H0, X⟩ tt ρ2 A2 fun b A3 => if b = true then WE ⟨B.K, H0, X⟩ te ρ2 A3 fun y A4 => I (i + 1) (acc ++ [y]) A4 else I (i + 1) acc A3) ∧
    ∀ acc A', I n acc A' → ∀ p, Q (.ref p) ((p, .lst acc) :: A')) : WE B (tLc wi g tt te vs) ρ A Q := fun σ H Qv e w k =>
  h σ H _ e w fun J n G Y A1 H1 w1 t1 wk ⟨I, hn, h0, hG, hs, hd⟩ D nD => by
    have hDX : D ∉ B.X := w1.notX nD
    have hD0 : B.H0 D = none := w1.free nD
    refine ⟨fun i m H' => m = n - i ∧ i ≤ n ∧ ∃ acc A', Wd B ((D, .lst acc) :: A') H' ∧ Tk H1 H' ∧ I i acc A', ⟨n, rfl, Nat.zero_le _, [], A1, w1.laid nD ⟨[], upd_same, .nil⟩, tk_new nD, h0⟩, ?_⟩
    rintro i m H' ⟨rfl, hi, acc, A', w', t', q⟩
    obtain ⟨hg, hacc⟩ := hG i acc A' hi q
    have wA : Wd B A' H' := w'.sub (List.sublist_cons_self _ _)
    by_cases hlt : i < n
    · refine .inr ⟨(wk B rfl).goes i A' H' hlt wA t' hg, fun H2 => ∃ acc A', Wd B ((D, .lst acc) :: A') H2 ∧ Tk H1 H2 ∧ I (i + 1) acc A', fun H2 q2 => ⟨n - (i + 1), by omega, rfl, hlt, q2⟩, fun x H2 y => ?_⟩
      obtain ⟨s2, r2⟩ := (wk B rfl).yields i A' H' x H2 hlt wA t' hg y
      obtain ⟨vacc, hv1, hv2⟩ := w'.led.has (D, .lst acc) (by simp)
      -- the new list hidden in what stood ahead
      have hH : ∀ a o, a ∉ B.X → (fun a => if a = D then some (HO.lst vacc) else B.H0 a) a = some o → H2 a = some o := fun a o na ha => by
        dsimp only at ha
        split at ha
        · rename_i z
          subst z
          cases ha
          exact s2 _ _ hv1
        · exact s2 _ _ (w'.fr a o na ha)
      have w2 : Wd ⟨B.K, fun a => if a = D then some (HO.lst vacc) else B.H0 a, B.X⟩ A' H2 := by
        refine ⟨(wA.same s2).led, hH, fun p hp => ?_, (wA.same s2).ex⟩
        have ne : p.1 ≠ D := fun z => (List.nodup_cons.mp w'.led.nd).1 (List.mem_map.mpr ⟨p, hp, z⟩)
        rcases wA.new p hp with z | z
        · exact .inl z
        · right
          show (if p.1 = D then _ else _) = none
          rw [if_neg ne]
          exact z
      have back : ∀ {H3 : Hp} {A3 : Led}, Wd ⟨B.K, fun a => if a = D then some (HO.lst vacc) else B.H0 a, B.X⟩ A3 H3 → Tk H2 H3 → Wd B ((D, .lst acc) :: A3) H3 ∧ H3 D = some (.lst vacc) ∧ RVs B.K H3 vacc acc := fun {H3 A3} w3 t3 => by
        have hD3 : H3 D = some (.lst vacc) := w3.fr D _ hDX (by show (if D = D then _ else _) = _; rw [if_pos rfl])
        have rv : RVs B.K H3 vacc acc := RVs.up hv2 ((tk_same s2).trans t3)
        refine ⟨⟨⟨fun p hp => ?_, ?_⟩, fun a o na ha => ?_, fun p hp => ?_, w3.ex⟩, hD3, rv⟩
        · rcases List.mem_cons.mp hp with rfl | hp
          · exact ⟨vacc, hD3, rv⟩
          · exact w3.led.has p hp
        · refine List.nodup_cons.mpr ⟨fun z => ?_, w3.led.nd⟩
          obtain ⟨p, hp, z⟩ := List.mem_map.mp z
          have z' : p.1 = D := z
          rcases w3.new p hp with q | q
          · rw [z'] at q; exact hDX q
          · have q' : (if p.1 = D then some (HO.lst vacc) else B.H0 p.1) = none := q
            rw [if_pos z'] at q'
            cases q'
        · have ne : a ≠ D := fun z => by rw [z, hD0] at ha; cases ha
          exact w3.fr a o na (by show (if a = D then _ else _) = _; rw [if_neg ne]; exact ha)
        · rcases List.mem_cons.mp hp with rfl | hp
          · exact .inr hD0
          · rcases w3.new p hp with q | q
            · exact .inl q
            · right
              have q' : (if p.1 = D then some (HO.lst vacc) else B.H0 p.1) = none := q
              split at q'
              · cases q'
              · exact q'
      refine own x (L2.wipe σ vs) H2 _ _ (fun σ3 H3 hw q3 => And.intro (hw.trans wipe_wipe) q3) ?_
      refine hs i acc A' hlt q (fun a => if a = D then some (HO.lst vacc) else B.H0 a) B.X x (L2.wipe σ vs) H2 _ r2 ((e.up (t1.trans (t'.trans (tk_same s2)))).wipe vs) w2 fun σ3 H3 ρ3 A3 t3 e3 w3 q3 => ?_
      refine q3 σ3 H3 _ e3 w3 fun b A4 H4 w4 t4 q4 => ?_
      have t14 : Tk H1 H4 := ((t'.trans (tk_same s2)).trans t3).trans t4
      cases b with
      | true =>
        refine q4 σ3 H4 _ (e3.up t4) w4 fun y d A5 H5 w5 t5 r5 q5 => ?_
        obtain ⟨w6, h6, rv6⟩ := back w5 ((t3.trans t4).trans t5)
        refine ⟨vacc, h6, ?_, acc ++ [d], A5, ?_, (t14.trans t5).trans (tk_set h6), q5⟩
        · rw [RVs.length hv2]
          exact smallL (by omega)
        · exact w6.set (k := 0) rfl (c' := .lst (acc ++ [d])) ⟨_, upd_same, RVs.append (RVs.up rv6 (tk_set h6)) (.cons (r5.up (tk_set h6)) .nil)⟩
      | false =>
        obtain ⟨w6, h6, rv6⟩ := back w4 (t3.trans t4)
        exact ⟨acc, A4, w6, t14, q4⟩
    · have z : i = n := by omega
      subst z
      exact .inl ⟨(wk B rfl).stops A' H' wA t' hg, k _ (.ref D) _ H' w' (t1.trans t') rfl (hd acc A' q D)⟩
end
section
variable {B : Bd} {ρ : Rho} {A : Led} {Q : Vd → Led → Prop} {wi : TI} {g : TG} {tt : TT} {te : TE} {vs : List Nat}
/-- .. where nothing but data is made: f i at turn i -/
theorem we_lcP (own : Own g vs) (h : WI B wi ρ A fun n G Y A0 => ∃ f : Nat → Vd, n ≤ 1000000 ∧ G A0 ∧
    (∀ i, i < n → ∀ H0 X, WG ⟨B.K, H0, X⟩ g (Y i) (wipeR ρ vs) A0 fun ρ2 A2 => WE ⟨B.K, H0, X⟩ te ρ2 A2 fun y A4 => y = f i ∧ A4 = A0) ∧
    ∀ p, Q (.ref p) ((p, .lst ((List.range n).map f)) :: A0)) : WE B (tLc wi g tYes te vs) ρ A Q :=
  we_lc own fun σ H Rv e w k => h σ H Rv e w fun J n G Y A0 H1 w1 t1 wk ⟨f, hn, hg, hs, hd⟩ => k J n G Y A0 H1 w1 t1 wk ⟨fun i acc A' => acc = (List.range i).map f ∧ A' = A0, hn, ⟨rfl, rfl⟩, fun i acc A' _ ⟨e2, e3⟩ => ⟨by rw [e3]; exact hg, by rw [e2, List.length_map, List.length_range]; exact Nat.le_refl _⟩, fun i acc A' hi ⟨e2, e3⟩ H0 X => by
    subst e2 e3
    intro v σ2 H2 Qs rv re wd ret
    refine hs i hi H0 X v σ2 H2 Qs rv re wd fun σ3 H3 ρ3 A3 t3 e3 w3 q3 => ret σ3 H3 ρ3 A3 t3 e3 w3 (wt_yes ?_)
    refine we_mono q3 fun y A4 ⟨z1, z2⟩ => ⟨?_, z2⟩
    rw [List.range_succ, List.map_append, z1]
    rfl, fun acc A' ⟨e2, e3⟩ p => by rw [e2, e3]; exact hd p⟩
/-- .. with a test: b i, f i at turn i -/
theorem we_lcF (own : Own g vs) (h : WI B wi ρ A fun n G Y A0 => ∃ (b : Nat → Bool) (f : Nat → Vd), n ≤ 1000000 ∧ G A0 ∧
    (∀ i, i < n → ∀ H0 X, WG ⟨B.K, H0, X⟩ g (Y i) (wipeR ρ vs) A0 fun ρ2 A2 => WT ⟨B.K, H0, X⟩ tt ρ2 A2 fun c A3 => c = b i ∧ A3 = A0 ∧ (c = true → WE ⟨B.K, H0, X⟩ te ρ2 A3 fun y A4 => y = f i ∧ A4 = A0)) ∧
    ∀ p, Q (.ref p) ((p, .lst (((List.range n).filter b).map f)) :: A0)) : WE B (tLc wi g tt te vs) ρ A Q :=
  we_lc own fun σ H Rv e w k => h σ H Rv e w fun J n G Y A0 H1 w1 t1 wk ⟨b, f, hn, hg, hs, hd⟩ => k J n G Y A0 H1 w1 t1 wk ⟨fun i acc A' => acc = ((List.range i).filter b).map f ∧ A' = A0, hn, ⟨rfl, rfl⟩, fun i acc A' _ ⟨e2, e3⟩ => ⟨by rw [e3]; exact hg, by
    rw [e2, List.length_map]
    refine Nat.le_trans (List.length_filter_le _ _) ?_
    rw [List.length_range]
    exact Nat.le_refl _⟩, fun i acc A' hi ⟨e2, e3⟩ H0 X => by
    subst e2 e3
    intro v σ2 H2 Qs rv re wd ret
    refine hs i hi H0 X v σ2 H2 Qs rv re wd fun σ3 H3 ρ3 A3 t3 e3 w3 q3 => ret σ3 H3 ρ3 A3 t3 e3 w3 fun σ4 H4 Qv4 re4 wd4 ret4 => q3 σ4 H4 Qv4 re4 wd4 fun c A5 H5 w5 t5 ⟨z1, z2, z3⟩ => ret4 c A5 H5 w5 t5 ?_
    cases c with
    | true =>
      rw [if_pos rfl]
      refine we_mono (z3 rfl) fun y A4 ⟨y1, y2⟩ => ⟨?_, y2⟩
      rw [List.range_succ, List.filter_append, List.map_append, y1]
      simp [← z1]
    | false =>
      rw [if_neg (by simp)]
      refine ⟨?_, z2⟩
      rw [List.range_succ, List.filter_append, List.map_append]
      simp [← z1], fun acc A' ⟨e2, e3⟩ p => by rw [e2, e3]; exact hd p⟩
end
/-! ### a def's promise over data -/
/-- the arguments, the cells that it may touch; the answer, the cells behind it -/
abbrev Fd := List Vd → Led → (Vd → Led → Prop) → Prop
structure Went (K : PySem.W.Frag) (A : Led) (H : Hp) (A' : Led) (H' : Hp) : Prop where
  led : LedOk K A' H'
  new : ∀ p ∈ A', p.1 ∈ addrs A ∨ H p.1 = none
  fr : ∀ a o, a ∉ addrs A → H a = some o → H' a = some o
  ex : ∀ a, H a ≠ none → H' a ≠ none
def spD (K : PySem.W.Frag) (φ : Fd) : Sp := fun vs H Q _ => ∃ ds A, RVs K H vs ds ∧ LedOk K A H ∧ φ ds A fun d A' => ∀ v H', RV K H' v d → Went K A H A' H' → Q v H'
/-- nothing is touched, data come back -/
def fPure (n : Nat) (pre : List Vd → Prop) (f : List Vd → Vd → Prop) : Fd := fun ds A Q => ds.length = n ∧ A = [] ∧ pre ds ∧ ∀ d, f ds d → Q d []
section
variable {K : PySem.W.Frag} {B : Bd} {A : Led} {Q : Vd → Led → Prop} {φ : Fd}
theorem rs_D {ds : List Vd} (L1 L2 A0 : Led) (eA : A = L1 ++ (A0 ++ L2)) (h : φ ds A0 fun d A' => Q d (L1 ++ (A' ++ L2))) (mono : ∀ Q Q' : Vd → Led → Prop, (∀ d A', Q d A' → Q' d A') → φ ds A0 Q → φ ds A0 Q') : RS B (spD B.K φ) ds A Q := fun vs H Qv E rv w k => by
  subst eA
  have sub : A0.Sublist (L1 ++ (A0 ++ L2)) := (List.sublist_append_left _ _).trans (List.sublist_append_right _ _)
  refine ⟨ds, A0, rv, (w.sub sub).led, mono _ _ (fun d A' q v H' rv' wt => ?_) h⟩
  have tk : Tk H H' := tk_but_led (w.sub sub).led wt.fr
  have nd := w.led.nd
  unfold addrs at nd
  rw [List.map_append, List.map_append] at nd
  have hout : ∀ p, p ∈ L1 ∨ p ∈ L2 → p.1 ∉ addrs A0 := fun p hp z => by
    obtain ⟨q, hq, e⟩ := List.mem_map.mp z
    rcases hp with hp | hp
    · exact (List.nodup_append.mp nd).2.2 p.1 (List.mem_map_of_mem hp) p.1 (List.mem_append_left _ (e ▸ List.mem_map_of_mem hq)) rfl
    · exact (List.nodup_append.mp (List.nodup_append.mp nd).2.1).2.2 q.1 (List.mem_map_of_mem hq) p.1 (List.mem_map_of_mem hp) e
  have hold : ∀ p, p ∈ L1 ∨ p ∈ L2 → HasC B.K H p.1 p.2 := fun p hp => w.led.has p (by
    rcases hp with hp | hp
    · exact List.mem_append_left _ hp
    · exact List.mem_append_right _ (List.mem_append_right _ hp))
  have keepL : ∀ p, p ∈ L1 ∨ p ∈ L2 → HasC B.K H' p.1 p.2 := fun p hp => (hold p hp).up tk fun o ho => wt.fr _ _ (hout p hp) ho
  have apart : ∀ p, p ∈ L1 ∨ p ∈ L2 → p.1 ∉ addrs A' := fun p hp z => by
    obtain ⟨q, hq, e⟩ := List.mem_map.mp z
    have e' : q.1 = p.1 := e
    rcases wt.new q hq with z | z
    · rw [e'] at z; exact hout p hp z
    · obtain ⟨o, ho, _⟩ := (hold p hp).some
      rw [e', ho] at z
      cases z
  refine k v d _ H' ⟨⟨fun p hp => ?_, ?_⟩, fun a o na ha => ?_, fun p hp => ?_, fun a ha => wt.ex a (w.ex a ha)⟩ tk rv' q
  · rcases List.mem_append.mp hp with hp | hp
    · exact keepL p (.inl hp)
    · rcases List.mem_append.mp hp with hp | hp
      · exact wt.led.has p hp
      · exact keepL p (.inr hp)
  · unfold addrs
    rw [List.map_append, List.map_append]
    have n1 := List.nodup_append.mp nd
    have n2 := List.nodup_append.mp n1.2.1
    refine List.nodup_append.mpr ⟨n1.1, List.nodup_append.mpr ⟨wt.led.nd, n2.2.1, fun a ha b hb z => ?_⟩, fun a ha b hb z => ?_⟩
    · obtain ⟨p, hp, rfl⟩ := List.mem_map.mp hb
      exact apart p (.inr hp) (z ▸ ha)
    · subst z
      obtain ⟨p, hp, rfl⟩ := List.mem_map.mp ha
      rcases List.mem_append.mp hb with hb | hb
      · exact apart p (.inl hp) hb
      · exact n1.2.2 p.1 (List.mem_map_of_mem hp) p.1 (List.mem_append_right _ hb) rfl
  · have h1 := w.fr a o na ha
    refine wt.fr a o (fun z => ?_) h1
    obtain ⟨q, hq, e⟩ := List.mem_map.mp z
    have e' : q.1 = a := e
    rcases w.new q (sub.subset hq) with y | y
    · rw [e'] at y; exact na y
    · rw [e', ha] at y; cases y
  · have old : ∀ q, q ∈ L1 ++ (A0 ++ L2) → q.1 ∈ B.X ∨ B.H0 q.1 = none := w.new
    rcases List.mem_append.mp hp with hp | hp
    · exact old p (List.mem_append_left _ hp)
    · rcases List.mem_append.mp hp with hp | hp
      · rcases wt.new p hp with z | z
        · obtain ⟨q, hq, e⟩ := List.mem_map.mp z
          have e' : q.1 = p.1 := e
          rw [← e']
          exact old q (List.mem_append_right _ (List.mem_append_left _ hq))
        · exact .inr (w.free z)
      · exact old p (List.mem_append_right _ (List.mem_append_right _ hp))
theorem rs_pure {ds : List Vd} {n : Nat} {pre : List Vd → Prop} {f : List Vd → Vd → Prop} (hn : ds.length = n) (hp : pre ds) (h : ∀ d, f ds d → Q d A) : RS B (spD B.K (fPure n pre f)) ds A Q :=
  rs_D [] A [] rfl ⟨hn, rfl, hp, h⟩ (fun Q Q' k ⟨h1, h2, h3, h4⟩ => ⟨h1, h2, h3, fun d hd => k _ _ (h4 d hd)⟩)
/-- the slots at a def's entry -/
def startD (N : List Str) (ds : List Vd) : Rho := ds.map some ++ List.replicate (N.length - ds.length) none
theorem start_ok {H : Hp} {vs : List V} {ds : List Vd} {N : List Str} (r : RVs K H vs ds) : REnv K H (L2.start N vs) (startD N ds) := by
  refine ⟨by simp [L2.start, startD, RVs.length r], fun i d h => ?_⟩
  unfold L2.start
  unfold startD at h
  by_cases hi : i < ds.length
  · rw [List.getElem?_append_left (by rw [List.length_map]; exact hi), List.getElem?_map] at h
    cases hd : ds[i]? with
    | none => rw [hd] at h; cases h
    | some d' =>
      rw [hd] at h
      cases h
      obtain ⟨v, h1, h2⟩ := RVs.get r hd
      refine ⟨v, ?_, h2⟩
      rw [List.getElem?_append_left (by rw [List.length_map, RVs.length r]; exact hi), List.getElem?_map, h1]
      rfl
  · rw [List.getElem?_append_right (by rw [List.length_map]; omega), List.getElem?_replicate] at h
    split at h <;> cases h
theorem body_D {t : TS} {vs : List V} {H : Hp} {Qv : VK} {E : XK} {N : List Str} (h : spD K φ vs H Qv E)
    (body : ∀ H0 ds A (Q : Vd → Led → Prop), φ ds A Q → WS ⟨K, H0, addrs A⟩ t (startD N ds) A { nx := fun _ A' => ∃ A'', A''.Sublist A' ∧ Q (.dat .none) A'', rt := fun d A' => ∃ A'', A''.Sublist A' ∧ Q d A'' }) : t { nx := fun _ H' => Qv .non H', rt := Qv } (L2.start N vs) H := by
  obtain ⟨ds, A, rv, led, hφ⟩ := h
  have w0 : Wd ⟨K, H, addrs A⟩ A H := ⟨led, fun a o _ h => h, fun p hp => .inl (List.mem_map_of_mem hp), fun a ha => by
    obtain ⟨p, hp, e⟩ := List.mem_map.mp ha
    obtain ⟨o, ho, _⟩ := (led.has p hp).some
    have e' : p.1 = a := e
    rw [← e', ho]
    exact fun q => nomatch q⟩
  have wt : ∀ {A' A'' : Led} {H' : Hp}, Wd ⟨K, H, addrs A⟩ A' H' → A''.Sublist A' → Went K A H A'' H' := fun {A' A'' H'} w s => ⟨(w.sub s).led, (w.sub s).new, w.fr, fun a ha => by
    by_cases z : a ∈ addrs A
    · exact w.ex a z
    · cases e : H a with
      | none => exact absurd e ha
      | some o => rw [w.fr a o z e]; exact fun q => nomatch q⟩
  refine body H ds A _ hφ (L2.start N vs) H _ (start_ok rv) w0 ⟨fun σ' H' ρ' A' _ _ w' ⟨A'', s, q⟩ => q _ H' DT.non (wt w' s), fun v d A' H' w' _ rv' ⟨A'', s, q⟩ => q v H' rv' (wt w' s), fun _ _ _ _ _ _ _ z => z.elim, fun _ _ _ _ _ _ _ z => z.elim⟩
end
/-! ### slices, built-ins, methods -/
def WO (B : Bd) (te : TO) (ρ : Rho) (A : Led) (Q : Option Int → Led → Prop) : Prop := ∀ σ H (Qv : Option Int → Hp → Prop), REnv B.K H σ ρ → Wd B A H → (∀ b A' H', Wd B A' H' → Tk H H' → Q b A' → Qv b H') → te σ H Qv
def RSl (B : Bd) (r : V → Option Int → Option Int → Hp → VK → Prop) (x : Vd) (lo hi : Option Int) (A : Led) (Q : Vd → Led → Prop) : Prop := ∀ v H Qv, RV B.K H v x → Wd B A H → Ret B H Q Qv → r v lo hi H Qv
def cutL {α : Type} (xs : List α) (lo hi : Option Int) : List α := (xs.drop (HT.sIx xs.length 0 lo)).take (HT.sIx xs.length xs.length hi - HT.sIx xs.length 0 lo)
section
variable {B : Bd} {ρ : Rho} {A : Led} {Q : Vd → Led → Prop} {ta tb : TE}
theorem wo_none {Q : Option Int → Led → Prop} (k : Q none A) : WO B tNoPart ρ A Q := fun σ H Qv e w c => c none A H w (Tk.refl H) k
theorem wo_some {Q : Option Int → Led → Prop} (h : WE B ta ρ A fun d A1 => ∃ i, d = .int i ∧ Q (some i) A1) : WO B (tPart ta) ρ A Q := fun σ H Qv e w c =>
  h σ H _ e w fun v d A1 H1 w1 t1 r1 q1 => by
    obtain ⟨i, rfl, q⟩ := q1
    exact ⟨i, DT.intOf r1, c _ A1 H1 w1 t1 q⟩
theorem we_sl {r : V → Option Int → Option Int → Hp → VK → Prop} {tl th : TO} (h : WE B ta ρ A fun x A1 => WO B tl ρ A1 fun l A2 => WO B th ρ A2 fun u A3 => RSl B r x l u A3 Q) : WE B (tSl r ta tl th) ρ A Q := fun σ H Qv e w c =>
  h σ H _ e w fun v d A1 H1 w1 t1 r1 q1 => q1 σ H1 _ (e.up t1) w1 fun l A2 H2 w2 t2 q2 => q2 σ H2 _ (e.up (t1.trans t2)) w2 fun u A3 H3 w3 t3 q3 => q3 v H3 Qv (r1.up (t2.trans t3)) w3 (c.on (t1.trans (t2.trans t3)))
theorem rsl_tup {ds : List PyData} {lo hi : Option Int} (k : Q (.dat (.tuple (cutD ds lo hi))) A) : RSl B (rSlA B.K) (.dat (.tuple ds)) lo hi A Q := fun v H Qv rv w c =>
  r_slA rv fun v' H' s' d' => c _ (.dat _) A H' (w.same s') (tk_same s') d' k
theorem rsl_list {n : Nat} {p : Addr} {xs : List Vd} {lo hi : Option Int} (hn : A[n]? = some (p, .lst xs)) (k : ∀ l, Q (.ref l) ((l, .lst (cutL xs lo hi)) :: A)) : RSl B (rSlL B.K) (.ref p) lo hi A Q := fun v H Qv rv w c => by
  obtain rfl : v = .ref p := rv
  obtain ⟨vs, h1, h2⟩ := w.at hn
  refine ⟨p, vs, rfl, SqL.of h1, fun l nl => c _ (.ref l) _ _ (w.laid nl (c := .lst (cutL xs lo hi)) ⟨_, upd_same, ?_⟩) (tk_new nl) rfl (k l)⟩
  unfold cutV cutL
  rw [RVs.length h2]
  exact RVs.take _ (RVs.drop _ (RVs.up h2 (tk_new nl)))
theorem rsl_str {x : Str} {lo hi : Option Int} (hl : x.length ≤ sizeLine) (k : Q (.str (cutS x lo hi)) A) : RSl B rSlS (.dat (.str x)) lo hi A Q := fun v H Qv rv w c => by
  cases DT.strOf rv
  exact ⟨x, rfl, hl, c _ (.str _) A H w (Tk.refl H) (DT.str _) k⟩
theorem RVs.one {K : PySem.W.Frag} {H : Hp} {vs : List V} {d : Vd} (h : RVs K H vs [d]) : ∃ v, vs = [v] ∧ RV K H v d := by
  cases h with
  | cons a b => cases b; exact ⟨_, rfl, a⟩
theorem RVs.two {K : PySem.W.Frag} {H : Hp} {vs : List V} {d e : Vd} (h : RVs K H vs [d, e]) : ∃ v u, vs = [v, u] ∧ RV K H v d ∧ RV K H u e := by
  cases h with
  | cons a b => obtain ⟨u, rfl, q⟩ := RVs.one b; exact ⟨_, u, rfl, a, q⟩
theorem rl_lenT {ds : List PyData} (k : Q (.int (ds.length : Int)) A) : RL B (fun xs H Q => ∃ p ys, xs = [.ref p] ∧ (SqL B.K H p ys ∨ SqT B.K H p ys) ∧ Q (.int ys.length) H) [.dat (.tuple ds)] A Q := fun vs H Qv rv w c => by
  obtain ⟨v, rfl, r⟩ := RVs.one rv
  obtain ⟨a, xs, rfl, hs, hx⟩ := DT.tupOf r
  refine ⟨a, xs, rfl, .inr hs, ?_⟩
  rw [hx.length]
  exact c _ (.int _) A H w (Tk.refl H) (DT.int _) k
theorem rl_lenL {n : Nat} {p : Addr} {xs : List Vd} (hn : A[n]? = some (p, .lst xs)) (k : Q (.int (xs.length : Int)) A) : RL B (fun xs H Q => ∃ p ys, xs = [.ref p] ∧ (SqL B.K H p ys ∨ SqT B.K H p ys) ∧ Q (.int ys.length) H) [.ref p] A Q := fun vs H Qv rv w c => by
  obtain ⟨v, rfl, r⟩ := RVs.one rv
  obtain rfl : v = .ref p := r
  obtain ⟨us, h1, h2⟩ := w.at hn
  refine ⟨p, us, rfl, .inl (SqL.of h1), ?_⟩
  rw [RVs.length h2]
  exact c _ (.int _) A H w (Tk.refl H) (DT.int _) k
theorem rl_abs {i : Int} (k : Q (.int (if i < 0 then -i else i)) A) : RL B (fun xs H Q => ∃ i, xs = [.int i] ∧ Q (.int (if i < 0 then -i else i)) H) [.dat (.int i)] A Q := fun vs H Qv rv w c => by
  obtain ⟨v, rfl, r⟩ := RVs.one rv
  cases DT.intOf r
  exact ⟨i, rfl, c _ (.int _) A H w (Tk.refl H) (DT.int _) k⟩
theorem rl_2 {f : Int → Int → Int} {i j : Int} (k : Q (.int (f i j)) A) : RL B (fun xs H Q => ∃ i j, xs = [.int i, .int j] ∧ Q (.int (f i j)) H) [.dat (.int i), .dat (.int j)] A Q := fun vs H Qv rv w c => by
  obtain ⟨v, u, rfl, r1, r2⟩ := RVs.two rv
  cases DT.intOf r1
  cases DT.intOf r2
  exact ⟨i, j, rfl, c _ (.int _) A H w (Tk.refl H) (DT.int _) k⟩
theorem rl_inti {i : Int} (k : Q (.int i) A) : RL B (fun xs H Q => (∃ i, xs = [.int i] ∧ Q (.int i) H) ∨ ∃ k, xs = [.bl k] ∧ Q (.int (if k then 1 else 0)) H) [.dat (.int i)] A Q := fun vs H Qv rv w c => by
  obtain ⟨v, rfl, r⟩ := RVs.one rv
  cases DT.intOf r
  exact .inl ⟨i, rfl, c _ (.int _) A H w (Tk.refl H) (DT.int _) k⟩
theorem rl_intb {b : Bool} (k : Q (.int (if b then 1 else 0)) A) : RL B (fun xs H Q => (∃ i, xs = [.int i] ∧ Q (.int i) H) ∨ ∃ k, xs = [.bl k] ∧ Q (.int (if k then 1 else 0)) H) [.dat (.bool b)] A Q := fun vs H Qv rv w c => by
  obtain ⟨v, rfl, r⟩ := RVs.one rv
  cases DT.blOf r
  exact .inr ⟨b, rfl, c _ (.int _) A H w (Tk.refl H) (DT.int _) k⟩
theorem rl_str {i : Int} (h : i.natAbs.log2 < 1920) (k : Q (.str (toString i)) A) : RL B (fun xs H Q => ∃ i, xs = [.int i] ∧ i.natAbs.log2 < 1920 ∧ Q (.str (toString i)) H) [.dat (.int i)] A Q := fun vs H Qv rv w c => by
  obtain ⟨v, rfl, r⟩ := RVs.one rv
  cases DT.intOf r
  exact ⟨i, rfl, h, c _ (.str _) A H w (Tk.refl H) (DT.str _) k⟩
theorem rl_tupL {n : Nat} {p : Addr} {ds : List PyData} (hn : A[n]? = some (p, .lst (dats ds))) (k : Q (.dat (.tuple ds)) A) : RL B (fun xs H Q => ∃ p ys, xs = [.ref p] ∧ ((SqL B.K H p ys ∧ ∀ l, H l = none → Q (.ref l) (upd H l (.tup ys))) ∨ (SqT B.K H p ys ∧ Q (.ref p) H))) [.ref p] A Q := fun vs H Qv rv w c => by
  obtain ⟨v, rfl, r⟩ := RVs.one rv
  obtain rfl : v = .ref p := r
  obtain ⟨us, h1, h2⟩ := w.at hn
  exact ⟨p, us, rfl, .inl ⟨SqL.of h1, fun l nl => c _ (.dat _) A _ (w.same (same_new nl)) (tk_new nl) (DT.new (RVs.dts h2) nl) k⟩⟩
theorem rl_tupT {ds : List PyData} (k : Q (.dat (.tuple ds)) A) : RL B (fun xs H Q => ∃ p ys, xs = [.ref p] ∧ ((SqL B.K H p ys ∧ ∀ l, H l = none → Q (.ref l) (upd H l (.tup ys))) ∨ (SqT B.K H p ys ∧ Q (.ref p) H))) [.dat (.tuple ds)] A Q := fun vs H Qv rv w c => by
  obtain ⟨v, rfl, r⟩ := RVs.one rv
  obtain ⟨a, xs, rfl, hs, hx⟩ := DT.tupOf r
  exact ⟨a, xs, rfl, .inr ⟨hs, c _ (.dat _) A H w (Tk.refl H) r k⟩⟩
theorem rl_listL {n : Nat} {p : Addr} {xs : List Vd} (hn : A[n]? = some (p, .lst xs)) (k : ∀ l, Q (.ref l) ((l, .lst xs) :: A)) : RL B (fun xs H Q => ∃ p ys, xs = [.ref p] ∧ (SqL B.K H p ys ∨ SqT B.K H p ys) ∧ ∀ l, H l = none → Q (.ref l) (upd H l (.lst ys))) [.ref p] A Q := fun vs H Qv rv w c => by
  obtain ⟨v, rfl, r⟩ := RVs.one rv
  obtain rfl : v = .ref p := r
  obtain ⟨us, h1, h2⟩ := w.at hn
  exact ⟨p, us, rfl, .inl (SqL.of h1), fun l nl => c _ (.ref l) _ _ (w.laid nl (c := .lst xs) ⟨_, upd_same, RVs.up h2 (tk_new nl)⟩) (tk_new nl) rfl (k l)⟩
theorem rl_listT {ds : List PyData} (k : ∀ l, Q (.ref l) ((l, .lst (dats ds)) :: A)) : RL B (fun xs H Q => ∃ p ys, xs = [.ref p] ∧ (SqL B.K H p ys ∨ SqT B.K H p ys) ∧ ∀ l, H l = none → Q (.ref l) (upd H l (.lst ys))) [.dat (.tuple ds)] A Q := fun vs H Qv rv w c => by
  obtain ⟨v, rfl, r⟩ := RVs.one rv
  obtain ⟨a, xs, rfl, hs, hx⟩ := DT.tupOf r
  exact ⟨a, xs, rfl, .inr hs, fun l nl => c _ (.ref l) _ _ (w.laid nl (c := .lst (dats ds)) ⟨_, upd_same, (hx.up (tk_new nl)).rvs⟩) (tk_new nl) rfl (k l)⟩
theorem bools_of {K : PySem.W.Frag} {H : Hp} : ∀ {bs : List Bool} {vs : List V}, RVs K H vs (bs.map fun b => Vd.bl b) → vs = bs.map V.bl
  | [], vs, h => by cases h; rfl
  | b :: bs, vs, h => by
    cases h with
    | cons r t => cases DT.blOf r; rw [bools_of t]; rfl
theorem ints_of {K : PySem.W.Frag} {H : Hp} : ∀ {bs : List Int} {vs : List V}, RVs K H vs (bs.map fun b => Vd.int b) → vs = bs.map V.int
  | [], vs, h => by cases h; rfl
  | b :: bs, vs, h => by
    cases h with
    | cons r t => cases DT.intOf r; rw [ints_of t]; rfl
theorem rl_all {n : Nat} {p : Addr} {bs : List Bool} (hn : A[n]? = some (p, .lst (bs.map fun b => Vd.bl b))) (k : Q (.bl (bs.all id)) A) : RL B (rAll B.K) [.ref p] A Q := fun vs H Qv rv w c => by
  obtain ⟨v, rfl, r⟩ := RVs.one rv
  obtain rfl : v = .ref p := r
  obtain ⟨us, h1, h2⟩ := w.at hn
  cases bools_of h2
  exact ⟨p, bs, rfl, SqL.of h1, c _ (.bl _) A H w (Tk.refl H) (DT.bl _) k⟩
theorem rl_any {n : Nat} {p : Addr} {bs : List Bool} (hn : A[n]? = some (p, .lst (bs.map fun b => Vd.bl b))) (k : Q (.bl (bs.any id)) A) : RL B (rAny B.K) [.ref p] A Q := fun vs H Qv rv w c => by
  obtain ⟨v, rfl, r⟩ := RVs.one rv
  obtain rfl : v = .ref p := r
  obtain ⟨us, h1, h2⟩ := w.at hn
  cases bools_of h2
  exact ⟨p, bs, rfl, SqL.of h1, c _ (.bl _) A H w (Tk.refl H) (DT.bl _) k⟩
theorem rl_sum {n : Nat} {p : Addr} {ns : List Int} (hn : A[n]? = some (p, .lst (ns.map fun b => Vd.int b))) (k : Q (.int ns.sum) A) : RL B (rSum B.K) [.ref p] A Q := fun vs H Qv rv w c => by
  obtain ⟨v, rfl, r⟩ := RVs.one rv
  obtain rfl : v = .ref p := r
  obtain ⟨us, h1, h2⟩ := w.at hn
  cases ints_of h2
  exact ⟨p, ns, rfl, SqL.of h1, c _ (.int _) A H w (Tk.refl H) (DT.int _) k⟩
def isNon : PyData → Bool
  | .none => true
  | _ => false
theorem DT.isNon {K : PySem.W.Frag} {H : Hp} {v : V} {d : PyData} (h : DT K H v d) : decide (v = .non) = OR.isNon d := by
  cases h <;> simp [OR.isNon]
theorem rw_isN {d : PyData} (k : Q (.bl (isNon d)) A) : RW B (fun x y H Q => y = .non ∧ Q (.bl (decide (x = .non))) H) (.dat d) (.dat .none) A Q := fun v u H Qv rv ru w c => by
  refine ⟨by cases (ru : DT _ _ _ _); rfl, ?_⟩
  rw [DT.isNon rv]
  exact c _ (.bl _) A H w (Tk.refl H) (DT.bl _) k
theorem rw_notN {d : PyData} (k : Q (.bl (!isNon d)) A) : RW B (fun x y H Q => y = .non ∧ Q (.bl (!decide (x = .non))) H) (.dat d) (.dat .none) A Q := fun v u H Qv rv ru w c => by
  refine ⟨by cases (ru : DT _ _ _ _); rfl, ?_⟩
  rw [DT.isNon rv]
  exact c _ (.bl _) A H w (Tk.refl H) (DT.bl _) k
/-- xs.append(y) -/
theorem we_append {t : TA} (h : WE B ta ρ A fun o A1 => ∃ (n : Nat) (p : Addr) (xs : List Vd), o = .ref p ∧ A1[n]? = some (p, Cell.lst xs) ∧ WA B t ρ A1 fun ds A2 => ∃ (m : Nat) (xs' : List Vd) (y : Vd), ds = [y] ∧ A2[m]? = some (p, .lst xs') ∧ xs'.length < 1000000 ∧ Q (.dat .none) (A2.set m (p, .lst (xs' ++ [y])))) : WE B (tBM B.K "list" rAppend ta t) ρ A Q := fun σ H Qv e w c =>
  h σ H _ e w fun v d A1 H1 w1 t1 r1 q1 => by
    obtain ⟨n, p, xs, rfl, hn, q⟩ := q1
    obtain rfl : v = .ref p := r1
    obtain ⟨us, h1, h2⟩ := w1.at hn
    refine ⟨.inl ⟨rfl, _, SqL.of h1⟩, q σ H1 _ (e.up t1) w1 fun vs ds A2 H2 w2 t2 r2 q2 => ?_⟩
    obtain ⟨m, xs', y, rfl, hm, hl, q⟩ := q2
    obtain ⟨u, rfl, ru⟩ := RVs.one r2
    obtain ⟨ws, h3, h4⟩ := w2.at hm
    have tk := tk_set (o := HO.lst (ws ++ [u])) h3
    refine ⟨p, ws, u, rfl, rfl, h3, by rw [RVs.length h4]; exact smallL (Nat.le_of_lt hl), c _ (.dat .none) _ _ (w2.set hm (c' := .lst (xs' ++ [y])) ⟨_, upd_same, RVs.append (RVs.up h4 tk) (.cons (ru.up tk) .nil)⟩) ((t1.trans t2).trans tk) DT.non q⟩
/-! the law's draws -/
theorem rs_take {n : Nat} {b : Addr} {m : Int} (hn : A[n]? = some (b, .box)) (h0 : 0 < m) (h1 : m < 2 ^ 64) (k : ∀ r, 0 ≤ r → r < m → Q (.int r) A) : RS B spTake [.ref b, .dat (.int m)] A Q := fun vs H Qv E rv w c => by
  obtain ⟨v, u, rfl, r1, r2⟩ := RVs.two rv
  obtain rfl : v = .ref b := r1
  cases DT.intOf r2
  refine ⟨b, m, rfl, w.at hn, h0, h1, fun r H' a0 a1 bt bx => ?_⟩
  obtain ⟨i, s, z, hb⟩ := w.at hn
  obtain ⟨i', s', z', hb'⟩ := bx
  have tk : Tk H H' := tk_but hb bt
  refine c _ (.int r) A H' ?_ tk (DT.int r) (k r a0 a1)
  have nb := w.new _ (List.mem_of_getElem? hn)
  refine ⟨⟨fun p hp => ?_, w.led.nd⟩, fun a o na ha => ?_, w.new, fun a ha => ?_⟩
  · obtain ⟨j, hj⟩ := List.mem_iff_getElem?.mp hp
    by_cases e : p.1 = b
    · have : j = n := nodup_ix w.led.nd (a := b) (by unfold addrs; rw [List.getElem?_map, hj, ← e]; rfl) (by unfold addrs; rw [List.getElem?_map, hn]; rfl)
      subst this
      rw [hn] at hj
      cases hj
      exact ⟨i', s', z', hb'⟩
    · exact (w.led.has p hp).up tk fun o ho => bt _ _ e ho
  · have ne : a ≠ b := fun z => by
      subst z
      rcases nb with z | z
      · exact na z
      · rw [ha] at z; cases z
    exact bt _ _ ne (w.fr a o na ha)
  · by_cases e : a = b
    · rw [e, hb']; exact fun q => nomatch q
    · cases z : H a with
      | none => exact absurd z (w.ex a ha)
      | some o => rw [bt _ _ e z]; exact fun q => nomatch q
end
section
variable {B : Bd} {A : Led} {Q : Vd → Led → Prop}
theorem RVs.three {K : PySem.W.Frag} {H : Hp} {vs : List V} {d e f : Vd} (h : RVs K H vs [d, e, f]) : ∃ v u x, vs = [v, u, x] ∧ RV K H v d ∧ RV K H u e ∧ RV K H x f := by
  cases h with
  | cons a b => obtain ⟨u, x, rfl, q1, q2⟩ := RVs.two b; exact ⟨_, u, x, rfl, a, q1, q2⟩
theorem rs_turn {w : Int} {s : Sh} (k : Q (.int (tn w s)) A) : RS B spTurn [.dat (.int w), .dat (.str s.str)] A Q := fun vs H Qv E rv wd c => by
  obtain ⟨v, u, rfl, r1, r2⟩ := RVs.two rv
  cases DT.intOf r1
  cases DT.strOf r2
  exact ⟨w, s, rfl, fun H' s' => c _ (.int _) A H' (wd.same s') (tk_same s') (DT.int _) k⟩
theorem rs_back {w : Int} {s : Sh} (k : Q (.int (tb w s)) A) : RS B spBack [.dat (.int w), .dat (.str s.str)] A Q := fun vs H Qv E rv wd c => by
  obtain ⟨v, u, rfl, r1, r2⟩ := RVs.two rv
  cases DT.intOf r1
  cases DT.strOf r2
  exact ⟨w, s, rfl, fun H' s' => c _ (.int _) A H' (wd.same s') (tk_same s') (DT.int _) k⟩
theorem rs_about {w : Int} (k : Q (.int ((w + 2) % 4)) A) : RS B spAbout [.dat (.int w)] A Q := fun vs H Qv E rv wd c => by
  obtain ⟨v, rfl, r1⟩ := RVs.one rv
  cases DT.intOf r1
  exact ⟨w, rfl, c _ (.int _) A H wd (Tk.refl H) (DT.int _) k⟩
theorem rs_onward {p : Int × Int} {w n : Int} (w0 : 0 ≤ w) (w3 : w ≤ 3) (k : Q (.dat (sq (p.1 + dx w * n, p.2 + dy w * n))) A) : RS B (spOnward B.K) [.dat (sq p), .dat (.int w), .dat (.int n)] A Q := fun vs H Qv E rv wd c => by
  obtain ⟨v, u, x, rfl, r1, r2, r3⟩ := RVs.three rv
  cases DT.intOf r2
  cases DT.intOf r3
  exact ⟨v, p, w, n, rfl, r1, w0, w3, fun v' H' s' d' => c _ (.dat _) A H' (wd.same s') (tk_same s') d' k⟩
theorem rs_onward1 {p : Int × Int} {w : Int} (w0 : 0 ≤ w) (w3 : w ≤ 3) (k : Q (.dat (sq (on p w))) A) : RS B (spOnward B.K) [.dat (sq p), .dat (.int w), .dat (.int 1)] A Q := rs_onward w0 w3 (by rw [on_one]; exact k)
theorem rs_on {p : Int × Int} {w : Int} (w0 : 0 ≤ w) (w3 : w ≤ 3) (k : Q (.dat (sq (on p w))) A) : RS B (spOn B.K) [.dat (sq p), .dat (.int w)] A Q := fun vs H Qv E rv wd c => by
  obtain ⟨v, u, rfl, r1, r2⟩ := RVs.two rv
  cases DT.intOf r2
  exact ⟨v, p, w, rfl, r1, w0, w3, fun v' H' s' d' => c _ (.dat _) A H' (wd.same s') (tk_same s') d' k⟩
/-- an index of a list made by a function -/
theorem atI_nat' {α : Type} {xs : List α} {n : Nat} {a : α} (h : xs[n]? = some a) : atI xs (n : Int) = some a := atI_nat h
/-! ### the road, place by place -/
def rdS (x y w : Int) (sh : Nat → Sh) : Nat → (Int × Int) × Int
  | 0 => ((x, y), w)
  | i + 1 => (on (rdS x y w sh i).1 (tn (rdS x y w sh i).2 (sh i)), tn (rdS x y w sh i).2 (sh i))
def shOfR (rs : List (Sh × Int)) (i : Nat) : Sh := (rs.getD (i % rs.length) (.s, 0)).1
def rd (x y w : Int) (rs : List (Sh × Int)) : Nat → (Int × Int) × Int := rdS x y w (shOfR rs)
def pdat (q : (Int × Int) × Int) : PyData := .tuple [sq q.1, .int q.2]
theorem rd_zero (x y w : Int) (rs : List (Sh × Int)) : rd x y w rs 0 = ((x, y), w) := rfl
theorem rd_succ (x y w : Int) (rs : List (Sh × Int)) (i : Nat) : rd x y w rs (i + 1) = (on (rd x y w rs i).1 (tn (rd x y w rs i).2 (shOfR rs i)), tn (rd x y w rs i).2 (shOfR rs i)) := rfl
theorem wst_rd (x y w : Int) (rs : List (Sh × Int)) : ∀ i, i ≤ rs.length → wst x y w (rs.take i) = ((List.range (i + 1)).map fun k => (rd x y w rs k).1, (rd x y w rs i).2)
  | 0, _ => rfl
  | i + 1, h => by
    have hr : rs[i]? = some (rs[i]'(by omega)) := by simp [show i < rs.length by omega]
    have es : shOfR rs i = (rs[i]'(by omega)).1 := by
      unfold shOfR
      rw [Nat.mod_eq_of_lt (by omega), List.getD_eq_getElem?_getD, hr]
      rfl
    rw [wst_take hr, wst_rd x y w rs i (by omega), List.range_succ (n := i + 1), List.map_append]
    dsimp only
    rw [List.range_succ, List.map_append, List.map_cons, List.map_nil, getLastD_snoc, ← es]
    rfl
theorem wst_all (x y w : Int) (rs : List (Sh × Int)) : wst x y w rs = ((List.range (rs.length + 1)).map fun k => (rd x y w rs k).1, (rd x y w rs rs.length).2) := by
  have h := wst_rd x y w rs rs.length (Nat.le_refl _)
  rw [List.take_length] at h
  exact h
theorem wst_drop (x y w : Int) (rs : List (Sh × Int)) : (wst x y w rs).1.dropLast = (List.range rs.length).map fun k => (rd x y w rs k).1 := by
  rw [wst_all, List.range_succ, List.map_append]
  exact List.dropLast_concat
theorem wst_lastD (x y w : Int) (rs : List (Sh × Int)) : (wst x y w rs).1.getLastD (0, 0) = (rd x y w rs rs.length).1 := by
  rw [wst_all, List.range_succ, List.map_append]
  exact getLastD_snoc _ _ _
theorem rail_ix {rs : List (Sh × Int)} (ne : rs ≠ []) (i : Nat) : atI (rs.map rail) ((0 + (i : Int)) % ((rs.map rail).length : Int)) = some (.tuple [.str (shOfR rs i).str, .int (rs.getD (i % rs.length) (.s, 0)).2]) := by
  have hl : 0 < rs.length := List.length_pos_iff.mpr ne
  have e : (0 + (i : Int)) % ((rs.map rail).length : Int) = ((i % rs.length : Nat) : Int) := by
    rw [List.length_map, Int.zero_add]
    omega
  rw [e]
  refine atI_nat ?_
  have hm : i % rs.length < rs.length := Nat.mod_lt _ hl
  rw [List.getElem?_map]
  have hr : rs[i % rs.length]? = some (rs[i % rs.length]) := by simp [hm]
  rw [hr]
  unfold shOfR
  rw [List.getD_eq_getElem?_getD, hr]
  rfl
end
def fWalk : Fd := fun ds A Q => ∃ (x y w look : Int) (rs : List (Sh × Int)) (n : Nat), ds = [.dat (eng x y w look rs), .int (n : Int)] ∧ A = [] ∧ (n ≠ 0 → rs ≠ []) ∧ n ≤ 1000000 ∧
  ∀ p, Q (.ref p) [(p, .lst (dats ((List.range n).map fun i => pdat (rd x y w rs i))))]
section
variable {B : Bd} {A : Led} {Q : Vd → Led → Prop}
theorem rs_walk {x y w look : Int} {rs : List (Sh × Int)} {n : Nat} (ne : n ≠ 0 → rs ≠ []) (hn : n ≤ 1000000) (k : ∀ p, Q (.ref p) ((p, .lst (dats ((List.range n).map fun i => pdat (rd x y w rs i)))) :: A)) : RS B (spD B.K fWalk) [.dat (eng x y w look rs), .dat (.int (n : Int))] A Q :=
  rs_D [] A [] rfl ⟨x, y, w, look, rs, n, rfl, rfl, ne, hn, k⟩ fun Q Q' k ⟨x, y, w, look, rs, n, h1, h2, h3, h4, h5⟩ => ⟨x, y, w, look, rs, n, h1, h2, h3, h4, fun p => k _ _ (h5 p)⟩
/-- a promise of the elder kind from one over data, nothing touched, data back -/
theorem sp_of_pure {K : PySem.W.Frag} {φ : Fd} {vs : List V} {H : Hp} {Qv : VK} {E : XK} {ds : List PyData} {d : PyData} (hd : DTs K H vs ds) (h : ∀ Q : Vd → Led → Prop, Q (.dat d) [] → φ (dats ds) [] Q) (q : ∀ v' H', Same H H' → DT K H' v' d → Qv v' H') : spD K φ vs H Qv E :=
  ⟨dats ds, [], hd.rvs, ⟨(fun p hp => absurd hp List.not_mem_nil), List.nodup_nil⟩, h _ fun v' H' rv wt => q v' H' (fun a o ha => wt.fr a o (by simp [addrs]) ha) rv⟩
theorem dats_getD {ds : List PyData} {i : Nat} (h : i < ds.length) : (dats ds).getD i (.dat .none) = .dat (ds.getD i .none) := by
  unfold dats
  rw [List.getD_eq_getElem?_getD, List.getElem?_map, List.getD_eq_getElem?_getD]
  cases z : ds[i]? with
  | none => rfl
  | some d => rfl
theorem getD_range {α : Type} {f : Nat → α} {n i : Nat} {d : α} (h : i < n) : ((List.range n).map f).getD i d = f i := by
  rw [List.getD_eq_getElem?_getD, List.getElem?_map, List.getElem?_range h]
  rfl
end
end OR

namespace K03
open PySem PySem.Spec PyProof.Rows L2 OR
local macro_rules | `(tactic| walk_at "dw1") => `(tactic| first
  | with_reducible refine ws_seq ?_
  | with_reducible refine ws_asg ?_
  | with_reducible refine ws_drop ?_
  | with_reducible refine ws_ret ?_
  | with_reducible refine ws_if ?_
  | with_reducible refine ws_next ?_
  | with_reducible refine ws_par ?_
  | with_reducible refine ws_par3 ?_
  | with_reducible refine we_int ?_
  | with_reducible refine we_bl ?_
  | with_reducible refine we_str ?_
  | with_reducible refine we_non ?_
  | with_reducible refine we_op ?_
  | with_reducible refine we_un ?_
  | with_reducible refine we_tup ?_
  | with_reducible refine we_lst ?_
  | with_reducible refine we_if ?_
  | with_reducible refine we_andV ?_
  | with_reducible refine we_orV ?_
  | with_reducible refine we_notV ?_
  | with_reducible refine we_chain ?_
  | with_reducible refine we_call0 ?_
  | with_reducible refine we_cb ?_
  | with_reducible refine we_sl ?_
  | with_reducible refine wo_none ?_
  | with_reducible refine wo_some ?_
  | with_reducible refine wa_cons ?_
  | with_reducible refine wa_nil ?_
  | with_reducible refine wt_test ?_
  | with_reducible refine wt_b ?_
  | with_reducible refine wt_and ?_
  | with_reducible refine wt_or ?_
  | with_reducible refine wt_not ?_
  | with_reducible refine wt_yes ?_
  | with_reducible refine wg_name ?_
  | with_reducible refine wi_rng1 ?_
  | with_reducible refine wi_rng2 ?_
  | with_reducible refine wi_tup ?_
  | with_reducible refine wi_list ?_
  | with_reducible refine wi_enum ?_
  | with_reducible refine wi_str ?_
  | with_reducible refine rw_I0i ?_
  | with_reducible refine rw_I0b ?_
  | with_reducible refine ru_i ?_
  | with_reducible refine rw_eqi ?_
  | with_reducible refine rw_nei ?_
  | with_reducible refine rw_eqs ?_
  | with_reducible refine rw_nes ?_
  | with_reducible refine rsl_tup ?_
  | with_reducible refine rl_lenT ?_
  | with_reducible refine rl_tupT ?_
  | with_reducible refine rl_abs ?_
  | with_reducible refine rl_2 ?_
  | with_reducible refine rl_inti ?_
  | with_reducible refine rl_intb ?_
  | with_reducible refine rw_isN ?_
  | with_reducible refine rw_notN ?_
  | with_reducible refine rs_turn ?_
  | with_reducible refine rs_back ?_
  | with_reducible refine rs_about ?_
  | refine we_var rfl ?_
  | ((with_reducible show WG _ (gTup _ _ _) _ _ _ _); refine wg_tup rfl ?_)
  | ((with_reducible show WGs _ (gCons _ _) _ _ _ _); refine wgs_cons ?_)
  | ((with_reducible show WGs _ gNil _ _ _ _); refine wgs_nil ?_)
  | ((with_reducible show WE _ (tBM _ _ rAppend _ _) _ _ _); refine we_append ?_)
  | ((with_reducible show ∃ k, _ = Vd.bl k ∧ _); refine ⟨_, rfl, ?_⟩)
  | ((with_reducible show ∃ ds, undats _ = some ds ∧ _ ∧ _); refine ⟨_, rfl, Nat.le_of_ble_eq_true rfl, ?_⟩)
  | ((with_reducible show ∃ i, _ = Vd.int i ∧ _); refine ⟨_, rfl, ?_⟩)
  | ((with_reducible show List.length _ ≤ 1000000 ∧ _); refine ⟨Nat.le_of_ble_eq_true rfl, fun _ => ?_⟩)
  | ((with_reducible show ∃ (n : Nat) (p : Addr) (xs : List Vd), _ = Vd.ref p ∧ _); first
      | refine ⟨0, _, _, rfl, rfl, ?_⟩ | refine ⟨1, _, _, rfl, rfl, ?_⟩ | refine ⟨2, _, _, rfl, rfl, ?_⟩ | refine ⟨3, _, _, rfl, rfl, ?_⟩))
local macro_rules | `(tactic| walk_at "dw") => `(tactic| repeat walk_at "dw1")
/-! ### len(set(t)), t a tuple of tuples of ints -/
section
variable {P : Program} {w : World} {A : Around} {E : Value → Shared → Prop} {s : Shared}
set_option maxRecDepth 100000 in
set_option maxHeartbeats 3200000 in
theorem set_of_tup {l : Addr} {items : Array Value} (ks : List (Addr × List Int)) {Q : Value → Shared → Prop} (calm : A.handled = none) (src : s.heap.IsTuple l items) (its : items.toList = ks.map fun p => Value.ref p.1)
    (tups : ∀ p ∈ ks, IsT P w s.heap p.2 p.1) (few : ks.length < 64) (room : A.units + 3 < cLine)
    (h : ∀ (g : Heap) (tk : Nat) L es ep t, SetTR P w g s.heap.objs.size L es ep t → Got ks ks.length L → (∀ b o, s.heap.get? b = some o → g.get? b = some o) → Q (.ref s.heap.objs.size) { s with heap := g, toks := tk }) :
    wpAny (model P w) A (call (.type "set") [.ref l]) Q E s := by
  have size : items.size = ks.length := by
    have q := congrArg List.length its
    rw [Array.length_toList, List.length_map] at q
    exact q
  obtain ⟨c, tl, mro⟩ := F.called_set.mro
  have made := F.called_set.made
  have sub := F.called_set.sub
  refine wpAny_call (codeAny_of_tree ?_)
  show wpAny _ _ (callAny (.type "set") _) _ _ _
  refine wpAny_pure ⟨Code.quiet_builtin _ (by decide +kernel), codeAny_builtin F.entry_type_call ?_⟩
  rw [Around.under_plain (weight_type_call_type "set" [.ref l] []) rfl]
  have k1 := F.called_set.notType
  have k2 := F.called_set.canCreate
  have k3 := F.typeCall_set_1 (.ref l)
  repeat any_goals first | assumption | wp_step
  let S0 : Obj := { cls := .type "set", dict := none, data := .set #[] 0 (.fresh 0 0 (!w.params.followText "set-order")) }
  refine codeAny_mono (code_set_led1 (.ref l) (E := E) (Q₁ := fun obj s1 => obj = .ref s.heap.objs.size ∧ s1 = { s with heap := s.heap.push S0 }) ⟨rfl, rfl⟩) fun r s1 hr => ?_
  cases r with
  | error e => exact hr
  | ok fl =>
    cases fl with
    | next => exact hr.elim
    | brk => exact hr.elim
    | cont => exact hr.elim
    | ret obj =>
      obtain ⟨rfl, rfl⟩ := hr
      have at0 : (s.heap.push S0).get? s.heap.objs.size = some S0 := Heap.get?_push_size _ rfl
      have ty0 : Shared.TypeIs { s with heap := s.heap.push S0 } (.ref s.heap.objs.size) "set" := ⟨_, at0, rfl⟩
      have l1 := F.called_set.init.lookup
      have l2 := F.called_set.init.bind (.ref s.heap.objs.size)
      repeat any_goals first | assumption | wp_step
      refine codeAny_mono (codeAny_call_builtin (R := wants (fun r t2 => r = .none ∧ ∃ g tk L es ep t, t2 = { s with heap := g, toks := tk } ∧ SetTR P w g s.heap.objs.size L es ep t ∧ Got ks ks.length L ∧ (∀ b o, s.heap.get? b = some o → g.get? b = some o)) E)
        F.called_set.init.plain F.entry_set_init (check_set_init_1 ty0 ?_)) fun r2 t2 hr2 => ?_
      · obtain ⟨⟨oc, od, odt, osl⟩, ol, cl, nl, dl⟩ := src
        simp only at cl dl
        subst cl dl
        have ol' : (s.heap.push S0).get? l = some { cls := .type "tuple", dict := od, data := .seq items nl, slots := osl } := Heap.get?_push_of_some _ ol
        have u1 := F.sub_tuple_set
        have u2 := F.sub_tuple_frozenset
        have u3 : (Value.type "tuple" == Value.type "dict") = false := by decide
        have src1 : (s.heap.push S0).IsTuple l items := ⟨_, ol', rfl, nl, rfl⟩
        unfold Builtin.«set.__init__» noKeywords Builtin.Frozenset.updateFrom
        generalize hPI : pyIter = PI
        wp_walk
        subst hPI
        refine wpAny_pyIter_tuple src1 (wpAny_bind (wpAny_runValue ?_))
        have below : l < s.heap.objs.size := Heap.lt_size ol
        have calm3 : A.in1.in1.in1.handled = none := by simp [calm]
        have apart : l ≠ (s.heap.push S0).objs.size := by
          rw [Heap.size_push]
          exact Nat.ne_of_lt (Nat.lt_succ_of_lt below)
        have offs : s.heap.objs.size ∉ [(s.heap.push S0).objs.size, l] := by
          rw [Heap.size_push]
          simp only [List.mem_cons, List.not_mem_nil, or_false, not_or]
          exact ⟨Nat.ne_of_lt (Nat.lt_succ_self _), Nat.ne_of_gt below⟩
        have val : ∀ (i : Nat) (v : Value), items[i]? = some v → ∃ p, ks[i]? = some p ∧ v = .ref p.1 := fun i v hv => by
          have q : items.toList[i]? = some v := by
            rw [Array.getElem?_toList]
            exact hv
          rw [its, List.getElem?_map] at q
          match hq : ks[i]?, q with
          | some p, q => exact ⟨p, rfl, (Option.some.inj q).symm⟩
        have none_ : ∀ b, s.heap.objs.size ≤ b → s.heap.get? b = none := fun b hb => match q : s.heap.get? b with
          | none => rfl
          | some o => absurd (Nat.lt_of_lt_of_le (Heap.lt_size q) hb) (Nat.lt_irrefl _)
        refine set_update_tups ((Walks.tuple calm3 _ l apart items).toS) s.heap.objs.size offs ks size few val s.heap tups (none_ _ (Nat.le_refl _)) (fun b hb => none_ b (by rw [List.mem_singleton.mp hb, Heap.size_push]; exact Nat.le_succ _)) room (items.size - 0) 0 _ (by omega) (Nat.zero_le _)
          ⟨⟨_, Heap.get?_push_size _ rfl, rfl, rfl⟩, src1.push _⟩ (fun b o e => Heap.get?_push_of_some _ (Heap.get?_push_of_some _ e)) ⟨[], #[], 0, _, setTR_fresh (Heap.get?_push_of_some _ at0), Got.zero ks⟩ fun t3 L es ep t moved held got kept => ?_
        obtain ⟨g3, gs3, d3, tk3, os3⟩ := t3
        have e1 : gs3 = s.gens := moved.gens
        have e2 : d3 = s.drawn := moved.drawn
        have e3 : os3 = s.os := moved.os
        subst e1 e2 e3
        rw [size] at got
        exact wpAny_pure (show wpAny _ _ (ret Value.none) _ _ _ from wpAny_pure ⟨rfl, g3, tk3, L, es, ep, t, rfl, held, got, kept⟩)
      · cases r2 with
        | error e => exact hr2
        | ok fl2 =>
          cases fl2 with
          | next => exact hr2.elim
          | brk => exact hr2.elim
          | cont => exact hr2.elim
          | ret r =>
            obtain ⟨rfl, g, tk, L, es, ep, t, rfl, held, got, kept⟩ := hr2
            repeat any_goals first | assumption | wp_step
            exact h _ _ _ _ _ _ held got kept
end
section
variable {X : Cx}
/-- set(t), t a tuple of tuples of ints -/
def rSetOfTT (K : PySem.W.Frag) (P : Program) (w : World) : List V → Hp → VK → Prop := fun xs H Q => ∃ (l : Addr) (ks : List (Addr × List Int)), xs = [V.ref l] ∧ SqT K H l (ks.map fun p => V.ref p.1) ∧ (∀ p ∈ ks, SqT K H p.1 (p.2.map V.int)) ∧ ks.length < 64 ∧
  ∀ a L, H a = none → (L.map (·.2)).Nodup → (∀ p ∈ L, p ∈ ks) → (∀ p ∈ ks, p.2 ∈ L.map (·.2)) → Q (.ref a) (upd H a (SetTO P w a L))
theorem cr_setOfTT (hc : X.calm = true) (hu : X.A.units + 64 < cLine) : CallR X (.type "set") (rSetOfTT X.K X.prog X.w) := by
  intro pins s σ H xs us Q I r h
  obtain ⟨l, ks, rfl, hl, hk, hf, q⟩ := h
  rw [Vals.ref1 r]
  obtain ⟨its, rv, pl, hz⟩ := I.tuple hl
  have hn : H s.heap.objs.size = none := I.hok.fresh (Nat.le_refl _)
  refine set_of_tup (P := X.prog) (w := X.w) ks (I.ok.hd hc) pl (by simpa using refs_of_vals rv) (fun p hp => I.isT (hk p hp)) hf (by omega) fun h' tk L es ep t R g k => ?_
  refine ⟨.ref s.heap.objs.size, upd H s.heap.objs.size (SetTO X.prog X.w s.heap.objs.size L), I.laid (t' := tk) k (Nat.le_refl _) (setTO_new R.t0), rfl, q _ L hn R.nd (fun p hp => ?_) fun p hp => ?_⟩
  · exact List.mem_of_mem_take (g.sub p hp)
  · exact g.all p (by rw [List.take_length]; exact hp)
theorem cr_lenSetT : CallR X (.builtin "len") (fun xs H Q => ∃ (a : Addr) (L : List (Addr × List Int)), xs = [.ref a] ∧ H a = some (SetTO X.prog X.w a L) ∧ Q (.int L.length) H) := by
  intro pins s σ H xs us Q I r h
  obtain ⟨a, L, rfl, ha, q⟩ := h
  rw [Vals.ref1 r]
  have R : SetT0 X.prog X.w s.heap a L := (I.hok a _ ha).1
  obtain ⟨es, ep, t, ⟨o, ho, hex, hd⟩, rows, tab, nd, pl, ld, room, few⟩ := R.ex
  have hs : es.size = L.length := by
    have z := congrArg List.length rows
    unfold rowsOf at z
    rw [Array.length_toList, List.length_map] at z
    exact z
  have hf : t.fits es.size = true := by
    have h1 := tab.sz
    rw [List.length_map] at h1
    unfold SetTable.fits SetTable.fill
    rw [tab.dm, Bool.and_eq_true, beq_iff_eq, decide_eq_true_eq]
    show t.place.size = es.size ∧ t.place.size + 0 ≤ t.mask
    omega
  refine call_len_set ho hex hd hf (by rw [hs]; omega) ⟨.int L.length, H, I.tok _, ⟨_, by rw [hs]⟩, q⟩
end
/-! ### tuple * n, n from 0 on -/
section
theorem tuple_mul1 (l : Addr) (items : Array Value) (n : Nat) (dd : Option Addr) (sl : Array (Option Value)) (u : Tok) :
    Meets (Builtin.«tuple.__mul__» ⟨[.ref l, .int 1 u], []⟩) (fun _ R s => s.heap.get? l = some { cls := .type "tuple", dict := dd, data := .seq items n, slots := sl } ∧ R (.ok (.ret (Value.ref l))) s) :=
  .of_wp fun prog w A R s h => by
    obtain ⟨hp, g, d, tk, os⟩ := s
    obtain ⟨hl, h⟩ := h
    have f1 := AutoSeq1.idx_int
    have c0 : (decide ((1 : Int) < -(2 ^ 63)) || decide ((1 : Int) ≥ 2 ^ 63)) = false := by decide
    have c1 : (items.isEmpty || (1 : Int) == 1) = true := by simp
    wp_walk using wpAny_loadPart' hl
    repeat (first
      | (refine wpAny_ite_false (decide_eq_false (by rw [c0]; exact Bool.false_ne_true)) ?_; wp_walk using wpAny_loadPart' hl)
      | (refine wpAny_ite_true (decide_eq_true c1) ?_; wp_walk using wpAny_loadPart' hl))
    exact ⟨_, rfl, h⟩
theorem tuple_mul0 (l : Addr) (items : Array Value) (n : Nat) (dd : Option Addr) (sl : Array (Option Value)) (u : Tok) (he : items.isEmpty = false) :
    Meets (Builtin.«tuple.__mul__» ⟨[.ref l, .int 0 u], []⟩) (fun _ R s => s.heap.get? l = some { cls := .type "tuple", dict := dd, data := .seq items n, slots := sl } ∧
      R (.ok (.ret (Value.ref s.heap.objs.size))) { s with heap := s.heap.push { cls := Value.type "tuple", data := Data.seq #[] }, toks := s.toks }) :=
  .of_wp fun prog w A R s h => by
    obtain ⟨hp, g, d, tk, os⟩ := s
    obtain ⟨hl, h⟩ := h
    have f1 := AutoSeq1.idx_int
    have c0 : (decide ((0 : Int) < -(2 ^ 63)) || decide ((0 : Int) ≥ 2 ^ 63)) = false := by decide
    have c1 : (items.isEmpty || (0 : Int) == 1) = false := by rw [he]; decide
    have c2 : (decide ((0 : Int) ≤ 0) || items.isEmpty) = true := by simp
    wp_walk using wpAny_loadPart' hl
    repeat (first
      | (refine wpAny_ite_false (decide_eq_false (by rw [c0]; exact Bool.false_ne_true)) ?_; wp_walk using wpAny_loadPart' hl)
      | (refine wpAny_ite_false (decide_eq_false (by rw [c1]; exact Bool.false_ne_true)) ?_; wp_walk using wpAny_loadPart' hl)
      | (refine wpAny_ite_true (decide_eq_true c2) ?_; wp_walk using wpAny_loadPart' hl))
    exact ⟨_, rfl, h⟩
variable {X : Cx}
def rRepA (K : PySem.W.Frag) : R2 := fun x y H Q => ∃ l k xs, x = .ref l ∧ y = .int k ∧ SqT K H l xs ∧ xs ≠ [] ∧ 0 ≤ k ∧ k ≤ 1000 ∧ xs.length ≤ 1000 ∧ (k = 1 → Q (.ref l) H) ∧ (k ≠ 1 → ∀ p, H p = none → Q (.ref p) (upd H p (.tup (List.replicate k.toNat xs).flatten)))
theorem op_repA : OpR X (binaryOp .Mult) (rRepA X.K) := by
  intro pins s σ H x y v u Q I rx ry h
  obtain ⟨l, k, xs, rfl, rfl, hT, hne, h1, h2, hz, q1, q2⟩ := h
  by_cases k2 : 2 ≤ k
  · exact op_repT pins s σ H _ _ v u Q I rx ry ⟨l, k, xs, rfl, rfl, hT, hne, k2, h2, hz, q2 (by omega)⟩
  cases rx
  obtain ⟨t, rfl⟩ := ry
  obtain ⟨its, r, ⟨⟨cls, dd, data, sl⟩, ho, hc, n, hd⟩, hs⟩ := I.tuple hT
  simp only at hc hd
  subst hc hd
  have hle : its.length = xs.length := r.length.symm
  have hn : its ≠ [] := fun e => hne (by
    rw [e] at hle
    exact List.eq_nil_of_length_eq_zero hle.symm)
  have hi : its.toArray.isEmpty = false := by
    cases its with
    | nil => exact absurd rfl hn
    | cons a b => rfl
  have k01 : k = 0 ∨ k = 1 := by omega
  rcases k01 with rfl | rfl
  · refine wpAny_binaryOp_repeat_ref (T := "tuple") (U := "int") (by decide) ⟨_, ho, rfl⟩ (fun s' => typeIs_int s' 0 t) noFill_tuple_mul F.fills_int_mul F.slot_int_rmul repeat_tuple F.slot_int_index.lookup
      (call_meets F.slot_int_rmul (typeIs_int s 0 t) F.entry_int_rmul (F.args_int_rmul_2 _ _) (int_rmul_tuple 0 t l its.toArray n dd sl)
        ⟨ho, rfl, ⟨_, ho, rfl⟩, call_meets F.slot_tuple_mul ⟨_, ho, rfl⟩ F.entry_tuple_mul (F.args_tuple_mul_2 _ _) (tuple_mul0 l its.toArray n dd sl t hi) ⟨ho, ?_⟩⟩)
    refine ⟨.ref s.heap.objs.size, _, I.laid (t' := s.toks) (o := .tup (List.replicate (0 : Int).toNat xs).flatten) (fun b ob q => Heap.get?_push_of_some _ q) (Nat.le_refl _) ?_, rfl, q2 (by decide) _ (I.hok.fresh (Nat.le_refl _))⟩
    exact ⟨Nat.zero_le _, _, .nil, IsTup.new _ _⟩
  · refine wpAny_binaryOp_repeat_ref (T := "tuple") (U := "int") (by decide) ⟨_, ho, rfl⟩ (fun s' => typeIs_int s' 1 t) noFill_tuple_mul F.fills_int_mul F.slot_int_rmul repeat_tuple F.slot_int_index.lookup
      (call_meets F.slot_int_rmul (typeIs_int s 1 t) F.entry_int_rmul (F.args_int_rmul_2 _ _) (int_rmul_tuple 1 t l its.toArray n dd sl)
        ⟨ho, rfl, ⟨_, ho, rfl⟩, call_meets F.slot_tuple_mul ⟨_, ho, rfl⟩ F.entry_tuple_mul (F.args_tuple_mul_2 _ _) (tuple_mul1 l its.toArray n dd sl t) ⟨ho, ?_⟩⟩)
    exact ⟨.ref l, H, I, rfl, q1 rfl⟩
/-- the same of data -/
theorem r_repA {K : PySem.W.Frag} {H : Hp} {v : V} {ds : List PyData} {k : Int} {Q : VK} (h : DT K H v (.tuple ds)) (hne : ds ≠ []) (k0 : 0 ≤ k) (k1 : k ≤ 1000) (hl : ds.length ≤ 1000)
    (q : ∀ v' H', Same H H' → DT K H' v' (.tuple (List.replicate k.toNat ds).flatten) → Q v' H') : rRepA K v (.int k) H Q := by
  obtain ⟨a, xs, rfl, hs, hx⟩ := h.tupOf
  have hlen := hx.length
  refine ⟨a, k, xs, rfl, rfl, hs, fun z => hne ?_, k0, k1, by omega, fun e => ?_, fun e p np => ?_⟩
  · subst z
    exact List.eq_nil_of_length_eq_zero hlen.symm
  · subst e
    refine q _ _ (Same.refl H) ?_
    have e1 : (List.replicate (1 : Int).toNat ds).flatten = ds := by simp
    rw [e1]
    exact .tup hs hx
  · refine q _ _ (same_new np) (DT.new ?_ np)
    generalize k.toNat = m
    clear e q k0 k1
    induction m with
    | zero => exact .nil
    | succ m ih =>
      rw [List.replicate_succ, List.flatten_cons, List.replicate_succ, List.flatten_cons]
      exact hx.append ih
end
/-! ### the greatest of four whole numbers -/
theorem best_le (f : Nat → Int) : ∀ n, argBest (fun i j => decide (f i > f j)) n ≤ n ∧ ∀ k ≤ n, f k ≤ f (argBest (fun i j => decide (f i > f j)) n)
  | 0 => ⟨Nat.le_refl 0, fun k hk => by cases Nat.le_zero.mp hk; exact Int.le_refl _⟩
  | n + 1 => by
    obtain ⟨h1, h2⟩ := best_le f n
    unfold argBest
    by_cases h : f (n + 1) > f (argBest (fun i j => decide (f i > f j)) n)
    · rw [if_pos (decide_eq_true h)]
      refine ⟨Nat.le_refl _, fun k hk => ?_⟩
      by_cases e : k = n + 1
      · subst e
        exact Int.le_refl _
      · have := h2 k (by omega)
        omega
    · rw [if_neg (by rw [decide_eq_false h]; decide)]
      refine ⟨by omega, fun k hk => ?_⟩
      by_cases e : k = n + 1
      · subst e
        omega
      · exact h2 k (by omega)
section
variable {P : Program} {w : World} {A : Around} {E : Value → Shared → Prop} {s : Shared}
theorem args_max4 (a b c d : Value) : argsOk "max" ⟨[a, b, c, d], []⟩ := by unfold argsOk; kernel_rfl
theorem max4_ints {a b c d : Int} {t1 t2 t3 t4 : Tok} {Q : Value → Shared → Prop} (calm : A.handled = none)
    (h : ∀ g tk m t, a ≤ m → b ≤ m → c ≤ m → d ≤ m → (m = a ∨ m = b ∨ m = c ∨ m = d) → (∀ p o, s.heap.get? p = some o → g.get? p = some o) → Q (.int m t) { s with heap := g, toks := tk }) :
    wpAny (model P w) A (call (.builtin "max") [.int a t1, .int b t2, .int c t3, .int d t4]) Q E s := by
  let four : Array (Int × Tok) := #[(a, t1), (b, t2), (c, t3), (d, t4)]
  let T0 : Obj := { cls := .type "tuple", data := .seq #[.int a t1, .int b t2, .int c t3, .int d t4] }
  have tupT : (s.heap.push T0).IsTuple s.heap.objs.size (intItems four) := ⟨_, Heap.get?_push_size _ rfl, rfl, 0, by simp [intItems, four, T0]⟩
  have loop_ : (toString "max" ++ toString ".loop" : String) = "max.loop" := by decide
  refine call_function_tree F.kind_max F.plain_max F.entry_max (args_max4 _ _ _ _) ?_
  show wpAny _ A.in1 (Builtin.Builtins.bindParams "max" ["key", "default"] 0 ⟨[], []⟩ >>= _) _ _ s
  refine wpAny_bind (wpAny_of_eq (show Builtin.Builtins.bindParams "max" ["key", "default"] 0 ⟨[], []⟩ = pure [none, none] from rfl) ?_)
  show wpAny _ A.in1 (newTuple [.int a t1, .int b t2, .int c t3, .int d t4] >>= _) _ _ s
  refine wpAny_bind (wpAny_newObj_type ?_)
  refine wpAny_bind (wpAny_pyIter_tuple tupT ?_)
  have z1 : (s.heap.push T0).objs.size = s.heap.objs.size + 1 := Heap.size_push ..
  have below : s.heap.objs.size ≠ (s.heap.push T0).objs.size := by
    rw [z1]
    exact Nat.ne_of_lt (Nat.lt_succ_self _)
  have W := Walks.tuple (prog := P) (w := w) (A := A.in1) calm (s.heap.push T0).objs.size s.heap.objs.size below (intItems four)
  refine wpAny_bind (wpAny_newObj_type ?_)
  rw [loop_]
  have n4 : (intItems four).size = 4 := by simp [intItems, four]
  refine wpAny_pure ⟨plainId_quiet F.plain_max_loop _, codeAny_max_loop_first W _ (CmpOf.ints_gt (numAt four) (fun _ _ => intItems_at)) _ (fun hm => ?_) (by rw [n4]; decide) (W.frame _ _ _ ⟨⟨_, Heap.get?_push_size _ rfl, rfl, rfl⟩, tupT.push _⟩ fun p _ o e => Heap.get?_push_of_some _ e) (Heap.get?_push_size _ rfl) fun v g tk hP hk => ?_⟩
  · simp only [Heap.size_push, List.mem_cons, List.not_mem_nil, or_false] at hm
    rcases hm with e | e
    · have e2 : @Eq Nat _ _ := e
      omega
    · have e2 : @Eq Nat _ _ := e
      omega
  · obtain ⟨k1, k2⟩ := best_le (numAt four) 3
    have hP' : (intItems four)[argBest (fun i j => decide (numAt four i > numAt four j)) 3]? = some v := by
      rw [n4] at hP
      exact hP
    have kept : ∀ p o, s.heap.get? p = some o → g.get? p = some o := fun p o e => by
      have lt := Heap.lt_size e
      refine hk p o (fun hm => ?_) (fun z => ?_) (Heap.get?_push_of_some _ (Heap.get?_push_of_some _ (Heap.get?_push_of_some _ e)))
      · simp only [Heap.size_push, List.mem_cons, List.not_mem_nil, or_false] at hm
        have e2 : @Eq Nat _ _ := hm
        have lt2 : @LT.lt Nat _ _ _ := lt
        omega
      · simp only [Heap.size_push] at z
        have e2 : @Eq Nat _ _ := z
        have lt2 : @LT.lt Nat _ _ _ := lt
        omega
    have m0 := k2 0 (by decide)
    have m1 := k2 1 (by decide)
    have m2 := k2 2 (by decide)
    have m3 := k2 3 (by decide)
    generalize argBest (fun i j => decide (numAt four i > numAt four j)) 3 = K at *
    have hK : K = 0 ∨ K = 1 ∨ K = 2 ∨ K = 3 := by omega
    have e0 : numAt four 0 = a := by simp [numAt, four]
    have e1 : numAt four 1 = b := by simp [numAt, four]
    have e2 : numAt four 2 = c := by simp [numAt, four]
    have e3 : numAt four 3 = d := by simp [numAt, four]
    rw [e0] at m0
    rw [e1] at m1
    rw [e2] at m2
    rw [e3] at m3
    rcases hK with rfl | rfl | rfl | rfl
    · rw [e0] at m0 m1 m2 m3
      have ev : v = .int a t1 := by simpa [intItems, four] using hP'.symm
      rw [ev]
      exact h g tk a t1 m0 m1 m2 m3 (.inl rfl) kept
    · rw [e1] at m0 m1 m2 m3
      have ev : v = .int b t2 := by simpa [intItems, four] using hP'.symm
      rw [ev]
      exact h g tk b t2 m0 m1 m2 m3 (.inr (.inl rfl)) kept
    · rw [e2] at m0 m1 m2 m3
      have ev : v = .int c t3 := by simpa [intItems, four] using hP'.symm
      rw [ev]
      exact h g tk c t3 m0 m1 m2 m3 (.inr (.inr (.inl rfl))) kept
    · rw [e3] at m0 m1 m2 m3
      have ev : v = .int d t4 := by simpa [intItems, four] using hP'.symm
      rw [ev]
      exact h g tk d t4 m0 m1 m2 m3 (.inr (.inr (.inr rfl))) kept
end
theorem call_max4 {X : Cx} (hc : X.calm = true) : CallR X (.builtin "max") (fun xs H Q => ∃ a b c d, xs = [.int a, .int b, .int c, .int d] ∧ ∀ m, a ≤ m → b ≤ m → c ≤ m → d ≤ m → (m = a ∨ m = b ∨ m = c ∨ m = d) → Q (.int m) H) := by
  intro pins s σ H xs us Q I r h
  obtain ⟨a, b, c, d, rfl, q⟩ := h
  cases r with
  | cons r1 r => cases r with
    | cons r2 r => cases r with
      | cons r3 r => cases r with
        | cons r4 r =>
          cases r
          obtain ⟨t1, rfl⟩ := r1
          obtain ⟨t2, rfl⟩ := r2
          obtain ⟨t3, rfl⟩ := r3
          obtain ⟨t4, rfl⟩ := r4
          exact max4_ints (I.ok.hd hc) fun g tk m t h1 h2 h3 h4 h5 k => ⟨.int m, H, I.kept k, ⟨_, rfl⟩, q m h1 h2 h3 h4 h5⟩
/-! ### try with several clauses, the first of them (with a name) being the one that takes what the body raises -/
def endsAs (i : Nat) (D : Ends) : Ends := ⟨fun σ H => D.nx (σ.set i none) H, D.rt, fun σ H => D.bk (σ.set i none) H, fun σ H => D.ct (σ.set i none) H⟩
def wFirst (K : PySem.W.Frag) (c : Value) (i : Nat) (ts : Addr → Value → Option Addr → TS) (D : Ends) : WX := fun cls d σ H => PySem.W.exmOne K cls c = some true ∧ ∀ a, H a = none → ts a cls d (endsAs i D) (σ.set i (some (.ref a))) H
section
variable {X : Cx} {x n : Str} {c : Value} {i : Nat} {body suite : List Stmt} {first : Stmt} {np pos pos' : Pos} {tb : WX → TS} {ts : Addr → Value → Option Addr → TS} {rest : List ExceptHandler}
theorem ps_try_first (stk : X.stack = X.env :: X.outer) (frm : X.env.frame = some X.env.locals) (nd : X.N.Nodup) (place : X.N[i]? = some n) (own : X.env.kindOf n = some .local) (nm : Names X x c)
    (inner : ∀ (W : WX) (pn : List (Addr × Obj)) (xe : Value → Shared → Prop), Takes (X.tr pn xe) W → PassesOwn (model X.prog X.w) X.A X.env xe → PSs (X.tr pn xe) body (tb W))
    (outer : ∀ (a : Addr) (oe : Obj) (cls : Value) (d : Option Addr) (pn : List (Addr × Obj)), Zc cls d oe → (∃ fv, oe.data = .fields fv) → PSs (X.suite a ((a, oe) :: pn)) (first :: suite) (ts a cls d)) :
    PS X (.Try body (.ExceptHandler (some (.Name x np)) (some n) (first :: suite) pos' :: rest) [] [] pos) (fun D σ H => tb (wFirst X.K c i ts D) D σ H) := by
  constructor
  intro pins s0 σ0 H0 D I0 start0
  have good := I0.ok
  have frames : X.A.frames = some (X.env :: X.outer) := good.frames.trans (congrArg some stk)
  have caught : ∀ u s1, XE (X.tr (X.pn ++ pins) (fun e t1 => wpAny (model X.prog X.w) X.A (noteFrame e X.env) (fun _ t2 => wpAny (model X.prog X.w) X.A (setFlight e none) (fun _ t3 => wpAny (model X.prog X.w) X.A (handleBy e X.env (.ExceptHandler (some (.Name x np)) (some n) (first :: suite) pos' :: rest)) (SP X pins D) X.xe t3) X.xe t2) X.xe t1)) (wFirst X.K c i ts D) u s1 →
      wpAny (model X.prog X.w) X.A (noteFrame u X.env) (fun _ t2 => wpAny (model X.prog X.w) X.A (setFlight u none) (fun _ t3 => wpAny (model X.prog X.w) X.A (handleBy u X.env (.ExceptHandler (some (.Name x np)) (some n) (first :: suite) pos' :: rest)) (SP X pins D) X.xe t3) X.xe t2) X.xe s1 := by
    rintro u s1 ⟨ex, ground, inside, _, σ1, H1, cls, dct, rfl, I1, fresh, kept, flies, notIn, sameOs, bareG, matches_, goOn⟩
    rw [show (X.tr (X.pn ++ pins) _).stack = X.env :: X.outer from stk] at flies
    have J1 := I1.ofTry good
    refine Sky.land Zc.steady frames frm flies fun g1 fly1 up1 => ?_
    obtain ⟨ob1, fv1, at1, z1, dt1⟩ := fly1.there
    have offFrames : ex ∉ frs (X.env :: X.outer) := fun bad => by
      obtain ⟨_, ob, at2, isNot⟩ := fly1.2.2.1.mem bad
      cases at1.symm.trans at2
      exact isNot _ dt1
    have offOwn : ex ≠ X.env.locals := fun bad => offFrames (List.mem_filterMap.mpr ⟨X.env, List.mem_cons_self, by rw [frm, bad]⟩)
    have offOthers : ex ∉ X.fs := fun bad => (List.mem_filterMap.mp bad).elim fun ev hv => offFrames (List.mem_filterMap.mpr ⟨ev, List.mem_cons_of_mem _ hv.1, hv.2⟩)
    have landed1 : L2.Inv X pins σ1 H1 { s1 with heap := g1 } := J1.landed fresh fly1.1 (kept.trans up1) sameOs bareG
    have suite1 := landed1.suite at1 dt1 notIn offOwn offOthers
    have looks : PySem.W.Looks (model X.prog X.w) g1 (typeOf (.ref ex)) cls := fun _ _ _ _ k q => wpAny_typeOf_ref (k _ _ at1) (by rw [z1.1]; exact q)
    have hit := PySem.W.exm_one (M := model X.prog X.w) landed1.kIn looks matches_
    refine wpAny_handleBy_cons (codeAny_handlers_test ?_) (fun bad => nomatch bad)
    have asked : ∀ {Q : Value → Shared → Prop} {E : Value → Shared → Prop}, Q c { s1 with heap := g1 } → wpAny (model X.prog X.w) (X.A.mark (some (.ref ex))) (eval (.Name x np) X.env) Q E { s1 with heap := g1 } := fun q =>
      nm.2.2.elim (fun m => ld_glob (X := X.suite ex ((ex, ob1) :: (X.pn ++ pins))) suite1 nm.1 m q nm.2.1) fun m => ld_blt (X := X.suite ex ((ex, ob1) :: (X.pn ++ pins))) suite1 nm.1 m.1 m.2.1 q m.2.2 nm.2.1
    refine asked (hit.here (codeAny_handlers_suite_as (HandSPX.lands_againZ fly1 fun g2 fly2 up2 => ?_)))
    obtain ⟨ob2, fv2, at2, z2, dt2⟩ := fly2.there
    have landed2 : L2.Inv X pins σ1 H1 { s1 with heap := g2 } := J1.landed fresh fly2.1 ((kept.trans up1).trans up2) sameOs bareG
    have suite2 := landed2.suite at2 dt2 notIn offOwn offOthers
    refine store_ok (X := X.suite ex ((ex, ob2) :: (X.pn ++ pins))) (v := .ref ex) suite2 nd place (.inl own) rfl (fun s2 I2 => ?_) (.inr own)
    refine wpAny_mono ((outer ex ob2 cls dct (X.pn ++ pins) z2 ⟨_, dt2⟩).run [] s2 _ H1 _ I2 (goOn ex notIn)) (fun fl s3 done => ?_) (fun _ _ bad => bad.elim)
    match fl, done with
    | .next, ⟨_, _, I3, q3⟩ => exact gone_ok (I3.unsuite good) nd place own fun s4 I4 => ⟨_, _, I4, q3⟩
    | .brk, ⟨_, _, I3, q3⟩ => exact gone_ok (I3.unsuite good) nd place own fun s4 I4 => ⟨_, _, I4, q3⟩
    | .cont, ⟨_, _, I3, q3⟩ => exact gone_ok (I3.unsuite good) nd place own fun s4 I4 => ⟨_, _, I4, q3⟩
    | .ret _, ⟨_, _, _, I3, r3, q3⟩ => exact gone_ok (I3.unsuite good) nd place own fun s4 I4 => ⟨_, _, _, I4, r3, q3⟩
  refine wpAny_Try_except (wpAny_mono ((inner (wFirst X.K c i ts D) (X.pn ++ pins) _ caught PassesOwn.looking).run [] s0 σ0 H0 D (I0.toTry _) start0) (fun fl s1 done => ?_) fun _ _ h => h)
  match fl, done with
  | .next, ⟨_, _, I1, q1⟩ => exact wpAny_execs_nil ⟨_, _, I1.ofTry good, q1⟩
  | .brk, ⟨_, _, I1, q1⟩ => exact ⟨_, _, I1.ofTry good, q1⟩
  | .cont, ⟨_, _, I1, q1⟩ => exact ⟨_, _, I1.ofTry good, q1⟩
  | .ret _, ⟨_, _, _, I1, r1, q1⟩ => exact ⟨_, _, _, I1.ofTry good, r1, q1⟩
end
/-! ### rows of flat values as data -/
theorem dts_of {K : PySem.W.Frag} {H : Hp} {α : Type} (f : α → V) (g : α → PyData) (h : ∀ a, DT K H (f a) (g a)) : ∀ l : List α, DTs K H (l.map f) (l.map g)
  | [] => .nil
  | a :: l => .cons (h a) (dts_of f g h l)
theorem flat_shaped : ∀ {ds : List PyData}, (∀ d ∈ ds, d.canLay0 = true ∧ d.depth = 0) → SeqAt.shaped (.list ds) = true := by
  intro ds h
  have h1 : ∀ {ds : List PyData}, (∀ d ∈ ds, d.canLay0 = true ∧ d.depth = 0) → PyData.canLayAll0 ds = true ∧ PyData.depthAll ds ≤ 1 := by
    intro ds
    induction ds with
    | nil => intro _; exact ⟨rfl, by simp [PyData.depthAll]⟩
    | cons d ds ih =>
      intro h
      have i := ih fun q hq => h q (List.mem_cons_of_mem _ hq)
      have j := h d List.mem_cons_self
      refine ⟨by rw [PyData.canLayAll0, j.1, i.1]; rfl, ?_⟩
      rw [PyData.depthAll, j.2]
      omega
  have i := h1 h
  unfold SeqAt.shaped
  rw [PyData.canLay0, i.1, PyData.depth, decide_eq_true (by omega)]
  rfl
theorem nil_shaped : SeqAt.shaped (.list []) = true := flat_shaped (fun d h => (nomatch h))
/-! ### things, and the first word by which one is no engine -/
def isI : PyData → Bool
  | .int _ => true
  | _ => false
def rawRail (r : Str × Int) : PyData := .tuple [.str r.1, .int r.2]
def rawEng (x y w l : Int) (rs : List (Str × Int)) : PyData := .tuple [.int x, .int y, .int w, .int l, .tuple (rs.map rawRail)]
def isRail : PyData → Bool
  | .tuple [a, b] => isS a && isI b
  | _ => false
def isRails : PyData → Bool
  | .tuple rs => (decide (1 ≤ rs.length) && decide (rs.length ≤ 12)) && rs.all isRail
  | _ => false
def formOf : PyData → Bool
  | .tuple [a, b, c, e, r] => (isI a && (isI b && (isI c && isI e))) && isRails r
  | _ => false
def unRail : PyData → Str × Int
  | .tuple [.str s, .int c] => (s, c)
  | _ => ("", 0)
def isSh (z : Str) : Bool := decide (z = "l") || (decide (z = "s") || decide (z = "r"))
def shP (z : Str) : Sh := if z = "l" then .l else if z = "r" then .r else .s
def toSh (r : Str × Int) : Sh × Int := (shP r.1, r.2)
def dueRaw (x y w l : Int) (rs : List (Str × Int)) : Option Str :=
  if (1000000000 < x ∨ x < -1000000000) ∨ (1000000000 < y ∨ y < -1000000000) then some "far" else
  if ¬ (0 ≤ w ∧ w ≤ 3) then some "way" else
  if ¬ (l = 1 ∨ l = -1) then some "look" else
  if (rs.any fun r => !isSh r.1) = true then some "shape" else
  if (rs.any fun r => !(decide (0 ≤ r.2) && decide (r.2 ≤ 9))) = true then some "colour" else
  if ¬ (wst x y w (rs.map toSh)).1.dropLast.Nodup then some "twice" else none
def dueOf : PyData → Option Str
  | .tuple [.int x, .int y, .int w, .int l, .tuple rs] => if isRails (.tuple rs) = true then dueRaw x y w l (rs.map unRail) else some "form"
  | _ => some "form"
theorem isI_of {d : PyData} (h : isI d = true) : ∃ i, d = .int i := by
  cases d <;> first | exact ⟨_, rfl⟩ | cases h
theorem isS_of {d : PyData} (h : isS d = true) : ∃ i, d = .str i := by
  cases d <;> first | exact ⟨_, rfl⟩ | cases h
theorem isRail_of {d : PyData} (h : isRail d = true) : ∃ r, d = rawRail r := by
  unfold isRail at h
  split at h
  · rename_i a b
    rw [Bool.and_eq_true] at h
    obtain ⟨s, rfl⟩ := isS_of h.1
    obtain ⟨c, rfl⟩ := isI_of h.2
    exact ⟨(s, c), rfl⟩
  · cases h
theorem rails_of : ∀ {rs : List PyData}, rs.all isRail = true → ∃ qs : List (Str × Int), rs = qs.map rawRail
  | [], _ => ⟨[], rfl⟩
  | d :: rs, h => by
    rw [List.all_cons, Bool.and_eq_true] at h
    obtain ⟨r, rfl⟩ := isRail_of h.1
    obtain ⟨qs, rfl⟩ := rails_of h.2
    exact ⟨r :: qs, rfl⟩
theorem form_raw {d : PyData} (h : formOf d = true) : ∃ x y w l rs, d = rawEng x y w l rs ∧ 1 ≤ rs.length ∧ rs.length ≤ 12 := by
  unfold formOf at h
  split at h
  · rename_i a b c e r
    rw [Bool.and_eq_true, Bool.and_eq_true, Bool.and_eq_true, Bool.and_eq_true] at h
    obtain ⟨⟨h1, h2, h3, h4⟩, h5⟩ := h
    obtain ⟨x, rfl⟩ := isI_of h1
    obtain ⟨y, rfl⟩ := isI_of h2
    obtain ⟨w, rfl⟩ := isI_of h3
    obtain ⟨l, rfl⟩ := isI_of h4
    unfold isRails at h5
    split at h5
    · rename_i rs
      rw [Bool.and_eq_true, Bool.and_eq_true] at h5
      obtain ⟨qs, rfl⟩ := rails_of h5.2
      have h6 := of_decide_eq_true h5.1.1
      have h7 := of_decide_eq_true h5.1.2
      rw [List.length_map] at h6 h7
      exact ⟨x, y, w, l, qs, rfl, h6, h7⟩
    · cases h5
  · cases h
theorem all_raw (rs : List (Str × Int)) : (rs.map rawRail).all isRail = true := by
  rw [List.all_eq_true]
  intro d hd
  obtain ⟨r, _, rfl⟩ := List.mem_map.mp hd
  rfl
theorem un_raw (rs : List (Str × Int)) : (rs.map rawRail).map unRail = rs := by
  rw [List.map_map]
  have e : (unRail ∘ rawRail) = id := by
    funext r
    rfl
  rw [e, List.map_id]
theorem due_raw {x y w l : Int} {rs : List (Str × Int)} (h1 : 1 ≤ rs.length) (h2 : rs.length ≤ 12) : dueOf (rawEng x y w l rs) = dueRaw x y w l rs := by
  unfold rawEng dueOf
  have e : isRails (.tuple (rs.map rawRail)) = true := by
    show ((decide (1 ≤ (rs.map rawRail).length) && decide ((rs.map rawRail).length ≤ 12)) && (rs.map rawRail).all isRail) = true
    rw [all_raw, List.length_map, decide_eq_true h1, decide_eq_true h2]
    rfl
  show (if isRails (.tuple (rs.map rawRail)) = true then dueRaw x y w l ((rs.map rawRail).map unRail) else some "form") = _
  rw [if_pos e, un_raw]
theorem due_form {d : PyData} (h : formOf d = false) : dueOf d = some "form" := by
  unfold dueOf
  split
  · rename_i x y w l rs
    have e : isRails (.tuple rs) = false := h
    rw [e]
    rfl
  · rfl
theorem isSh_P {z : Str} (h : isSh z = true) : (shP z).str = z := by
  unfold isSh at h
  unfold shP
  by_cases h1 : z = "l"
  · rw [if_pos h1, h1]
    rfl
  · rw [if_neg h1]
    by_cases h2 : z = "r"
    · rw [if_pos h2, h2]
      rfl
    · rw [if_neg h2]
      rw [decide_eq_false h1, decide_eq_false h2, Bool.false_or, Bool.or_false] at h
      rw [of_decide_eq_true h]
      rfl
theorem raw_rails {rs : List (Str × Int)} (h : (rs.any fun r => !isSh r.1) = false) : rs.map rawRail = (rs.map toSh).map rail := by
  rw [List.map_map]
  refine List.map_congr_left fun r hr => ?_
  have hs : isSh r.1 = true := by
    cases e : isSh r.1 with
    | true => rfl
    | false =>
      have z : (rs.any fun r => !isSh r.1) = true := List.any_eq_true.mpr ⟨r, hr, by rw [e]; rfl⟩
      rw [h] at z
      cases z
  show PyData.tuple [.str r.1, .int r.2] = PyData.tuple [.str (shP r.1).str, .int r.2]
  rw [isSh_P hs]
theorem raw_eng {x y w l : Int} {rs : List (Str × Int)} (h : (rs.any fun r => !isSh r.1) = false) : rawEng x y w l rs = eng x y w l (rs.map toSh) := by
  unfold rawEng eng
  rw [raw_rails h]
theorem isSh_str (s : Sh) : isSh s.str = true := by cases s <;> decide +kernel
theorem shP_str (s : Sh) : shP s.str = s := by cases s <;> decide +kernel
def toRaw (r : Sh × Int) : Str × Int := (r.1.str, r.2)
theorem eng_raw (x y w l : Int) (rs : List (Sh × Int)) : eng x y w l rs = rawEng x y w l (rs.map toRaw) := by
  unfold rawEng eng
  rw [List.map_map]
  rfl
/-- an engine as a law draws it is let by -/
theorem due_drawn {x y w l : Int} {rs : List (Sh × Int)} (D : Drawn x y w l rs) (x0 : -1000000000 ≤ x) (x1 : x ≤ 1000000000) (y0 : -1000000000 ≤ y) (y1 : y ≤ 1000000000) : dueOf (eng x y w l rs) = none := by
  have ln := D.ln
  have ne : 1 ≤ rs.length := by
    have := D.ne
    cases rs with
    | nil => exact absurd rfl this
    | cons a b => rw [List.length_cons]; omega
  rw [eng_raw, due_raw (by rw [List.length_map]; exact ne) (by rw [List.length_map]; exact ln)]
  have e1 : ((rs.map toRaw).any fun r => !isSh r.1) = false := by
    rw [List.any_eq_false]
    intro r hr
    obtain ⟨q, _, rfl⟩ := List.mem_map.mp hr
    show ¬ ((!isSh q.1.str) = true)
    rw [isSh_str]
    decide
  have e2 : ((rs.map toRaw).any fun r => !(decide (0 ≤ r.2) && decide (r.2 ≤ 9))) = false := by
    rw [List.any_eq_false]
    intro r hr
    obtain ⟨q, hq, rfl⟩ := List.mem_map.mp hr
    have c := D.col q hq
    show ¬ ((!(decide (0 ≤ q.2) && decide (q.2 ≤ 9))) = true)
    rw [decide_eq_true c.1, decide_eq_true c.2]
    decide
  have e3 : (rs.map toRaw).map toSh = rs := by
    rw [List.map_map]
    have e : (toSh ∘ toRaw) = id := by
      funext r
      show (shP r.1.str, r.2) = r
      rw [shP_str]
    rw [e, List.map_id]
  unfold dueRaw
  rw [if_neg (by omega), if_neg (fun z => z ⟨D.w0, D.w3⟩), if_neg (fun z => z D.lk), e1, if_neg Bool.false_ne_true, e2, if_neg Bool.false_ne_true, e3, if_neg (fun z => z D.nd)]
/-! ### a list without doubles and another with the same members -/
theorem nodup_le {α : Type} [DecidableEq α] : ∀ {A B : List α}, A.Nodup → (∀ a ∈ A, a ∈ B) → A.length ≤ B.length ∧ (A.length = B.length → B.Nodup)
  | [], B, _, _ => ⟨Nat.zero_le _, fun h => by
    cases B with
    | nil => exact List.nodup_nil
    | cons b B => cases h⟩
  | a :: A, B, hn, hs => by
    have hb : a ∈ B := hs a List.mem_cons_self
    have ha : a ∉ A := (List.nodup_cons.mp hn).1
    have hA : A.Nodup := (List.nodup_cons.mp hn).2
    have sub : ∀ z ∈ A, z ∈ B.erase a := fun z hz => (List.mem_erase_of_ne (fun e => ha (by rw [← e]; exact hz))).mpr (hs z (List.mem_cons_of_mem _ hz))
    have lb : (B.erase a).length = B.length - 1 := List.length_erase_of_mem hb
    have pos : 0 < B.length := List.length_pos_of_mem hb
    have i1 := nodup_le hA sub
    refine ⟨by rw [List.length_cons]; omega, fun e => ?_⟩
    rw [List.length_cons] at e
    have nb := i1.2 (by omega)
    have na : a ∉ B.erase a := fun z => by
      have sub2 : ∀ q ∈ A, q ∈ (B.erase a).erase a := fun q hq => (List.mem_erase_of_ne (fun e => ha (by rw [← e]; exact hq))).mpr (sub q hq)
      have i2 := (nodup_le hA sub2).1
      rw [List.length_erase_of_mem z] at i2
      have := List.length_pos_of_mem z
      omega
    exact (List.perm_cons_erase hb).nodup_iff.mpr (List.nodup_cons.mpr ⟨na, nb⟩)
theorem fewer_iff {α : Type} [DecidableEq α] {A B : List α} (hn : A.Nodup) (h1 : ∀ a ∈ A, a ∈ B) (h2 : ∀ b ∈ B, b ∈ A) : A.length < B.length ↔ ¬ B.Nodup := by
  refine ⟨fun h hb => ?_, fun h => ?_⟩
  · have := (nodup_le hb h2).1
    omega
  · have i := nodup_le hn h1
    by_cases e : A.length = B.length
    · exact absurd (i.2 e) h
    · omega
theorem nodup_map {α β : Type} {f : α → β} (inj : ∀ a b, f a = f b → a = b) {l : List α} : (l.map f).Nodup ↔ l.Nodup := by
  unfold List.Nodup
  rw [List.pairwise_map]
  exact ⟨fun h => h.imp fun z e => z (congrArg f e), fun h => h.imp fun z e => z (inj _ _ e)⟩
/-! ### the road's first squares -/
theorem wst_step (x y w : Int) (rs : List (Sh × Int)) {i : Nat} (h : i < rs.length) : ∃ z, (wst x y w (rs.take (i + 1))).1 = (wst x y w (rs.take i)).1 ++ [z] := by
  rw [List.take_succ, List.getElem?_eq_getElem h]
  exact ⟨_, by rw [Option.toList_some, wst_snoc]⟩
theorem wst_pre (x y w : Int) (rs : List (Sh × Int)) : ∀ {i j : Nat}, i ≤ j → j ≤ rs.length → ∃ t, (wst x y w (rs.take j)).1 = (wst x y w (rs.take i)).1 ++ t
  | i, 0, h, _ => by cases Nat.le_zero.mp h; exact ⟨[], by simp⟩
  | i, j + 1, h, hj => by
    by_cases e : i = j + 1
    · subst e
      exact ⟨[], by simp⟩
    · obtain ⟨t, ht⟩ := wst_pre x y w rs (i := i) (j := j) (by omega) (by omega)
      obtain ⟨z, hz⟩ := wst_step x y w rs (i := j) (by omega)
      exact ⟨t ++ [z], by rw [hz, ht, List.append_assoc]⟩
theorem wst_drop (x y w : Int) (rs : List (Sh × Int)) {n : Nat} (h : rs.length = n + 1) : (wst x y w rs).1.dropLast = (wst x y w (rs.take n)).1 := by
  obtain ⟨z, hz⟩ := wst_step x y w rs (i := n) (by omega)
  rw [← h, List.take_length] at hz
  rw [hz, List.dropLast_concat]
theorem wst_hit {x y w : Int} {rs : List (Sh × Int)} {i : Nat} {seen : List (Int × Int)} {here : Int × Int} (hi : i < rs.length) (e : (wst x y w (rs.take i)).1 = seen ++ [here]) (hm : here ∈ seen) : ¬ (wst x y w rs).1.dropLast.Nodup := fun nd => by
  obtain ⟨n, hn⟩ : ∃ n, rs.length = n + 1 := ⟨rs.length - 1, by omega⟩
  rw [wst_drop x y w rs hn] at nd
  obtain ⟨t, ht⟩ := wst_pre x y w rs (i := i) (j := n) (by omega) (by omega)
  rw [ht, e] at nd
  have nd1 := (List.nodup_append.mp nd).1
  have h3 := (List.nodup_append.mp nd1).2.2
  exact h3 here hm here List.mem_cons_self rfl
/-! ### numbers of a bounded size -/
mutual
def bnd : PyData → Bool
  | .int i => decide (-(10 ^ 40) ≤ i) && decide (i ≤ 10 ^ 40)
  | .tuple ds => bndAll ds
  | .str x => (PyData.str x).canLay0
  | _ => true
def bndAll : List PyData → Bool
  | [] => true
  | d :: ds => bnd d && bndAll ds
end
theorem bndAll_iff : ∀ {ds : List PyData}, bndAll ds = true ↔ ∀ d ∈ ds, bnd d = true
  | [] => ⟨fun _ d h => (nomatch h), fun _ => by simp [bndAll]⟩
  | d :: ds => by
    rw [bndAll, Bool.and_eq_true, bndAll_iff (ds := ds)]
    exact ⟨fun h q hq => by
      rcases List.mem_cons.mp hq with rfl | hq
      · exact h.1
      · exact h.2 q hq, fun h => ⟨h d List.mem_cons_self, fun q hq => h q (List.mem_cons_of_mem _ hq)⟩⟩
theorem bnd_tup {ds : List PyData} : bnd (.tuple ds) = true ↔ ∀ d ∈ ds, bnd d = true := by
  rw [bnd]
  exact bndAll_iff
theorem bnd_int {i : Int} : bnd (.int i) = true ↔ -(10 ^ 40) ≤ i ∧ i ≤ 10 ^ 40 := by
  rw [bnd, Bool.and_eq_true, decide_eq_true_eq, decide_eq_true_eq]
theorem cut_mem {ds : List PyData} {lo hi : Option Int} {d : PyData} (h : d ∈ cutD ds lo hi) : d ∈ ds := List.mem_of_mem_drop (List.mem_of_mem_take h)
theorem bnd_mul {l : Int} (h : bnd (.int l) = true) : CMulW l l := by
  have h2 := bnd_int.mp h
  have hl : l.natAbs < 2 ^ 140 := by
    have : (10 : Int) ^ 40 < 2 ^ 140 := by decide
    omega
  have : l.natAbs.log2 < 140 ∨ l.natAbs = 0 := by
    by_cases z : l.natAbs = 0
    · exact .inr z
    · exact .inl ((Nat.log2_lt z).mpr hl)
  rcases this with h3 | h3
  · unfold CMulW
    omega
  · unfold CMulW
    rw [h3]
    decide
/-! ### TURNS, whatever is asked -/
theorem turns_in {K : PySem.W.Frag} {tA : Addr} {th1 th2 th3 : Int} {tu1 tu2 tu3 tt1 tt2 tt3 : Tok} {tnn : Nat} (tl : K.lookup tA = some ⟨.type "dict", none, .dict #[⟨th1, .str "l" tu1, .int (-1) tt1⟩, ⟨th2, .str "s" tu2, .int 0 tt2⟩, ⟨th3, .str "r" tu3, .int 1 tt3⟩] tnn, #[]⟩) (z : Str) :
    ∃ r, PySem.W.nsIn K tA z = some r ∧ r.isSome = isSh z := by
  unfold PySem.W.nsIn
  rw [tl]
  simp only [List.find?, Value.isStr]
  by_cases h1 : z = "l"
  · subst h1
    exact ⟨some (.int (-1) tt1), by simp, by show true = isSh "l"; decide +kernel⟩
  · have n1 : (("l" : Str) == z) = false := beq_eq_false_iff_ne.mpr (fun e => h1 e.symm)
    by_cases h2 : z = "s"
    · subst h2
      exact ⟨some (.int 0 tt2), by simp [n1], by show true = isSh "s"; decide +kernel⟩
    · have n2 : (("s" : Str) == z) = false := beq_eq_false_iff_ne.mpr (fun e => h2 e.symm)
      by_cases h3 : z = "r"
      · subst h3
        exact ⟨some (.int 1 tt3), by simp [n1, n2], by show true = isSh "r"; decide +kernel⟩
      · have n3 : (("r" : Str) == z) = false := beq_eq_false_iff_ne.mpr (fun e => h3 e.symm)
        refine ⟨none, ?_, ?_⟩
        · simp [n1, n2, n3, DictEntry.refKey]
        · unfold isSh
          rw [decide_eq_false h1, decide_eq_false h2, decide_eq_false h3]
          rfl
def tokOf {α : Type} (a b c : α) : Sh → α
  | .l => a
  | .s => b
  | .r => c
theorem turns_is {K : PySem.W.Frag} {tA : Addr} {th1 th2 th3 : Int} {tu1 tu2 tu3 tt1 tt2 tt3 : Tok} {tnn : Nat} (tl : K.lookup tA = some ⟨.type "dict", none, .dict #[⟨th1, .str "l" tu1, .int (-1) tt1⟩, ⟨th2, .str "s" tu2, .int 0 tt2⟩, ⟨th3, .str "r" tu3, .int 1 tt3⟩] tnn, #[]⟩) (s : Sh) :
    PySem.W.nsIn K tA s.str = some (some (.int s.t (tokOf tt1 tt2 tt3 s))) := by
  unfold PySem.W.nsIn
  rw [tl]
  simp only [List.find?, Value.isStr]
  cases s
  · rfl
  · rfl
  · rfl
def rNotK (K : PySem.W.Frag) (d : Addr) : R2 := fun x y H Q => ∃ (z : Str) (r : Option Value), x = .str z ∧ y = .ref d ∧ PySem.W.nsIn K d z = some r ∧ Q (.bl (!r.isSome)) H
theorem op_notInK {X : Cx} {K : PySem.W.Frag} {w : World} {d : Addr} (eK : X.K = K) (ew : X.w = w) (D : ∃ es n, KDict K w d es n) : OpR X (compareOp .NotIn) (rNotK K d) := by
  subst eK ew
  obtain ⟨es, n, D⟩ := D
  exact op_notIn_kd D
theorem exm_own {K : PySem.W.Frag} {C : Addr} (h1 : PySem.W.subIn K (.ref C) (.type "BaseException") = some true) (h2 : PySem.W.isClsIn K C = true) (h3 : PySem.W.typeIn K (.ref C) = some (.type "type")) (h4 : PySem.W.subIn K (.ref C) (.ref C) = some true) :
    PySem.W.exmOne K (.ref C) (.ref C) = some true := by
  have c1 : (PySem.W.subIn K (.ref C) (.type "BaseException") == some true) = true := by rw [h1] <;> rfl
  have c0 : (PySem.W.clsIn K C).isSome = true := h2
  have c2 : ((PySem.W.clsIn K C).isSome && PySem.W.typeIn K (.ref C) == some (.type "type")) = true := by rw [c0, h3] <;> rfl
  show (if (PySem.W.subIn K (.ref C) (.type "BaseException") == some true) = true then (if ((PySem.W.clsIn K C).isSome && PySem.W.typeIn K (.ref C) == some (.type "type")) = true then PySem.W.subIn K (.ref C) (.ref C) else none) else none) = _
  rw [if_pos c1, if_pos c2, h4]
/-! ### rows of texts and numbers, held against the empty row -/
theorem bnd_str {x : Str} : bnd (.str x) = true ↔ (PyData.str x).canLay0 = true := by
  rw [bnd]
theorem filt_any (f : Str × Int → Bool) : ∀ rs : List (Str × Int), ((rs.map rawRail).filter fun d => f (unRail d)) = (rs.filter f).map rawRail
  | [] => rfl
  | r :: rs => by
    rw [List.map_cons, List.filter_cons, List.filter_cons, filt_any f rs]
    show (if f r = true then _ else _) = _
    by_cases h : f r = true
    · rw [if_pos h, if_pos h, List.map_cons]
    · rw [if_neg h, if_neg h]
theorem eqv_nil (ds : List PyData) : PyData.eqv (.list ds) (.list []) = ds.isEmpty := by
  cases ds <;> simp [PyData.eqv, PyData.eqvAll]
theorem filt_empty (f : Str × Int → Bool) (rs : List (Str × Int)) {β : Type} (g : Str × Int → β) : (!((rs.filter f).map g).isEmpty) = rs.any f := by
  induction rs with
  | nil => rfl
  | cons r rs ih =>
    rw [List.filter_cons, List.any_cons]
    by_cases h : f r = true
    · rw [if_pos h, h]
      rfl
    · rw [if_neg h, ih, Bool.eq_false_iff.mpr h, Bool.false_or]
def optV : Option Str → V
  | none => .non
  | some z => .str z
/-! ### a row of flat values made of a tuple of data -/
theorem lc_data {K : PySem.W.Frag} {H : Hp} {a D : Addr} {xs : List V} {ds : List PyData} {g : TG} {tt : TT} {te : TE} {vs : List Nat} {σ : L2.St} {Qd : Hp → Prop} (keep : PyData → Bool) (f : PyData → V)
    (hs : SqT K H a xs) (hx : DTs K H xs ds) (hl : ds.length ≤ 1000) (nD : H D = none)
    (step : ∀ d v H', d ∈ ds → Same H H' → DT K H' v d → ∀ (R : V → Hp → Prop) (Z : Hp → Prop), (keep d = true → ∀ H2, Same H' H2 → R (f d) H2) → (keep d = false → ∀ H2, Same H' H2 → Z H2) →
      g v (wipe σ vs) H' fun σ2 H2 => wipe σ2 vs = wipe σ vs ∧ tt σ2 H2 fun b H3 => if b = true then te σ2 H3 R else Z H3)
    (hd : ∀ H', Same H H' → H' D = some (.lst ((ds.filter keep).map f)) → Qd H') :
    ∃ W : Nat → Nat → Hp → Prop, (∃ m, W 0 m (upd H D (.lst []))) ∧ ∀ i m H, W i m H →
      ((Itt K a).stop i H ∧ Qd H) ∨ ((Itt K a).go i H ∧ ∃ Nx : Hp → Prop, (∀ H', Nx H' → ∃ m', m' < m ∧ W (i + 1) m' H') ∧ ∀ x H', (Itt K a).yld i H x H' → g x (wipe σ vs) H' fun σ2 H2 => wipe σ2 vs = wipe σ vs ∧ tt σ2 H2 fun b H3 =>
        if b = true then te σ2 H3 fun y H4 => ∃ acc, H4 D = some (.lst acc) ∧ acc.length < sizeLine ∧ Nx (upd H4 D (.lst (acc ++ [y]))) else Nx H3) := by
  refine lc_tup (xs := xs) (fun i H' => Same H H' ∧ H' D = some (.lst (((ds.take i).filter keep).map f))) ⟨same_new nD, upd_same⟩ (fun i H' _ hP => tk_seq (tk_same hP.1) hs) (fun i x H' hi hP => ?_) (fun H' hP => ?_)
  · obtain ⟨s1, hD⟩ := hP
    obtain ⟨d, hd1, dv⟩ := hx.getV hi
    have tk1 : ds.take (i + 1) = ds.take i ++ [d] := by
      rw [List.take_succ, hd1]
      rfl
    have hi2 : i < ds.length := (List.getElem?_eq_some_iff.mp hd1).1
    refine step d x H' (List.mem_of_getElem? hd1) s1 (dv.up (tk_same s1)) _ _ (fun hk H2 s2 => ?_) (fun hk H2 s2 => ?_)
    · refine ⟨_, s2 _ _ hD, ?_, fun b o h => ?_, ?_⟩
      · rw [List.length_map]
        have h1 := List.length_filter_le keep (ds.take i)
        rw [List.length_take] at h1
        exact small1000 (by omega)
      · rw [upd_ne (ne_of_none h nD)]
        exact s2 _ _ (s1 _ _ h)
      · rw [upd_same, tk1, List.filter_append, List.map_append, List.filter_cons, if_pos hk]
        rfl
    · refine ⟨s1.trans s2, ?_⟩
      rw [tk1, List.filter_append, List.filter_cons, if_neg (by rw [hk]; decide), List.filter_nil, List.append_nil]
      exact s2 _ _ hD
  · obtain ⟨s1, hD⟩ := hP
    rw [hx.length, List.take_length] at hD
    exact hd H' s1 hD
theorem filter_all {α : Type} (l : List α) : l.filter (fun _ => true) = l := by
  induction l with
  | nil => rfl
  | cons a l ih => rw [List.filter_cons, if_pos rfl, ih]
def topS (i : Nat) : Stmt := PySem.Challenge.pw_ownrail_k03_things_that_are_engines.main.body.getD i (.Pass ⟨0, 0, 0, 0⟩)
abbrev s_way_on : Stmt := topS 6
abbrev N_way_on : List Str := ["way", "shape"]
theorem sc_way_on : FnScope N_way_on ["way", "shape"] (defScope s_way_on) := ⟨rfl, rfl, rfl, by decide +kernel, rfl, by decide +kernel, by decide +kernel⟩
abbrev s_onward : Stmt := topS 7
abbrev N_onward : List Str := ["square", "way", "steps", "x", "y", "dx", "dy"]
theorem sc_onward : FnScope N_onward ["square", "way", "steps"] (defScope s_onward) := ⟨rfl, rfl, rfl, by decide +kernel, rfl, by decide +kernel, by decide +kernel⟩
abbrev s_is_whole : Stmt := topS 12
abbrev N_is_whole : List Str := ["thing"]
theorem sc_is_whole : FnScope N_is_whole ["thing"] (defScope s_is_whole) := ⟨rfl, rfl, rfl, by decide +kernel, rfl, by decide +kernel, by decide +kernel⟩
abbrev s_has_rail_form : Stmt := topS 13
abbrev N_has_rail_form : List Str := ["thing", "shape", "colour"]
theorem sc_has_rail_form : FnScope N_has_rail_form ["thing"] (defScope s_has_rail_form) := ⟨rfl, rfl, rfl, by decide +kernel, rfl, by decide +kernel, by decide +kernel⟩
abbrev s_has_rails_form : Stmt := topS 14
abbrev N_has_rails_form : List Str := ["thing", "rail"]
theorem sc_has_rails_form : FnScope N_has_rails_form ["thing"] (defScope s_has_rails_form) := ⟨rfl, rfl, rfl, by decide +kernel, rfl, by decide +kernel, by decide +kernel⟩
abbrev s_has_engine_form : Stmt := topS 15
abbrev N_has_engine_form : List Str := ["thing", "x", "y", "way", "look", "rails", "part"]
theorem sc_has_engine_form : FnScope N_has_engine_form ["thing"] (defScope s_has_engine_form) := ⟨rfl, rfl, rfl, by decide +kernel, rfl, by decide +kernel, by decide +kernel⟩
abbrev s_look_engine : Stmt := topS 16
abbrev N_look_engine : List Str := ["thing", "x", "y", "way", "look", "rails", "shape", "colour"]
theorem sc_look_engine : FnScope N_look_engine ["thing"] (defScope s_look_engine) := ⟨rfl, rfl, rfl, by decide +kernel, rfl, by decide +kernel, by decide +kernel⟩
abbrev s_lies_twice : Stmt := topS 17
abbrev N_lies_twice : List Str := ["engine", "squares"]
theorem sc_lies_twice : FnScope N_lies_twice ["engine"] (defScope s_lies_twice) := ⟨rfl, rfl, rfl, by decide +kernel, rfl, by decide +kernel, by decide +kernel⟩
abbrev s_walk : Stmt := topS 18
abbrev N_walk : List Str := ["engine", "many", "x", "y", "way", "look", "rails", "square", "places", "at", "shape", "colour"]
theorem sc_walk : FnScope N_walk ["engine", "many"] (defScope s_walk) := ⟨rfl, rfl, rfl, by decide +kernel, rfl, by decide +kernel, by decide +kernel⟩
abbrev s_squares_of : Stmt := topS 19
abbrev N_squares_of : List Str := ["engine", "x", "y", "way", "look", "rails", "square", "onto"]
theorem sc_squares_of : FnScope N_squares_of ["engine"] (defScope s_squares_of) := ⟨rfl, rfl, rfl, by decide +kernel, rfl, by decide +kernel, by decide +kernel⟩
abbrev s__law_box : Stmt := topS 21
abbrev N__law_box : List Str := ["_law_script", "_law_k", "_law_cell", "_law_seed"]
theorem sc__law_box : FnScope N__law_box ["_law_script", "_law_k"] (defScope s__law_box) := ⟨rfl, rfl, rfl, by decide +kernel, rfl, by decide +kernel, by decide +kernel⟩
abbrev s__law_take : Stmt := topS 22
abbrev N__law_take : List Str := ["_law_box_here", "_law_many", "_law_digit", "_law_one"]
theorem sc__law_take : FnScope N__law_take ["_law_box_here", "_law_many"] (defScope s__law_take) := ⟨rfl, rfl, rfl, by decide +kernel, rfl, by decide +kernel, by decide +kernel⟩
abbrev s__law_turned : Stmt := topS 23
abbrev N__law_turned : List Str := ["_law_way", "_law_shape"]
theorem sc__law_turned : FnScope N__law_turned ["_law_way", "_law_shape"] (defScope s__law_turned) := ⟨rfl, rfl, rfl, by decide +kernel, rfl, by decide +kernel, by decide +kernel⟩
abbrev s__law_on : Stmt := topS 24
abbrev N__law_on : List Str := ["_law_square", "_law_way", "_law_x", "_law_y"]
theorem sc__law_on : FnScope N__law_on ["_law_square", "_law_way"] (defScope s__law_on) := ⟨rfl, rfl, rfl, by decide +kernel, rfl, by decide +kernel, by decide +kernel⟩
abbrev s__law_engine : Stmt := topS 25
abbrev N__law_engine : List Str := ["_law_box_here", "_law_many", "_law_far", "_law_x", "_law_y", "_law_way", "_law_look", "_law_rails", "_law_squares", "_law_here", "_law_ahead", "_law_turn", "_law_shape", "_law_colour"]
theorem sc__law_engine : FnScope N__law_engine ["_law_box_here", "_law_many", "_law_far"] (defScope s__law_engine) := ⟨rfl, rfl, rfl, by decide +kernel, rfl, by decide +kernel, by decide +kernel⟩
abbrev s__law_is_whole : Stmt := topS 26
abbrev N__law_is_whole : List Str := ["_law_thing_here"]
theorem sc__law_is_whole : FnScope N__law_is_whole ["_law_thing_here"] (defScope s__law_is_whole) := ⟨rfl, rfl, rfl, by decide +kernel, rfl, by decide +kernel, by decide +kernel⟩
abbrev s__law_is_rail : Stmt := topS 27
abbrev N__law_is_rail : List Str := ["_law_thing_here"]
theorem sc__law_is_rail : FnScope N__law_is_rail ["_law_thing_here"] (defScope s__law_is_rail) := ⟨rfl, rfl, rfl, by decide +kernel, rfl, by decide +kernel, by decide +kernel⟩
abbrev s__law_has_form : Stmt := topS 28
abbrev N__law_has_form : List Str := ["_law_thing_here", "_law_rails", "_law_rail", "_law_one"]
theorem sc__law_has_form : FnScope N__law_has_form ["_law_thing_here"] (defScope s__law_has_form) := ⟨rfl, rfl, rfl, by decide +kernel, rfl, by decide +kernel, by decide +kernel⟩
abbrev s__law_due : Stmt := topS 29
abbrev N__law_due : List Str := ["_law_thing_here", "_law_x", "_law_y", "_law_way", "_law_look", "_law_rails", "_law_shape", "_law_colour", "_law_here", "_law_ahead", "_law_seen"]
theorem sc__law_due : FnScope N__law_due ["_law_thing_here"] (defScope s__law_due) := ⟨rfl, rfl, rfl, by decide +kernel, rfl, by decide +kernel, by decide +kernel⟩
abbrev s__law_met : Stmt := topS 30
abbrev N__law_met : List Str := ["_law_thing_here", "_law_found", "e"]
theorem sc__law_met : FnScope N__law_met ["_law_thing_here"] (defScope s__law_met) := ⟨rfl, rfl, rfl, by decide +kernel, rfl, by decide +kernel, by decide +kernel⟩
abbrev s__law_thing : Stmt := topS 31
abbrev N__law_thing : List Str := ["_law_box_here", "_law_thing_here", "_law_some"]
theorem sc__law_thing : FnScope N__law_thing ["_law_box_here", "_law_thing_here"] (defScope s__law_thing) := ⟨rfl, rfl, rfl, by decide +kernel, rfl, by decide +kernel, by decide +kernel⟩
abbrev s__law_spoilt : Stmt := topS 32
abbrev N__law_spoilt : List Str := ["_law_box_here", "_law_engine_here", "_law_form", "_law_at", "_law_rails", "_law_k", "_law_shape", "_law_colour", "_law_rail"]
theorem sc__law_spoilt : FnScope N__law_spoilt ["_law_box_here", "_law_engine_here"] (defScope s__law_spoilt) := ⟨rfl, rfl, rfl, by decide +kernel, rfl, by decide +kernel, by decide +kernel⟩
abbrev s_law : Stmt := topS 33
abbrev N_law : List Str := ["_law_script", "_law_k", "_law_box_here", "_law_engine_here", "_law_turn", "_law_odd"]
theorem sc_law : FnScope N_law ["_law_script"] (defScope s_law) := ⟨rfl, rfl, rfl, by decide +kernel, rfl, by decide +kernel, by decide +kernel⟩
def inS (i j : Nat) : Stmt := (match topS i with | .ClassDef (body := b) .. => b | _ => []).getD j (.Pass ⟨0, 0, 0, 0⟩)
abbrev s_NoEngine : Stmt := inS 2 0
abbrev N_NoEngine : List Str := ["self", "word"]
theorem sc_NoEngine : FnScope N_NoEngine ["self", "word"] (defScope s_NoEngine) := ⟨rfl, rfl, rfl, by decide +kernel, rfl, by decide +kernel, by decide +kernel⟩
structure Txt (K : PySem.W.Frag) (w : World) (mg : Str → Option Value) where
  f_way_on : Addr
  fd_way_on : FuncData
  F_way_on : Fun K "way_on" "way_on" s_way_on f_way_on fd_way_on
  b_way_on : Binds K fd_way_on ["way", "shape"] []
  g_way_on : mg "way_on" = some (.ref f_way_on)
  f_is_whole : Addr
  fd_is_whole : FuncData
  F_is_whole : Fun K "is_whole" "is_whole" s_is_whole f_is_whole fd_is_whole
  b_is_whole : Binds K fd_is_whole ["thing"] []
  g_is_whole : mg "is_whole" = some (.ref f_is_whole)
  f_has_rail_form : Addr
  fd_has_rail_form : FuncData
  F_has_rail_form : Fun K "has_rail_form" "has_rail_form" s_has_rail_form f_has_rail_form fd_has_rail_form
  b_has_rail_form : Binds K fd_has_rail_form ["thing"] []
  g_has_rail_form : mg "has_rail_form" = some (.ref f_has_rail_form)
  f_has_rails_form : Addr
  fd_has_rails_form : FuncData
  F_has_rails_form : Fun K "has_rails_form" "has_rails_form" s_has_rails_form f_has_rails_form fd_has_rails_form
  b_has_rails_form : Binds K fd_has_rails_form ["thing"] []
  g_has_rails_form : mg "has_rails_form" = some (.ref f_has_rails_form)
  f_has_engine_form : Addr
  fd_has_engine_form : FuncData
  F_has_engine_form : Fun K "has_engine_form" "has_engine_form" s_has_engine_form f_has_engine_form fd_has_engine_form
  b_has_engine_form : Binds K fd_has_engine_form ["thing"] []
  g_has_engine_form : mg "has_engine_form" = some (.ref f_has_engine_form)
  f_look_engine : Addr
  fd_look_engine : FuncData
  F_look_engine : Fun K "look_engine" "look_engine" s_look_engine f_look_engine fd_look_engine
  b_look_engine : Binds K fd_look_engine ["thing"] []
  g_look_engine : mg "look_engine" = some (.ref f_look_engine)
  f_lies_twice : Addr
  fd_lies_twice : FuncData
  F_lies_twice : Fun K "lies_twice" "lies_twice" s_lies_twice f_lies_twice fd_lies_twice
  b_lies_twice : Binds K fd_lies_twice ["engine"] []
  g_lies_twice : mg "lies_twice" = some (.ref f_lies_twice)
  f_walk : Addr
  fd_walk : FuncData
  F_walk : Fun K "walk" "walk" s_walk f_walk fd_walk
  b_walk : Binds K fd_walk ["engine", "many"] []
  g_walk : mg "walk" = some (.ref f_walk)
  f_squares_of : Addr
  fd_squares_of : FuncData
  F_squares_of : Fun K "squares_of" "squares_of" s_squares_of f_squares_of fd_squares_of
  b_squares_of : Binds K fd_squares_of ["engine"] []
  g_squares_of : mg "squares_of" = some (.ref f_squares_of)
  f__law_box : Addr
  fd__law_box : FuncData
  F__law_box : Fun K "_law_box" "_law_box" s__law_box f__law_box fd__law_box
  b__law_box : Binds K fd__law_box ["_law_script", "_law_k"] []
  g__law_box : mg "_law_box" = some (.ref f__law_box)
  f__law_take : Addr
  fd__law_take : FuncData
  F__law_take : Fun K "_law_take" "_law_take" s__law_take f__law_take fd__law_take
  b__law_take : Binds K fd__law_take ["_law_box_here", "_law_many"] []
  g__law_take : mg "_law_take" = some (.ref f__law_take)
  f__law_turned : Addr
  fd__law_turned : FuncData
  F__law_turned : Fun K "_law_turned" "_law_turned" s__law_turned f__law_turned fd__law_turned
  b__law_turned : Binds K fd__law_turned ["_law_way", "_law_shape"] []
  g__law_turned : mg "_law_turned" = some (.ref f__law_turned)
  f__law_on : Addr
  fd__law_on : FuncData
  F__law_on : Fun K "_law_on" "_law_on" s__law_on f__law_on fd__law_on
  b__law_on : Binds K fd__law_on ["_law_square", "_law_way"] []
  g__law_on : mg "_law_on" = some (.ref f__law_on)
  f__law_engine : Addr
  fd__law_engine : FuncData
  F__law_engine : Fun K "_law_engine" "_law_engine" s__law_engine f__law_engine fd__law_engine
  b__law_engine : Binds K fd__law_engine ["_law_box_here", "_law_many", "_law_far"] []
  g__law_engine : mg "_law_engine" = some (.ref f__law_engine)
  f__law_is_whole : Addr
  fd__law_is_whole : FuncData
  F__law_is_whole : Fun K "_law_is_whole" "_law_is_whole" s__law_is_whole f__law_is_whole fd__law_is_whole
  b__law_is_whole : Binds K fd__law_is_whole ["_law_thing_here"] []
  g__law_is_whole : mg "_law_is_whole" = some (.ref f__law_is_whole)
  f__law_is_rail : Addr
  fd__law_is_rail : FuncData
  F__law_is_rail : Fun K "_law_is_rail" "_law_is_rail" s__law_is_rail f__law_is_rail fd__law_is_rail
  b__law_is_rail : Binds K fd__law_is_rail ["_law_thing_here"] []
  g__law_is_rail : mg "_law_is_rail" = some (.ref f__law_is_rail)
  f__law_has_form : Addr
  fd__law_has_form : FuncData
  F__law_has_form : Fun K "_law_has_form" "_law_has_form" s__law_has_form f__law_has_form fd__law_has_form
  b__law_has_form : Binds K fd__law_has_form ["_law_thing_here"] []
  g__law_has_form : mg "_law_has_form" = some (.ref f__law_has_form)
  f__law_due : Addr
  fd__law_due : FuncData
  F__law_due : Fun K "_law_due" "_law_due" s__law_due f__law_due fd__law_due
  b__law_due : Binds K fd__law_due ["_law_thing_here"] []
  g__law_due : mg "_law_due" = some (.ref f__law_due)
  f__law_met : Addr
  fd__law_met : FuncData
  F__law_met : Fun K "_law_met" "_law_met" s__law_met f__law_met fd__law_met
  b__law_met : Binds K fd__law_met ["_law_thing_here"] []
  g__law_met : mg "_law_met" = some (.ref f__law_met)
  f__law_thing : Addr
  fd__law_thing : FuncData
  F__law_thing : Fun K "_law_thing" "_law_thing" s__law_thing f__law_thing fd__law_thing
  b__law_thing : Binds K fd__law_thing ["_law_box_here", "_law_thing_here"] []
  g__law_thing : mg "_law_thing" = some (.ref f__law_thing)
  f__law_spoilt : Addr
  fd__law_spoilt : FuncData
  F__law_spoilt : Fun K "_law_spoilt" "_law_spoilt" s__law_spoilt f__law_spoilt fd__law_spoilt
  b__law_spoilt : Binds K fd__law_spoilt ["_law_box_here", "_law_engine_here"] []
  g__law_spoilt : mg "_law_spoilt" = some (.ref f__law_spoilt)
  m_abs : mg "abs" = none
  m_all : mg "all" = none
  m_any : mg "any" = none
  m_bool : mg "bool" = none
  m_int : mg "int" = none
  m_isinstance : mg "isinstance" = none
  m_len : mg "len" = none
  m_max : mg "max" = none
  m_min : mg "min" = none
  m_range : mg "range" = none
  m_set : mg "set" = none
  m_str : mg "str" = none
  m_tuple : mg "tuple" = none
  a_TURNS : Addr
  g_TURNS : mg "TURNS" = some (.ref a_TURNS)
  TURNS : ∀ s : Sh, KDct K w a_TURNS s.str (.int s.t)
  a_STEPS : Addr
  g_STEPS : mg "STEPS" = some (.ref a_STEPS)
  STEPS : ∀ H, DT K H (.ref a_STEPS) (.tuple [sq (0, 1), sq (1, 0), sq (0, -1), sq (-1, 0)])
  kd_TURNS : ∃ es n, KDict K w a_TURNS es n
  in_TURNS : ∀ z : Str, ∃ r, PySem.W.nsIn K a_TURNS z = some r ∧ r.isSome = isSh z
  f_onward : Addr
  fd_onward : FuncData
  F_onward : FunD K "onward" "onward" (defArgs s_onward) (defBody s_onward) (defScope s_onward) [] [("steps", .int 1)] f_onward fd_onward
  ds_onward : List Value
  v_onward : Vals [.int 1] ds_onward
  b_onward : Binds K fd_onward ["square", "way", "steps"] ds_onward
  g_onward : mg "onward" = some (.ref f_onward)
  a_NoEngine : Addr
  g_NoEngine : mg "NoEngine" = some (.ref a_NoEngine)
  x_NoEngine : OexC K a_NoEngine
  xf_NoEngine : XfC K a_NoEngine
  i_NoEngine : Addr
  ic_NoEngine : PySem.W.findIn K (.ref a_NoEngine) "__init__" = some (some (.ref i_NoEngine))
  it_NoEngine : PySem.W.typeIn K (.ref i_NoEngine) = some (.type "function")
  id_NoEngine : FuncData
  F_NoEngine : Fun K "__init__" "NoEngine.__init__" s_NoEngine i_NoEngine id_NoEngine
  b_NoEngine : Binds K id_NoEngine ["self", "word"] []
  te_NoEngine : PySem.W.exmOne K (.ref a_NoEngine) (.ref a_NoEngine) = some true
  n_NoEngine_word : PySem.W.findIn K (.ref a_NoEngine) "word" = some none
  k_RAILS : Tok
  g_RAILS : mg "RAILS" = some (.int 12 k_RAILS)
  k_COLOURS : Tok
  g_COLOURS : mg "COLOURS" = some (.int 10 k_COLOURS)
  k_FAR : Tok
  g_FAR : mg "FAR" = some (.int 1000000000 k_FAR)
/-! ### the law's draws -/
section
variable {P : Program} {w : World} {K : PySem.W.Frag} {mg : Str → Option Value} {base : Heap}
theorem ok__law_take (T : Txt K w mg) : FnOk P w K mg base CX0 1 T.f__law_take T.fd__law_take ["_law_box_here", "_law_many"] spTake := by
  refine T.F__law_take.ok sc__law_take (fun vs H Q E h => ?_) (fun cdv A outer s H vs Q E hr h => ?_)
  · obtain ⟨b, m, rfl, _⟩ := h
    rfl
  · obtain ⟨b, m, rfl, ⟨i, s, c, hb⟩, hm, hm2, q⟩ := h
    refine ⟨_, (pss_cons (ps_if (pt_cmpR op_gt (pe_ix ix_list (pv 0) pe_int (fun _ _ => rfl)) pe_int (nomark _))
 (pss_cons (ps_set (i := 2) sc__law_take.nd rfl (.inl rfl) (pe_op op_mod (pe_ix ix_list (pv 0) pe_int (fun _ _ => rfl)) (pv 1)))
 (pss_cons (ps_asg (pe_op op_fdivW (pe_ix ix_list (pv 0) pe_int (fun _ _ => rfl)) (pv 1)) (pg_sub (pv 0) pe_int set_list))
 (pss_one (ps_ret (pv 2)))))
 pss_nil)
 (pss_cons (ps_asg (pe_op op_add (pe_ix ix_list (pv 0) pe_int (fun _ _ => rfl)) pe_int) (pg_sub (pv 0) pe_int set_list))
 (pss_cons (ps_set (i := 3) sc__law_take.nd rfl (.inl rfl) (pe_op op_mod (pe_op op_mul (pe_op op_add (pe_ix ix_list (pv 0) pe_int (fun _ _ => rfl)) (pe_op op_mul pe_int (pe_ix ix_list (pv 0) pe_int (fun _ _ => rfl)))) pe_int) pe_int))
 (pss_cons (ps_asg (pe_op op_add (pe_op op_mod (pe_op op_add (pe_op op_mul (pv 3) pe_int) pe_int) pe_int) pe_int) (pg_sub (pv 0) pe_int set_list))
 (pss_one (ps_ret (pe_op op_mod (pe_op op_fdivW (pe_op op_add (pe_op op_mul (pv 3) pe_int) (pe_ix ix_list (pv 0) pe_int (fun _ _ => rfl))) pe_int) (pv 1)))))))), ?_⟩
    refine ⟨.ref b, rfl, b, _, 0, .int i, rfl, rfl, SqL.of hb, rfl, i, 0, rfl, rfl, _, rfl, ite2 (fun _ => ?_) (fun _ => ?_)⟩
    · refine ⟨.ref b, rfl, b, _, 0, .int i, rfl, rfl, SqL.of hb, rfl, .int m, rfl, i, m, rfl, rfl, hm, ?_⟩
      refine ⟨.ref b, rfl, b, _, 0, .int i, rfl, rfl, SqL.of hb, rfl, .int m, rfl, i, m, rfl, rfl, div_ok hm hm2, ?_⟩
      refine ⟨.ref b, rfl, b, _, 0, 0, rfl, rfl, hb, rfl, ?_⟩
      exact ⟨.int (i % m), rfl, q _ _ (mod_in hm).1 (mod_in hm).2 but_set ⟨_, _, _, upd_same⟩⟩
    · refine ⟨.ref b, rfl, b, _, 2, .int c, rfl, rfl, SqL.of hb, rfl, c, 1, rfl, rfl, ?_⟩
      refine ⟨.ref b, rfl, b, _, 2, 2, rfl, rfl, hb, rfl, ?_⟩
      have h1 : (upd H b (.lst [.int i, .int s, .int (c + 1)])) b = some (.lst [.int i, .int s, .int (c + 1)]) := upd_same
      refine ⟨.ref b, rfl, b, _, 1, .int s, rfl, rfl, SqL.of h1, rfl, .ref b, rfl, b, _, 2, .int (c + 1), rfl, rfl, SqL.of h1, rfl, 104729, c + 1, rfl, rfl, .inl ⟨by decide, by decide⟩, _, _, rfl, rfl, _, 69623, rfl, rfl, .inr ⟨by decide, by decide⟩, _, 2147483647, rfl, rfl, by show (0 : Int) < 2147483647; decide, ?_⟩
      refine ⟨_, rfl, _, 48271, rfl, rfl, .inr ⟨by decide, by decide⟩, _, 30103, rfl, rfl, _, 2147483629, rfl, rfl, by show (0 : Int) < 2147483629; decide, _, 1, rfl, rfl, ?_⟩
      refine ⟨.ref b, rfl, b, _, 1, 1, rfl, rfl, h1, rfl, ?_⟩
      refine ⟨_, rfl, _, 2147483647, rfl, rfl, .inr ⟨by decide, by decide⟩, .ref b, rfl, b, _, 1, _, rfl, rfl, SqL.of upd_same, rfl, _, _, rfl, rfl, _, 8191, rfl, rfl, div_ok (by decide) (by decide), .int m, rfl, _, m, rfl, rfl, hm, ?_⟩
      exact q _ _ (mod_in hm).1 (mod_in hm).2 (but_set.trans but_set) ⟨_, _, _, upd_same⟩
theorem ok__law_box (T : Txt K w mg) : FnOk P w K mg base CX0 1 T.f__law_box T.fd__law_box ["_law_script", "_law_k"] (spBox K) := by
  refine T.F__law_box.ok sc__law_box (fun vs H Q E h => ?_) (fun cdv A outer s H vs Q E hr h => ?_)
  · obtain ⟨a, ns, k, rfl, _⟩ := h
    rfl
  · obtain ⟨a, ns, k, rfl, hS, h0, h6, q⟩ := h
    refine ⟨_, (pss_cons (ps_set (i := 2) sc__law_box.nd rfl (.inl rfl) (pe_op op_add (pe_op op_mul pe_int (pv 1)) pe_int))
 (Evl.pss_cut (ps_if (pt_cmpR op_lt (pv 1) (pe_callB call_len_seq (by rfl) T.m_len (by decide +kernel) (pa_cons (pv 0) pa_nil)) (nomark _))
 (pss_one (ps_set (i := 2) sc__law_box.nd rfl (.inl rfl) (pe_ix ix_list (pv 0) (pv 1) (fun _ _ => rfl))))
 (pss_one (ps_if (pt_cmpR op_gt (pe_callB call_len_seq (by rfl) T.m_len (by decide +kernel) (pa_cons (pv 0) pa_nil)) pe_int (nomark _))
 (pss_one (ps_set (i := 2) sc__law_box.nd rfl (.inl rfl) (pe_op op_add (pv 2) (pe_op op_mul (pe_op op_mod (pe_ix ix_list (pv 0) (pe_op op_mod (pv 1) (pe_callB call_len_seq (by rfl) T.m_len (by decide +kernel) (pa_cons (pv 0) pa_nil))) (fun _ _ => rfl)) pe_int) pe_int))))
 pss_nil)))
 (pss_cons (ps_set (i := 3) sc__law_box.nd rfl (.inl rfl) (pe_op op_add (pe_op op_mod (pe_op op_add (pe_op op_mul (pe_op op_mod (pv 2) pe_int) pe_int) (pe_op op_mul pe_int (pv 1))) pe_int) pe_int))
 (pss_one (ps_ret (pe_lst (pa_cons (pe_ix ix_list (pe_lst (pa_cons pe_int (pa_cons (pv 2) pa_nil))) (pe_callTy call_int1 (by rfl) T.m_int (by decide +kernel) (pa_cons (pe_cmpR op_ge (pv 2) (pe_op op_pow pe_int pe_int) (nomark _)) pa_nil)) (fun _ _ => rfl)) (pa_cons (pv 3) (pa_cons pe_int pa_nil))))))))), ?_⟩
    refine ⟨.int k, rfl, 6263, k, rfl, rfl, .inl ⟨by decide, by decide⟩, _, 31, rfl, rfl, ?_⟩
    refine ⟨fun σ H' => ∃ c : Int, σ = [some (.ref a), some (.int k), some (.int c), none] ∧ H' = H, ?_, ?_⟩
    · refine ⟨.int k, rfl, .ref a, rfl, a, _, rfl, .inl hS, k, _, rfl, rfl, _, rfl, ite2 (fun e => ?_) (fun e => ?_)⟩
      · have e1 := of_decide_eq_true e
        rw [List.length_map] at e1
        obtain ⟨z, hz⟩ := atI_ints h0 e1
        exact ⟨.ref a, rfl, .int k, rfl, a, _, k, .int z, rfl, rfl, hS, hz, z, rfl, rfl⟩
      · refine ⟨.ref a, rfl, a, _, rfl, .inl hS, _, 0, rfl, rfl, _, rfl, ite2 (fun e => ?_) (fun e => ?_)⟩
        · have e1 := of_decide_eq_true e
          have e2 : (0 : Int) < ((ns.map V.int).length : Int) := e1
          have m2 := mod_in (a := k) e2
          obtain ⟨z, hz⟩ := atI_ints (ns := ns) m2.1 (by have := m2.2; rw [List.length_map] at this; rw [List.length_map]; exact this)
          refine ⟨.int (6263 * k + 31), rfl, .ref a, rfl, .int k, rfl, .ref a, rfl, a, _, rfl, .inl hS, k, _, rfl, rfl, e1, a, _, _, .int z, rfl, rfl, hS, hz, z, 2147483629, rfl, rfl, by show (0 : Int) < 2147483629; decide, _, 69623, rfl, rfl, .inr ⟨by decide, by decide⟩, _, _, rfl, rfl, _, rfl, rfl⟩
        · exact ⟨_, rfl, rfl⟩
    · rintro σ H' ⟨c, rfl, rfl⟩
      refine ⟨.int c, rfl, c, 2147483629, rfl, rfl, by show (0 : Int) < 2147483629; decide, _, 48271, rfl, rfl, .inr ⟨by decide, by decide⟩, .int k, rfl, 40692, k, rfl, rfl, .inl ⟨by decide, by decide⟩, _, _, rfl, rfl, _, 2147483629, rfl, rfl, by show (0 : Int) < 2147483629; decide, _, 1, rfl, rfl, ?_⟩
      refine ⟨.int c, rfl, by show 2 ≤ sizeLine; decide, fun p np => ?_⟩
      refine ⟨.int c, rfl, 10, 18, rfl, rfl, ⟨by decide, by decide, by decide⟩, c, _, rfl, rfl, .inr ⟨_, rfl, ?_⟩⟩
      have hx : ∃ z : Int, atI [V.int 0, V.int c] (if (decide ((10 : Int) ^ (18 : Int).toNat ≤ c)) = true then 1 else 0) = some (.int z) := by
        by_cases h : (decide ((10 : Int) ^ (18 : Int).toNat ≤ c)) = true
        · rw [if_pos h]
          exact ⟨c, rfl⟩
        · rw [if_neg h]
          exact ⟨0, rfl⟩
      obtain ⟨z, hz⟩ := hx
      refine ⟨p, _, _, .int z, rfl, rfl, SqL.of upd_same, hz, _, rfl, by show 3 ≤ sizeLine; decide, fun b nb => ?_⟩
      refine q b _ ?_ ((same_new np).trans (same_new nb)) ⟨_, _, _, upd_same⟩
      exact (same_new np).free nb
theorem ok__law_turned (T : Txt K w mg) : FnOk P w K mg base CX0 1 T.f__law_turned T.fd__law_turned ["_law_way", "_law_shape"] spTurn := by
  refine T.F__law_turned.ok sc__law_turned (fun vs H Q E h => ?_) (fun cdv A outer s H vs Q E hr h => ?_)
  · obtain ⟨w, s, rfl, _⟩ := h
    rfl
  · obtain ⟨w, s, rfl, q⟩ := h
    refine ⟨_, (pss_one (ps_ret (pe_op op_mod (pe_op op_add (pv 0) (pe_dget (hu_of hr) (pe_disp (pps_cons pe_str pe_int (pps_cons pe_str pe_int (pps_cons pe_str pe_int pps_nil))) (by rfl) (by rfl) (fun z => by cases z) (by decide)) (pv 1) (fun _ _ => rfl))) pe_int))), ?_⟩
    refine ⟨.int w, rfl, fun p np => ?_⟩
    refine ⟨upd_same, [(Sum.inr "l", .int 3), (Sum.inr "s", .int 0), (Sum.inr "r", .int 1)], rfl, by decide, ?_⟩
    refine ⟨.str s.str, rfl, p, .int (t3 s), rfl, ?_, w, t3 s, rfl, rfl, _, 4, rfl, rfl, by show (0 : Int) < 4; decide, ?_⟩
    · cases s with
      | l => exact .inl ⟨_, Sum.inr "l", .inl upd_same, rfl, by decide +kernel⟩
      | s => exact .inl ⟨_, Sum.inr "s", .inl upd_same, rfl, by decide +kernel⟩
      | r => exact .inl ⟨_, Sum.inr "r", .inl upd_same, rfl, by decide +kernel⟩
    · show Q (.int ((w + t3 s) % 4)) _
      rw [t3_tn]
      exact q _ (by rw [upd_upd]; exact same_new np)
theorem ok__law_on (T : Txt K w mg) : FnOk P w K mg base CX0 1 T.f__law_on T.fd__law_on ["_law_square", "_law_way"] (spOn K) := by
  refine T.F__law_on.ok sc__law_on (fun vs H Q E h => ?_) (fun cdv A outer s H vs Q E hr h => ?_)
  · obtain ⟨v, p, w, rfl, _⟩ := h
    rfl
  · obtain ⟨v, p, w, rfl, hd, w0, w3, q⟩ := h
    obtain ⟨x, y⟩ := p
    obtain ⟨a, xs, rfl, hs, hxs⟩ := hd.tupOf
    obtain ⟨v1, v2, rfl, d1, d2⟩ := hxs.two
    cases d1.intOf
    cases d2.intOf
    refine ⟨_, (pss_cons (ps_asg (pv 0) (pg_tup (n := 2) rfl (pgs_cons (pg_name (i := 2) sc__law_on.nd rfl (.inl rfl)) (pgs_cons (pg_name (i := 3) sc__law_on.nd rfl (.inl rfl)) pgs_nil))))
 (pss_one (ps_ret (pe_ix ix_list (pe_lst (pa_cons (pe_tup (pa_cons (pv 2) (pa_cons (pe_op op_add (pv 3) pe_int) pa_nil))) (pa_cons (pe_tup (pa_cons (pe_op op_add (pv 2) pe_int) (pa_cons (pv 3) pa_nil))) (pa_cons (pe_tup (pa_cons (pv 2) (pa_cons (pe_op op_sub (pv 3) pe_int) pa_nil))) (pa_cons (pe_tup (pa_cons (pe_op op_sub (pv 2) pe_int) (pa_cons (pv 3) pa_nil))) pa_nil))))) (pv 1) (fun _ _ => rfl))))), ?_⟩
    refine ⟨.ref a, rfl, a, _, rfl, hs, rfl, _, _, rfl, _, _, rfl, rfl, ?_⟩
    refine ⟨.int x, rfl, .int y, rfl, y, 1, rfl, rfl, by show 2 ≤ sizeLine; decide, fun p1 n1 => ?_⟩
    refine ⟨.int x, rfl, x, 1, rfl, rfl, .int y, rfl, by show 2 ≤ sizeLine; decide, fun p2 n2 => ?_⟩
    refine ⟨.int x, rfl, .int y, rfl, y, 1, rfl, rfl, by show 2 ≤ sizeLine; decide, fun p3 n3 => ?_⟩
    refine ⟨.int x, rfl, x, 1, rfl, rfl, .int y, rfl, by show 2 ≤ sizeLine; decide, fun p4 n4 => ?_⟩
    refine ⟨by show 4 ≤ sizeLine; decide, fun p n => ?_⟩
    have sm := ((((same_new n1).trans (same_new n2)).trans (same_new n3)).trans (same_new n4)).trans (same_new (o := HO.lst [.ref p1, .ref p2, .ref p3, .ref p4]) n)
    have tn := tk_new (o := HO.lst [.ref p1, .ref p2, .ref p3, .ref p4]) n
    have e1 := (DT.new (K := K) (.cons (.int x) (.cons (.int (y + 1)) .nil)) n1).up ((((tk_new n2).trans (tk_new n3)).trans (tk_new n4)).trans tn)
    have e2 := (DT.new (K := K) (.cons (.int (x + 1)) (.cons (.int y) .nil)) n2).up (((tk_new n3).trans (tk_new n4)).trans tn)
    have e3 := (DT.new (K := K) (.cons (.int x) (.cons (.int (y - 1)) .nil)) n3).up ((tk_new n4).trans tn)
    have e4 := (DT.new (K := K) (.cons (.int (x - 1)) (.cons (.int y) .nil)) n4).up tn
    rcases way4 w0 w3 with rfl | rfl | rfl | rfl
    · exact ⟨.int 0, rfl, p, _, 0, .ref p1, rfl, rfl, SqL.of upd_same, rfl, q _ _ sm (by simpa [sq, on, dx, dy] using e1)⟩
    · exact ⟨.int 1, rfl, p, _, 1, .ref p2, rfl, rfl, SqL.of upd_same, rfl, q _ _ sm (by simpa [sq, on, dx, dy] using e2)⟩
    · exact ⟨.int 2, rfl, p, _, 2, .ref p3, rfl, rfl, SqL.of upd_same, rfl, q _ _ sm (by simpa [sq, on, dx, dy, Int.sub_eq_add_neg] using e3)⟩
    · exact ⟨.int 3, rfl, p, _, 3, .ref p4, rfl, rfl, SqL.of upd_same, rfl, q _ _ sm (by simpa [sq, on, dx, dy, Int.sub_eq_add_neg] using e4)⟩
theorem ok__law_engine (T : Txt K w mg) : FnOk P w K mg base CX0 2 T.f__law_engine T.fd__law_engine ["_law_box_here", "_law_many", "_law_far"] (spEngine K) := by
  refine T.F__law_engine.ok sc__law_engine (fun vs H Q E h => ?_) (fun cdv A outer s H vs Q E hr h => ?_)
  · obtain ⟨b, m, far, rfl, _⟩ := h
    rfl
  · obtain ⟨b, m, far, rfl, hb, m0, m12, f0, f9, q⟩ := h
    refine ⟨_, (pss_cons (ps_par3 (i := 3) (j := 4) (l := 5) (by rfl) sc__law_engine.nd rfl rfl rfl (by decide) (by decide) (by decide) rfl rfl rfl (pa_cons (pe_op op_sub (pe_call (ok__law_take T) (hr.mono (by decide)) (by rfl) T.g__law_take T.F__law_take.kp T.b__law_take .nil pass0 (pa_cons (pv 0) (pa_cons (pe_op op_add (pe_op op_mul pe_int (pv 2)) pe_int) pa_nil))) (pv 2)) (pa_cons (pe_op op_sub (pe_call (ok__law_take T) (hr.mono (by decide)) (by rfl) T.g__law_take T.F__law_take.kp T.b__law_take .nil pass0 (pa_cons (pv 0) (pa_cons (pe_op op_add (pe_op op_mul pe_int (pv 2)) pe_int) pa_nil))) (pv 2)) (pa_cons (pe_call (ok__law_take T) (hr.mono (by decide)) (by rfl) T.g__law_take T.F__law_take.kp T.b__law_take .nil pass0 (pa_cons (pv 0) (pa_cons pe_int pa_nil))) pa_nil))) (by rfl))
 (pss_cons (ps_asg (pe_tup (pa_cons (pe_op op_sub pe_int (pe_op op_mul pe_int (pe_call (ok__law_take T) (hr.mono (by decide)) (by rfl) T.g__law_take T.F__law_take.kp T.b__law_take .nil pass0 (pa_cons (pv 0) (pa_cons pe_int pa_nil))))) (pa_cons (pe_lst pa_nil) (pa_cons (pe_lst pa_nil) (pa_cons (pe_tup (pa_cons (pv 3) (pa_cons (pv 4) pa_nil))) (pa_cons (pv 5) pa_nil)))))) (pg_tup (n := 5) rfl (pgs_cons (pg_name (i := 6) sc__law_engine.nd rfl (.inl rfl)) (pgs_cons (pg_name (i := 7) sc__law_engine.nd rfl (.inl rfl)) (pgs_cons (pg_name (i := 8) sc__law_engine.nd rfl (.inl rfl)) (pgs_cons (pg_name (i := 9) sc__law_engine.nd rfl (.inl rfl)) (pgs_cons (pg_name (i := 10) sc__law_engine.nd rfl (.inl rfl)) pgs_nil)))))))
 (pss_cons (ps_for PassesOwn.never rfl (pi_range1 (by rfl) T.m_range (pa_cons (pe_op op_add pe_int (pe_call (ok__law_take T) (hr.mono (by decide)) (by rfl) T.g__law_take T.F__law_take.kp T.b__law_take .nil pass0 (pa_cons (pv 0) (pa_cons (pv 1) pa_nil)))) pa_nil)) (pg_name (i := 11) sc__law_engine.nd rfl (.inl rfl))
 (pss_cons (ps_par (i := 12) (j := 13) (by rfl) sc__law_engine.nd rfl rfl (by decide) rfl rfl (pa_cons (pe_ix ix_str pe_str (pe_call (ok__law_take T) (hr.mono (by decide)) (by rfl) T.g__law_take T.F__law_take.kp T.b__law_take .nil pass0 (pa_cons (pv 0) (pa_cons pe_int pa_nil))) (fun _ _ => rfl)) (pa_cons (pe_call (ok__law_take T) (hr.mono (by decide)) (by rfl) T.g__law_take T.F__law_take.kp T.b__law_take .nil pass0 (pa_cons (pv 0) (pa_cons pe_int pa_nil))) pa_nil)) (by rfl))
 (pss_one (ps_if (pt_cmpR (op_notInD (hu65 hr)) (pv 9) (pv 8) (by with_unfolding_all rfl))
 (pss_cons (ps_expr (pe_bm PySem.F.plainAttrs_list PySem.F.slot_list_append PySem.F.type_list_append mt_append (pv 7) (pa_cons (pe_tup (pa_cons (pv 12) (pa_cons (pv 13) pa_nil))) pa_nil)))
 (pss_cons (ps_expr (pe_bm PySem.F.plainAttrs_list PySem.F.slot_list_append PySem.F.type_list_append mt_append (pv 8) (pa_cons (pv 9) pa_nil)))
 (pss_cons (ps_set (i := 10) sc__law_engine.nd rfl (.inl rfl) (pe_call (ok__law_turned T) (hr.mono (by decide)) (by rfl) T.g__law_turned T.F__law_turned.kp T.b__law_turned .nil pass0 (pa_cons (pv 10) (pa_cons (pv 12) pa_nil))))
 (pss_one (ps_set (i := 9) sc__law_engine.nd rfl (.inl rfl) (pe_call (ok__law_on T) (hr.mono (by decide)) (by rfl) T.g__law_on T.F__law_on.kp T.b__law_on .nil pass0 (pa_cons (pv 9) (pa_cons (pv 10) pa_nil))))))))
 pss_nil))))
 (pss_one (ps_ret (pe_tup (pa_cons (pv 3) (pa_cons (pv 4) (pa_cons (pv 5) (pa_cons (pv 6) (pa_cons (pe_callTy call_tuple_of (by rfl) T.m_tuple (by decide +kernel) (pa_cons (pv 7) pa_nil)) pa_nil))))))))))), ?_⟩
    -- x, y, way
    refine ⟨.ref b, rfl, .int far, rfl, 2, far, rfl, rfl, .inl ⟨by decide, by decide⟩, _, 1, rfl, rfl, b, 2 * far + 1, rfl, hb, by omega, by omega, fun r1 H1 a1 a2 e1 hb1 => ?_⟩
    refine ⟨.int far, rfl, r1, far, rfl, rfl, ?_⟩
    refine ⟨.ref b, rfl, .int far, rfl, 2, far, rfl, rfl, .inl ⟨by decide, by decide⟩, _, 1, rfl, rfl, b, 2 * far + 1, rfl, hb1, by omega, by omega, fun r2 H2 a3 a4 e2 hb2 => ?_⟩
    refine ⟨.int far, rfl, r2, far, rfl, rfl, ?_⟩
    refine ⟨.ref b, rfl, b, 4, rfl, hb2, by decide, by decide, fun r3 H3 a5 a6 e3 hb3 => ?_⟩
    refine ⟨_, _, _, rfl, ?_⟩
    -- look, rails, squares, here, ahead
    refine ⟨.ref b, rfl, b, 2, rfl, hb3, by decide, by decide, fun r4 H4 a7 a8 e4 hb4 => ?_⟩
    refine ⟨2, r4, rfl, rfl, .inl ⟨by decide, by decide⟩, 1, _, rfl, rfl, ?_⟩
    refine ⟨Nat.zero_le _, fun p1 n1 => ⟨Nat.zero_le _, fun p2 n2 => ?_⟩⟩
    refine ⟨.int (r1 - far), rfl, .int (r2 - far), rfl, by show 2 ≤ sizeLine; decide, fun t nt => ?_⟩
    refine ⟨.int r3, rfl, by show 5 ≤ sizeLine; decide, fun u nu => ?_⟩
    refine ⟨u, _, rfl, SqT.of upd_same, rfl, _, _, rfl, _, _, rfl, _, _, rfl, _, _, rfl, _, _, rfl, rfl, ?_⟩
    have nb1 : p1 ≠ b := fun z => by
      obtain ⟨_, _, _, hb4⟩ := hb4
      rw [z, hb4] at n1
      cases n1
    have n21 : p2 ≠ p1 := fun z => by
      rw [z, upd_same] at n2
      cases n2
    have nb2 : p2 ≠ b := fun z => by
      obtain ⟨_, _, _, hb4⟩ := hb4
      rw [z, upd_ne nb1.symm, hb4] at n2
      cases n2
    have s4 : Same H4 (upd (upd (upd (upd H4 p1 (.lst [])) p2 (.lst [])) t (.tup [.int (r1 - far), .int (r2 - far)])) u (.tup [.int (1 - 2 * r4), .ref p1, .ref p2, .ref t, .int r3])) := (((same_new n1).trans (same_new n2)).trans (same_new nt)).trans (same_new nu)
    have s2 : Same (upd (upd H4 p1 (.lst [])) p2 (.lst [])) (upd (upd (upd (upd H4 p1 (.lst [])) p2 (.lst [])) t (.tup [.int (r1 - far), .int (r2 - far)])) u (.tup [.int (1 - 2 * r4), .ref p1, .ref p2, .ref t, .int r3])) := (same_new nt).trans (same_new nu)
    have hp1 := s2 p1 (.lst []) (by rw [upd_ne n21.symm, upd_same])
    have hp2 := s2 p2 (.lst []) upd_same
    have hdt : DT K (upd (upd (upd (upd H4 p1 (.lst [])) p2 (.lst [])) t (.tup [.int (r1 - far), .int (r2 - far)])) u (.tup [.int (1 - 2 * r4), .ref p1, .ref p2, .ref t, .int r3])) (.ref t) (sq (r1 - far, r2 - far)) := (DT.new (K := K) (.cons (.int (r1 - far)) (.cons (.int (r2 - far)) .nil)) nt).up (tk_new nu)
    have hb5 : Box (upd (upd (upd (upd H4 p1 (.lst [])) p2 (.lst [])) t (.tup [.int (r1 - far), .int (r2 - far)])) u (.tup [.int (1 - 2 * r4), .ref p1, .ref p2, .ref t, .int r3])) b := by
      obtain ⟨i, s, c, hb4⟩ := hb4
      exact ⟨i, s, c, s4 _ _ hb4⟩
    have eb5 := (((e1.trans e2).trans e3).trans e4).trans (but_same (b := b) s4)
    generalize (upd (upd (upd (upd H4 p1 (.lst [])) p2 (.lst [])) t (.tup [.int (r1 - far), .int (r2 - far)])) u (.tup [.int (1 - 2 * r4), .ref p1, .ref p2, .ref t, .int r3])) = H5 at hp1 hp2 hdt hb5 eb5
    -- the loop
    refine ⟨.ref b, rfl, .int m, rfl, b, m, rfl, hb5, m0, by omega, fun r5 H6 a9 a10 e6 hb6 => ?_⟩
    have f1 : H p1 = none := by
      cases z : H p1 with
      | none => rfl
      | some o =>
        have := (((e1.trans e2).trans e3).trans e4) p1 o nb1 z
        rw [n1] at this
        cases this
    have f2 : H p2 = none := by
      cases z : H p2 with
      | none => rfl
      | some o =>
        have := (((e1.trans e2).trans e3).trans e4) p2 o nb2 z
        rw [upd_ne n21] at n2
        rw [n2] at this
        cases this
    refine ⟨1, r5, rfl, rfl, 1 + r5, rfl, by omega, by omega, for_range (lo := 0) (n := (1 + r5).toNat) (fun i σ H' => ∃ rs qs here ahead vh xs ys y11 y12 y13,
      σ = [some (.ref b), some (.int m), some (.int far), some (.int (r1 - far)), some (.int (r2 - far)), some (.int r3), some (.int (1 - 2 * r4)), some (.ref p1), some (.ref p2), some vh, some (.int ahead), y11, y12, y13] ∧
      EngInv K b p1 p2 H H' (r1 - far) (r2 - far) r3 i rs qs here ahead vh xs ys) ?_ (fun i σ H' hi hP => ?_) (fun σ H' hP => ?_)⟩
    · refine ⟨[], [], (r1 - far, r2 - far), r3, .ref t, [], [], none, none, none, rfl, ?_⟩
      exact ⟨e6.up hb5 hdt, e6 _ _ nb1 hp1, .nil, e6 _ _ nb2 hp2, .nil, hb6, eb5.trans e6, Nat.le_refl _, fun z => by omega, fun _ => rfl, rfl, List.nodup_nil, fun r hr => (by cases hr), rfl⟩
    · obtain ⟨rs, qs, here, ahead, vh, xs, ys, y11, y12, y13, rfl, I⟩ := hP
      have hi12 : i < 12 := by omega
      refine ⟨.ref b, rfl, b, 4, rfl, I.bx, by decide, by decide, fun k1 H7 g1 g2 e7 hb7 => ?_⟩
      obtain ⟨c4, hc4, hs4⟩ := pick4 g1 g2
      refine ⟨_, k1, c4, rfl, rfl, by decide, hc4, ?_⟩
      rw [hs4]
      refine ⟨.ref b, rfl, b, 10, rfl, hb7, by decide, by decide, fun k2 H8 g3 g4 e8 hb8 => ?_⟩
      refine ⟨_, _, rfl, ?_⟩
      have J := (I.but e7 hb7 nb1 nb2).but e8 hb8 nb1 nb2
      refine ⟨vh, rfl, .ref p2, rfl, sq here, qs.map sq, J.dh.dp, .lst (SqL.of J.h2) J.d2.dp, shaped_sq here, shaped_sqs qs, _, rfl, ?_⟩
      rw [any_sq]
      refine ite2 (fun e => ?_) (fun e => ?_)
      · have hm : ¬ here ∈ qs := fun z => by
          rw [decide_eq_true z] at e
          cases e
        have lx : xs.length ≤ 12 := by
          have h1 := J.d1.length
          rw [List.length_map] at h1
          have h2 := J.ln
          omega
        have ly : ys.length ≤ 12 := by
          have h1 := J.d2.length
          rw [List.length_map, J.lq] at h1
          have h2 := J.ln
          omega
        refine ⟨.ref p1, rfl, .inl ⟨rfl, _, SqL.of J.h1⟩, .str (shOf k1).str, rfl, .int k2, rfl, by show 2 ≤ sizeLine; decide, fun t9 n9 => ?_⟩
        have t1 : p1 ≠ t9 := ne_of_none J.h1 n9
        have t2 : p2 ≠ t9 := ne_of_none J.h2 n9
        refine ⟨p1, xs, .ref t9, rfl, rfl, by rw [upd_ne t1]; exact J.h1, small12 lx, ?_⟩
        have hq2 : (upd (upd H8 t9 (.tup [.str (shOf k1).str, .int k2])) p1 (.lst (xs ++ [.ref t9]))) p2 = some (.lst ys) := by
          rw [upd_ne n21, upd_ne t2]
          exact J.h2
        refine ⟨.ref p2, rfl, .inl ⟨rfl, _, SqL.of hq2⟩, vh, rfl, p2, ys, vh, rfl, rfl, hq2, small12 ly, ?_⟩
        refine ⟨.int ahead, rfl, .str (shOf k1).str, rfl, ahead, shOf k1, rfl, fun H9 s9 => ?_⟩
        have tk9 : Tk H8 H9 := ((((tk_new n9).trans (tk_set (by rw [upd_ne t1]; exact J.h1))).trans (tk_set hq2)).trans (tk_same s9))
        refine ⟨vh, rfl, .int (tn ahead (shOf k1)), rfl, vh, here, tn ahead (shOf k1), rfl, J.dh.up tk9, tn_lo _ _, tn_hi _ _, fun v2 H10 s10 d10 => ?_⟩
        exact ⟨_, _, _, _, _, _, _, _, _, _, rfl, J.go hm n9 nb1 nb2 n21 f1 f2 g3 (by omega) (s9.trans s10) d10⟩
      · have hm : here ∈ qs := by
          by_cases z : here ∈ qs
          · exact z
          · rw [decide_eq_false z] at e
            exact absurd rfl e
        exact ⟨_, _, _, _, _, _, _, _, _, _, rfl, J.skip hm⟩
    · obtain ⟨rs, qs, here, ahead, vh, xs, ys, y11, y12, y13, rfl, I⟩ := hP
      refine ⟨.int (r1 - far), rfl, .int (r2 - far), rfl, .int r3, rfl, .int (1 - 2 * r4), rfl, .ref p1, rfl, p1, xs, rfl, .inl ⟨SqL.of I.h1, fun l nl => ?_⟩⟩
      refine ⟨by show 5 ≤ sizeLine; decide, fun u nu => ?_⟩
      have hd := (DT.new I.d1 nl)
      have hd2 := DT.new (.cons (.int (r1 - far)) (.cons (.int (r2 - far)) (.cons (.int r3) (.cons (.int (1 - 2 * r4)) (.cons hd .nil))))) nu
      have sm := (same_new (o := HO.tup xs) nl).trans (same_new (o := HO.tup [.int (r1 - far), .int (r2 - far), .int r3, .int (1 - 2 * r4), .ref l]) nu)
      have hb9 := I.bx
      refine q _ _ _ _ _ _ rs ⟨a5, by omega, by omega, I.ne (by omega), ?_, I.col, ?_⟩ (by omega) (by omega) (by omega) (by omega) ?_ (I.bt.trans (but_same sm)) ?_ hd2
      · have := I.ln
        omega
      · rw [I.ws]
        dsimp only
        rw [List.dropLast_concat]
        exact I.nd
      · have := I.ln
        omega
      · obtain ⟨i, s, c, h0⟩ := hb9
        exact ⟨i, s, c, sm _ _ h0⟩
end
section
variable {P : Program} {w : World} {K : PySem.W.Frag} {mg : Str → Option Value} {base : Heap}
theorem ok_way_on (T : Txt K w mg) : FnOk P w K mg base CX0 1 T.f_way_on T.fd_way_on ["way", "shape"] spTurn := by
  refine T.F_way_on.ok sc_way_on (fun vs H Q E h => ?_) (fun cdv A outer s H vs Q E hr h => ?_)
  · obtain ⟨w, s, rfl, _⟩ := h
    rfl
  · obtain ⟨w, s, rfl, q⟩ := h
    refine ⟨_, (pss_one (ps_ret (pe_op op_mod (pe_op op_add (pv 0) (pe_ix ix_kdict (pe_glob (v := .ref T.a_TURNS) (by rfl) T.g_TURNS rfl) (pv 1) (fun _ _ => rfl))) pe_int))), ?_⟩
    exact ⟨.int w, rfl, .str s.str, rfl, T.a_TURNS, s.str, .int s.t, rfl, rfl, T.TURNS s, w, s.t, rfl, rfl, _, 4, rfl, rfl, by show (0 : Int) < 4; decide, q _ (Same.refl H)⟩
theorem ok_onward (T : Txt K w mg) : FnOk P w K mg base CX0 1 T.f_onward T.fd_onward ["square", "way", "steps"] (spOnward K) := by
  refine FunD_ok0 T.F_onward sc_onward (fun vs H Q E h => ?_) (fun cdv A outer s H vs Q E hr h => ?_)
  · obtain ⟨v, p, w, n, rfl, _⟩ := h
    rfl
  · obtain ⟨v, p, w, n, rfl, hd, w0, w3, q⟩ := h
    obtain ⟨a, rfl, hs⟩ := sq_at hd
    obtain ⟨aS, xS, eS, hsS, dS⟩ := (T.STEPS H).tupOf
    cases eS
    obtain ⟨b, hb, hbs⟩ := step_at dS w0 w3
    refine ⟨_, (pss_cons (ps_asg (pv 0) (pg_tup (n := 2) rfl (pgs_cons (pg_name (i := 3) sc_onward.nd rfl (.inl rfl)) (pgs_cons (pg_name (i := 4) sc_onward.nd rfl (.inl rfl)) pgs_nil))))
 (pss_cons (ps_asg (pe_ix ix_tup (pe_glob (v := .ref T.a_STEPS) (by rfl) T.g_STEPS rfl) (pv 1) (fun _ _ => rfl)) (pg_tup (n := 2) rfl (pgs_cons (pg_name (i := 5) sc_onward.nd rfl (.inl rfl)) (pgs_cons (pg_name (i := 6) sc_onward.nd rfl (.inl rfl)) pgs_nil))))
 (pss_one (ps_ret (pe_tup (pa_cons (pe_op op_add (pv 3) (pe_op op_mul (pv 5) (pv 2))) (pa_cons (pe_op op_add (pv 4) (pe_op op_mul (pv 6) (pv 2))) pa_nil))))))), ?_⟩
    refine ⟨.ref a, rfl, a, _, rfl, hs, rfl, _, _, rfl, _, _, rfl, rfl, ?_⟩
    refine ⟨.int w, rfl, _, _, w, .ref b, rfl, rfl, hsS, hb, b, _, rfl, hbs, rfl, _, _, rfl, _, _, rfl, rfl, ?_⟩
    refine ⟨.int p.1, rfl, .int (dx w), rfl, .int n, rfl, dx w, n, rfl, rfl, dx_ok w n, p.1, _, rfl, rfl, .int p.2, rfl, .int (dy w), rfl, .int n, rfl, dy w, n, rfl, rfl, dy_ok w n, p.2, _, rfl, rfl, by show 2 ≤ sizeLine; decide, fun t nt => ?_⟩
    exact q _ _ (same_new nt) (DT.new (.cons (.int _) (.cons (.int _) .nil)) nt)
end
section
variable {P : Program} {w : World} {K : PySem.W.Frag} {mg : Str → Option Value} {base : Heap}
theorem ok_walk (T : Txt K w mg) : FnOk P w K mg base CX0 2 T.f_walk T.fd_walk ["engine", "many"] (spD K fWalk) := by
  refine T.F_walk.ok sc_walk (fun vs H Q E h => ?_) (fun cdv A outer s H vs Q E hr h => ?_)
  · obtain ⟨ds, A, rv, _, x, y, w, look, rs, n, rfl, _⟩ := h
    exact RVs.length rv
  · refine ⟨_, (pss_cons (ps_asg (pv 0) (pg_tup (n := 5) rfl (pgs_cons (pg_name (i := 2) sc_walk.nd rfl (.inl rfl)) (pgs_cons (pg_name (i := 3) sc_walk.nd rfl (.inl rfl)) (pgs_cons (pg_name (i := 4) sc_walk.nd rfl (.inl rfl)) (pgs_cons (pg_name (i := 5) sc_walk.nd rfl (.inl rfl)) (pgs_cons (pg_name (i := 6) sc_walk.nd rfl (.inl rfl)) pgs_nil)))))))
 (pss_cons (ps_set (i := 7) sc_walk.nd rfl (.inl rfl) (pe_tup (pa_cons (pv 2) (pa_cons (pv 3) pa_nil))))
 (pss_cons (ps_set (i := 8) sc_walk.nd rfl (.inl rfl) (pe_lst pa_nil))
 (pss_cons (ps_for PassesOwn.never rfl (pi_range1 (by rfl) T.m_range (pa_cons (pv 1) pa_nil)) (pg_name (i := 9) sc_walk.nd rfl (.inl rfl))
 (pss_cons (ps_expr (pe_bm PySem.F.plainAttrs_list PySem.F.slot_list_append PySem.F.type_list_append mt_append (pv 8) (pa_cons (pe_tup (pa_cons (pv 7) (pa_cons (pv 4) pa_nil))) pa_nil)))
 (pss_cons (ps_asg (pe_ix ix_tup (pv 6) (pe_op op_mod (pv 9) (pe_callB call_len_seq (by rfl) T.m_len (by decide +kernel) (pa_cons (pv 6) pa_nil))) (fun _ _ => rfl)) (pg_tup (n := 2) rfl (pgs_cons (pg_name (i := 10) sc_walk.nd rfl (.inl rfl)) (pgs_cons (pg_name (i := 11) sc_walk.nd rfl (.inl rfl)) pgs_nil))))
 (pss_cons (ps_set (i := 4) sc_walk.nd rfl (.inl rfl) (pe_call (ok_way_on T) (hr.mono (by decide)) (by rfl) T.g_way_on T.F_way_on.kp T.b_way_on .nil pass0 (pa_cons (pv 4) (pa_cons (pv 10) pa_nil))))
 (pss_one (ps_set (i := 7) sc_walk.nd rfl (.inl rfl) (pe_call (ok_onward T) (hr.mono (by decide)) (by rfl) T.g_onward T.F_onward.kp T.b_onward T.v_onward pass0 (pa_cons (pv 7) (pa_cons (pv 4) pa_nil)))))))))
 (pss_one (ps_ret (pv 8))))))), ?_⟩
    dsimp only [cxOf, Cx.nox]
    refine body_D h fun H0 ds A Q hφ => ?_
    obtain ⟨x, y, w, look, rs, n, rfl, rfl, ne, hn, q⟩ := hφ
    walk_at "dw"
    rename_i p
    refine ws_for ?_
    walk_at "dw"
    refine ⟨_, rfl, by omega, by omega, (fun i ρ A => ∃ y9 y10 y11, ρ = [some (.dat (eng x y w look rs)), some (.int n), some (.int x), some (.int y), some (.int (rd x y w rs i).2), some (.int look), some (.dat (.tuple (rs.map rail))), some (.dat (sq (rd x y w rs i).1)), some (.ref p), y9, y10, y11] ∧
      A = [(p, .lst (dats ((List.range i).map fun k => pdat (rd x y w rs k))))]), ⟨none, none, none, rfl, rfl⟩, fun _ _ _ _ _ => trivial, ?_, ?_⟩
    · rintro i ρ A hi ⟨y9, y10, y11, rfl, rfl⟩
      walk_at "dw"
      refine ⟨0, _, _, rfl, rfl, ?_, ?_⟩
      · rw [dats, List.length_map, List.length_map, List.length_range]
        omega
      walk_at "dw"
      have ne := ne (by omega)
      refine rw_Ii (by rw [List.length_map]; have := List.length_pos_iff.mpr ne; omega) ?_
      refine rw_ixT (rail_ix ne i) ?_
      walk_at "dw"
      refine we_call (ds := [.int 1]) (fun _ => .cons (.int 1) .nil) ?_
      walk_at "dw"
      refine rs_onward1 (tn_lo _ _) (tn_hi _ _) ?_
      walk_at "dw"
      refine ⟨_, _, _, rfl, ?_⟩
      rw [List.range_succ, List.map_append]
      show [(p, Cell.lst (dats _ ++ [_]))] = _
      rw [dats, dats, List.map_append]
      rfl
    · rintro ρ A ⟨y9, y10, y11, rfl, rfl⟩
      rw [Int.toNat_natCast]
      walk_at "dw"
      exact ⟨_, List.Sublist.refl _, q p⟩
theorem ok_squares_of (T : Txt K w mg) : FnOk P w K mg base CX0 3 T.f_squares_of T.fd_squares_of ["engine"] (spSquares K) := by
  have key : FnOk P w K mg base CX0 3 T.f_squares_of T.fd_squares_of ["engine"] (spD K fun ds A Q => ∃ (x y w look : Int) (rs : List (Sh × Int)), ds = [.dat (eng x y w look rs)] ∧ A = [] ∧ rs.length ≤ 900 ∧ Q (.dat (.tuple ((wst x y w rs).1.dropLast.map sq))) []) := by
    refine T.F_squares_of.ok sc_squares_of (fun vs H Q E h => ?_) (fun cdv A outer s H vs Q E hr h => ?_)
    · obtain ⟨ds, A, rv, _, x, y, w, look, rs, rfl, _⟩ := h
      exact RVs.length rv
    · refine ⟨_, (pss_cons (ps_asg (pv 0) (pg_tup (n := 5) rfl (pgs_cons (pg_name (i := 1) sc_squares_of.nd rfl (.inl rfl)) (pgs_cons (pg_name (i := 2) sc_squares_of.nd rfl (.inl rfl)) (pgs_cons (pg_name (i := 3) sc_squares_of.nd rfl (.inl rfl)) (pgs_cons (pg_name (i := 4) sc_squares_of.nd rfl (.inl rfl)) (pgs_cons (pg_name (i := 5) sc_squares_of.nd rfl (.inl rfl)) pgs_nil)))))))
 (pss_one (ps_ret (pe_callTy call_tuple_of (by rfl) T.m_tuple (by decide +kernel) (pa_cons (pe_lc (own := [("square", 6), ("onto", 7)]) (g := gTup K 2 (gCons (gName 6) (gCons (gName 7) gNil))) (by rfl) sc_squares_of.nd (pi_list (pe_call (ok_walk T) (hr.mono (by decide)) (by rfl) T.g_walk T.F_walk.kp T.b_walk .nil pass0 (pa_cons (pv 0) (pa_cons (pe_callB call_len_seq (by rfl) T.m_len (by decide +kernel) (pa_cons (pv 5) pa_nil)) pa_nil)))) (blkOk_by (own := [("square", 6), ("onto", 7)]) (N := N_squares_of) (sc := defScope s_squares_of) (by decide +kernel)) (fun _ _ _ _ _ => pg_tup (n := 2) rfl (pgs_cons (pg_name (i := 6) sc_squares_of.nd rfl (.inl rfl) (.inr rfl)) (pgs_cons (pg_name (i := 7) sc_squares_of.nd rfl (.inl rfl) (.inr rfl)) pgs_nil))) (fun _ _ _ _ _ => pts_nil) (fun _ _ _ _ _ => (pv 6))) pa_nil))))), ?_⟩
      dsimp only [cxOf, Cx.nox]
      refine body_D h fun H0 ds A Q hφ => ?_
      obtain ⟨x, y, w, look, rs, rfl, rfl, hl, q⟩ := hφ
      walk_at "dw"
      refine we_lcP (own_tup (own_cons (own_name (by decide)) (own_cons (own_name (by decide)) own_nil))) ?_
      walk_at "dw"
      rw [List.length_map]
      refine rs_walk (fun h0 z => by rw [z] at h0; exact h0 rfl) (by omega) fun p => ?_
      refine ⟨p, _, rfl, .head _, fun i => .dat (sq (rd x y w rs i).1), ?_, .head _, fun i hi H1 X1 => ?_, fun p2 => ?_⟩
      · simp [dats]; omega
      · have hi' : i < rs.length := by simpa [dats] using hi
        dsimp only
        rw [dats_getD (by simpa [dats] using hi), getD_range hi']
        walk_at "dw"
        exact ⟨rfl, rfl⟩
      · walk_at "dw"
        refine rl_tupL (n := 0) (ds := (wst x y w rs).1.dropLast.map sq) ?_ ⟨[], List.nil_sublist _, q⟩
        rw [OR.wst_drop, List.map_map]
        simp [dats]
  refine key.imp fun vs H Q E ⟨v, x, y, w, look, rs, e1, hd, hl, q⟩ => ?_
  subst e1
  exact sp_of_pure (ds := [eng x y w look rs]) (.cons hd .nil) (fun Q' q' => ⟨x, y, w, look, rs, rfl, rfl, hl, q'⟩) q
end
section
variable {P : Program} {w : World} {K : PySem.W.Frag} {mg : Str → Option Value} {base : Heap}
/-! ### the making of a NoEngine -/
def spMk (C : Addr) (f : Str) : Sp := fun vs H Q _ => ∃ (a : Addr) (v : V), vs = [.ref a, v] ∧ H a = some (exo a C none) ∧ ∀ dx, H dx = none → dx ≠ a → Q .non (upd (upd H dx (exd dx [(f, v)])) a (exo a C (some dx)))
theorem ok_NoEngine (T : Txt K w mg) : FnOk P w K mg base CX0 1 T.i_NoEngine T.id_NoEngine ["self", "word"] (spMk T.a_NoEngine "word") := by
  refine T.F_NoEngine.ok sc_NoEngine (fun vs H Q E h => ?_) (fun cdv A outer s H vs Q E hr h => ?_)
  · obtain ⟨a, v, rfl, _⟩ := h
    rfl
  · obtain ⟨a, v, rfl, ha, q⟩ := h
    refine ⟨_, (pss_one (ps_ost (pv 0) (pv 1))), ?_⟩
    exact ⟨v, rfl, .ref a, rfl, a, T.a_NoEngine, rfl, T.x_NoEngine, T.n_NoEngine_word, .inl ⟨ha, fun dx n1 n2 => q dx n1 n2⟩⟩
/-- a NoEngine made: all is as it was, its dict is new -/
theorem r_mk {σ : L2.St} {H : Hp} {C : Addr} {f : Str} {v : V} {ta : TA} {Q : XK} (ht : ∀ R : List V → Hp → Prop, R [v] H → ta σ H R) (q : ∀ H' d, Same H H' → H' d = some (.xd [(f, v)]) → Q (.ref C) (some d) H') : tMkO C (spMk C f) [] ta σ H Q := by
  refine ht _ ⟨by show 1 ≤ 1000; decide, fun a na => ⟨a, v, rfl, upd_same, fun dx n1 n2 => ⟨rfl, dx, [(f, v)], upd_same, ?_, ?_, ?_⟩⟩⟩
  · rw [upd_ne n2, upd_same]
  · rw [upd_ne n2] at n1
    exact n1
  · refine q _ _ (fun b o h => ?_) upd_same
    have ba : b ≠ a := ne_of_none h na
    rw [upd_ne n2] at n1
    rw [upd_ne (ne_of_none h n1), del_ne ba, upd_ne ba, upd_ne (ne_of_none h n1), upd_ne ba]
    exact h
/-! ### what has the form of an engine -/
def spB (K : PySem.W.Frag) (f : PyData → Bool) : Sp := fun vs H Q _ => ∃ (v : V) (d : PyData), vs = [v] ∧ DT K H v d ∧ ∀ H', Same H H' → Q (.bl (f d)) H'
theorem kI {K : PySem.W.Frag} {H : Hp} {v : V} {d : PyData} (h : DT K H v d) : PySem.W.kitOne K (.type (tyN d)) (.type "int") = some (isI d || isB d) := by
  cases h <;> rfl
end
section
variable {P : Program} {w : World} {K : PySem.W.Frag} {mg : Str → Option Value} {base : Heap}
theorem ok_is_whole (T : Txt K w mg) : FnOk P w K mg base CX0 1 T.f_is_whole T.fd_is_whole ["thing"] (spB K isI) := by
  refine T.F_is_whole.ok sc_is_whole (fun vs H Q E h => ?_) (fun cdv A outer s H vs Q E hr h => ?_)
  · obtain ⟨v, d, rfl, _⟩ := h
    rfl
  · obtain ⟨v, d, rfl, hd, q⟩ := h
    refine ⟨_, (pss_one (ps_ret (pe_and (pe_callB call_isi (by rfl) T.m_isinstance (by decide +kernel) (pa_cons (pv 0) (pa_cons (pe_bltn (v := .ty "int") (by rfl) T.m_int (by decide +kernel) rfl) pa_nil))) (pe_one (pe_not (pe_callB call_isi (by rfl) T.m_isinstance (by decide +kernel) (pa_cons (pv 0) (pa_cons (pe_bltn (v := .ty "bool") (by rfl) T.m_bool (by decide +kernel) rfl) pa_nil)))))))), ?_⟩
    refine ⟨v, rfl, v, .ty "int", _, _, _, rfl, .ty _, hd.ty, kI hd, _, rfl, ite2 (fun e => ?_) (fun e => ?_)⟩
    · refine ⟨v, rfl, v, .ty "bool", _, _, _, rfl, .ty _, hd.ty, kB hd, _, rfl, ?_⟩
      have z : (!isB d) = isI d := by
        cases d <;> first | rfl | (exact absurd rfl e) | (simp [isI, isB] at e)
      rw [z]
      exact q H (Same.refl H)
    · have z : isI d = false := by
        cases d <;> first | rfl | (exact absurd rfl e)
      have q1 := q H (Same.refl H)
      rw [z] at q1
      exact q1
end
section
variable {P : Program} {w : World} {K : PySem.W.Frag} {mg : Str → Option Value} {base : Heap}
theorem ok__law_is_whole (T : Txt K w mg) : FnOk P w K mg base CX0 1 T.f__law_is_whole T.fd__law_is_whole ["_law_thing_here"] (spB K isI) := by
  refine T.F__law_is_whole.ok sc__law_is_whole (fun vs H Q E h => ?_) (fun cdv A outer s H vs Q E hr h => ?_)
  · obtain ⟨v, d, rfl, _⟩ := h
    rfl
  · obtain ⟨v, d, rfl, hd, q⟩ := h
    refine ⟨_, (pss_one (ps_ret (pe_and (pe_callB call_isi (by rfl) T.m_isinstance (by decide +kernel) (pa_cons (pv 0) (pa_cons (pe_bltn (v := .ty "int") (by rfl) T.m_int (by decide +kernel) rfl) pa_nil))) (pe_one (pe_not (pe_callB call_isi (by rfl) T.m_isinstance (by decide +kernel) (pa_cons (pv 0) (pa_cons (pe_bltn (v := .ty "bool") (by rfl) T.m_bool (by decide +kernel) rfl) pa_nil)))))))), ?_⟩
    refine ⟨v, rfl, v, .ty "int", _, _, _, rfl, .ty _, hd.ty, kI hd, _, rfl, ite2 (fun e => ?_) (fun e => ?_)⟩
    · refine ⟨v, rfl, v, .ty "bool", _, _, _, rfl, .ty _, hd.ty, kB hd, _, rfl, ?_⟩
      have z : (!isB d) = isI d := by
        cases d <;> first | rfl | (exact absurd rfl e) | (simp [isI, isB] at e)
      rw [z]
      exact q H (Same.refl H)
    · have z : isI d = false := by
        cases d <;> first | rfl | (exact absurd rfl e)
      have q1 := q H (Same.refl H)
      rw [z] at q1
      exact q1
end
section
variable {P : Program} {w : World} {K : PySem.W.Frag} {mg : Str → Option Value} {base : Heap}
theorem tup_of {d : PyData} (h : isT d = true) : ∃ ds, d = .tuple ds := by
  cases d <;> first | exact ⟨_, rfl⟩ | cases h
theorem ok_has_rail_form (T : Txt K w mg) : FnOk P w K mg base CX0 2 T.f_has_rail_form T.fd_has_rail_form ["thing"] (spB K isRail) := by
  refine T.F_has_rail_form.ok sc_has_rail_form (fun vs H Q E h => ?_) (fun cdv A outer s H vs Q E hr h => ?_)
  · obtain ⟨v, d, rfl, _⟩ := h
    rfl
  · obtain ⟨v, d, rfl, hd, q⟩ := h
    refine ⟨_, (pss_cons (ps_if (PW.pt (pw_or (pt_not (pt_val (pe_callB call_isi (by rfl) T.m_isinstance (by decide +kernel) (pa_cons (pv 0) (pa_cons (pe_bltn (v := .ty "tuple") (by rfl) T.m_tuple (by decide +kernel) rfl) pa_nil))))) (pw_or1 (pt_cmpR op_ne (pe_callB call_len_seq (by rfl) T.m_len (by decide +kernel) (pa_cons (pv 0) pa_nil)) pe_int (nomark _)))))
 (pss_one (ps_ret pe_bl))
 pss_nil)
 (pss_cons (ps_asg (pv 0) (pg_tup (n := 2) rfl (pgs_cons (pg_name (i := 1) sc_has_rail_form.nd rfl (.inl rfl)) (pgs_cons (pg_name (i := 2) sc_has_rail_form.nd rfl (.inl rfl)) pgs_nil))))
 (pss_one (ps_ret (pe_and (pe_callB call_isi (by rfl) T.m_isinstance (by decide +kernel) (pa_cons (pv 1) (pa_cons (pe_bltn (v := .ty "str") (by rfl) T.m_str (by decide +kernel) rfl) pa_nil))) (pe_one (pe_call (ok_is_whole T) (hr.mono (by decide)) (by rfl) T.g_is_whole T.F_is_whole.kp T.b_is_whole .nil pass0 (pa_cons (pv 2) pa_nil)))))))), ?_⟩
    refine ⟨v, rfl, v, .ty "tuple", _, _, _, rfl, .ty _, hd.ty, kT hd, _, rfl, ite2 (fun e => ?_) (fun e => ?_)⟩
    · have z : isRail d = false := by
        cases d <;> first | rfl | (exact absurd e Bool.false_ne_true)
      rw [z] at q
      exact iteT (q H (Same.refl H))
    · have z : isT d = true := by
        cases hz : isT d with
        | true => rfl
        | false => exact absurd (by rw [hz]; rfl) e
      obtain ⟨ds, rfl⟩ := tup_of z
      obtain ⟨a, xs, rfl, hs, hx⟩ := hd.tupOf
      refine ⟨.ref a, rfl, a, xs, rfl, .inr hs, rfl, _, rfl, ite2 (fun e2 => ?_) (fun e2 => ?_)⟩
      · have z : isRail (.tuple ds) = false := by
          unfold isRail
          split
          · rename_i a b he
            cases he
            rw [hx.length] at e2
            exact absurd e2 (by simp)
          · rfl
        rw [z] at q
        exact q H (Same.refl H)
      · have l2 : ds.length = 2 := by
          rw [hx.length] at e2
          by_cases l2 : ds.length = 2
          · exact l2
          · exact absurd (by simp [l2]; omega) e2
        obtain ⟨d1, d2, rfl⟩ : ∃ d1 d2, ds = [d1, d2] := by
          match ds, l2 with
          | [d1, d2], _ => exact ⟨d1, d2, rfl⟩
        obtain ⟨v1, v2, rfl, h1, h2⟩ := hx.two
        refine ⟨.ref a, rfl, a, _, rfl, hs, rfl, _, _, rfl, _, _, rfl, rfl, ?_⟩
        refine ⟨v1, rfl, v1, .ty "str", _, _, _, rfl, .ty _, h1.ty, kS h1, _, rfl, ite2 (fun e3 => ?_) (fun e3 => ?_)⟩
        · refine ⟨v2, rfl, v2, d2, rfl, h2, fun H' s' => ?_⟩
          have q1 := q H' s'
          have z : isRail (.tuple [d1, d2]) = isI d2 := by
            show (isS d1 && isI d2) = _
            rw [e3, Bool.true_and]
          rw [z] at q1
          exact q1
        · have q1 := q H (Same.refl H)
          have z : isRail (.tuple [d1, d2]) = false := by
            show (isS d1 && isI d2) = _
            rw [Bool.eq_false_iff.mpr e3, Bool.false_and]
          rw [z] at q1
          exact q1
theorem ok_has_rails_form (T : Txt K w mg) : FnOk P w K mg base CX0 3 T.f_has_rails_form T.fd_has_rails_form ["thing"] (spB K isRails) := by
  refine T.F_has_rails_form.ok sc_has_rails_form (fun vs H Q E h => ?_) (fun cdv A outer s H vs Q E hr h => ?_)
  · obtain ⟨v, d, rfl, _⟩ := h
    rfl
  · obtain ⟨v, d, rfl, hd, q⟩ := h
    refine ⟨_, (pss_cons (ps_if (PW.pt (pw_or (pt_not (pt_val (pe_callB call_isi (by rfl) T.m_isinstance (by decide +kernel) (pa_cons (pv 0) (pa_cons (pe_bltn (v := .ty "tuple") (by rfl) T.m_tuple (by decide +kernel) rfl) pa_nil))))) (pw_or1 (pt_not (pt_chain op_le op_le pe_int (pe_callB call_len_seq (by rfl) T.m_len (by decide +kernel) (pa_cons (pv 0) pa_nil)) (pe_glob (v := .int 12) (by rfl) T.g_RAILS ⟨_, rfl⟩))))))
 (pss_one (ps_ret pe_bl))
 pss_nil)
 (pss_one (ps_ret (pe_callB (cr_all rfl) (by rfl) T.m_all (by decide +kernel) (pa_cons (pe_lc (own := [("rail", 1)]) (g := gName 1) (by rfl) sc_has_rails_form.nd (pi_tup (pv 0)) (blkOk_by (own := [("rail", 1)]) (N := N_has_rails_form) (sc := defScope s_has_rails_form) (by decide +kernel)) (fun _ _ _ _ _ => pg_name (i := 1) sc_has_rails_form.nd rfl (.inl rfl) (.inr rfl)) (fun _ _ _ _ _ => pts_nil) (fun _ _ _ _ _ => (pe_call (ok_has_rail_form T) (hr.mono (by decide)) (by rfl) T.g_has_rail_form T.F_has_rail_form.kp T.b_has_rail_form .nil pass0 (pa_cons (pv 1) pa_nil)))) pa_nil))))), ?_⟩
    refine ⟨v, rfl, v, .ty "tuple", _, _, _, rfl, .ty _, hd.ty, kT hd, _, rfl, ite2 (fun e => ?_) (fun e => ?_)⟩
    · have z : isRails d = false := by
        cases d <;> first | rfl | (exact absurd e Bool.false_ne_true)
      rw [z] at q
      exact iteT (q H (Same.refl H))
    · have z : isT d = true := by
        cases hz : isT d with
        | true => rfl
        | false => exact absurd (by rw [hz]; rfl) e
      obtain ⟨ds, rfl⟩ := tup_of z
      obtain ⟨a, xs, rfl, hs, hx⟩ := hd.tupOf
      have hl := hx.length
      refine ⟨.ref a, rfl, a, xs, rfl, .inr hs, 1, _, rfl, rfl, _, rfl, ite2 (fun e2 => ?_) (fun e2 => ?_)⟩
      · have g1 := of_decide_eq_true e2
        refine ⟨_, 12, rfl, rfl, _, rfl, ite2 (fun e3 => ?_) (fun e3 => ?_)⟩
        · have g2 : ¬ ds.length ≤ 12 := fun z => by
            rw [decide_eq_true (by rw [hl]; omega)] at e3
            cases e3
          have q1 := q H (Same.refl H)
          have z2 : isRails (.tuple ds) = false := by
            show ((decide (1 ≤ ds.length) && decide (ds.length ≤ 12)) && ds.all isRail) = false
            rw [decide_eq_false g2, Bool.and_false, Bool.false_and]
          rw [z2] at q1
          exact q1
        · have g2 : ds.length ≤ 12 := by
            by_cases z : ds.length ≤ 12
            · exact z
            · refine absurd ?_ e3
              rw [decide_eq_false (by rw [hl]; omega)]
              rfl
          refine ⟨.ref a, rfl, a, rfl, ⟨xs, hs⟩, fun D nD => lc_data (fun _ => true) (fun d => .bl (isRail d)) hs hx (by omega) nD (fun d v H' hm s1 dv R Z r1 _ => ⟨rfl, ⟨v, rfl, v, d, rfl, dv, fun H2 s2 => r1 rfl H2 s2⟩⟩) (fun H' s1 hD => ?_)⟩
          rw [filter_all] at hD
          refine ⟨D, ds.map isRail, rfl, SqL.of (by rw [List.map_map]; exact hD), ?_⟩
          have q1 := q H' s1
          have z2 : isRails (.tuple ds) = (ds.map isRail).all id := by
            show ((decide (1 ≤ ds.length) && decide (ds.length ≤ 12)) && ds.all isRail) = _
            rw [decide_eq_true g2, decide_eq_true (by omega), List.all_map]
            rfl
          rw [z2] at q1
          exact q1
      · refine ⟨false, rfl, iteT ?_⟩
        have g1 : ¬ 1 ≤ ds.length := fun z => e2 (decide_eq_true (by rw [hl]; omega))
        have q1 := q H (Same.refl H)
        have z2 : isRails (.tuple ds) = false := by
          show ((decide (1 ≤ ds.length) && decide (ds.length ≤ 12)) && ds.all isRail) = false
          rw [decide_eq_false g1, Bool.false_and, Bool.false_and]
        rw [z2] at q1
        exact q1
theorem ok_has_engine_form (T : Txt K w mg) : FnOk P w K mg base CX0 4 T.f_has_engine_form T.fd_has_engine_form ["thing"] (spB K formOf) := by
  refine T.F_has_engine_form.ok sc_has_engine_form (fun vs H Q E h => ?_) (fun cdv A outer s H vs Q E hr h => ?_)
  · obtain ⟨v, d, rfl, _⟩ := h
    rfl
  · obtain ⟨v, d, rfl, hd, q⟩ := h
    refine ⟨_, (pss_cons (ps_if (PW.pt (pw_or (pt_not (pt_val (pe_callB call_isi (by rfl) T.m_isinstance (by decide +kernel) (pa_cons (pv 0) (pa_cons (pe_bltn (v := .ty "tuple") (by rfl) T.m_tuple (by decide +kernel) rfl) pa_nil))))) (pw_or1 (pt_cmpR op_ne (pe_callB call_len_seq (by rfl) T.m_len (by decide +kernel) (pa_cons (pv 0) pa_nil)) pe_int (nomark _)))))
 (pss_one (ps_ret pe_bl))
 pss_nil)
 (pss_cons (ps_asg (pv 0) (pg_tup (n := 5) rfl (pgs_cons (pg_name (i := 1) sc_has_engine_form.nd rfl (.inl rfl)) (pgs_cons (pg_name (i := 2) sc_has_engine_form.nd rfl (.inl rfl)) (pgs_cons (pg_name (i := 3) sc_has_engine_form.nd rfl (.inl rfl)) (pgs_cons (pg_name (i := 4) sc_has_engine_form.nd rfl (.inl rfl)) (pgs_cons (pg_name (i := 5) sc_has_engine_form.nd rfl (.inl rfl)) pgs_nil)))))))
 (pss_one (ps_ret (pe_and (pe_callB (cr_all rfl) (by rfl) T.m_all (by decide +kernel) (pa_cons (pe_lc (own := [("part", 6)]) (g := gName 6) (by rfl) sc_has_engine_form.nd (pi_tup (pe_tup (pa_cons (pv 1) (pa_cons (pv 2) (pa_cons (pv 3) (pa_cons (pv 4) pa_nil)))))) (blkOk_by (own := [("part", 6)]) (N := N_has_engine_form) (sc := defScope s_has_engine_form) (by decide +kernel)) (fun _ _ _ _ _ => pg_name (i := 6) sc_has_engine_form.nd rfl (.inl rfl) (.inr rfl)) (fun _ _ _ _ _ => pts_nil) (fun _ _ _ _ _ => (pe_call (ok_is_whole T) (hr.mono (by decide)) (by rfl) T.g_is_whole T.F_is_whole.kp T.b_is_whole .nil pass0 (pa_cons (pv 6) pa_nil)))) pa_nil)) (pe_one (pe_call (ok_has_rails_form T) (hr.mono (by decide)) (by rfl) T.g_has_rails_form T.F_has_rails_form.kp T.b_has_rails_form .nil pass0 (pa_cons (pv 5) pa_nil)))))))), ?_⟩
    refine ⟨v, rfl, v, .ty "tuple", _, _, _, rfl, .ty _, hd.ty, kT hd, _, rfl, ite2 (fun e => ?_) (fun e => ?_)⟩
    · have z : formOf d = false := by
        cases d <;> first | rfl | (exact absurd e Bool.false_ne_true)
      rw [z] at q
      exact iteT (q H (Same.refl H))
    · have z : isT d = true := by
        cases hz : isT d with
        | true => rfl
        | false => exact absurd (by rw [hz]; rfl) e
      obtain ⟨ds, rfl⟩ := tup_of z
      obtain ⟨a, xs, rfl, hs, hx⟩ := hd.tupOf
      have hl := hx.length
      refine ⟨.ref a, rfl, a, xs, rfl, .inr hs, rfl, _, rfl, ite2 (fun e2 => ?_) (fun e2 => ?_)⟩
      · have z : formOf (.tuple ds) = false := by
          unfold formOf
          split
          · rename_i a b c d e he
            cases he
            rw [hl] at e2
            exact absurd e2 (by simp)
          · rfl
        rw [z] at q
        exact q H (Same.refl H)
      · have l2 : ds.length = 5 := by
          rw [hl] at e2
          by_cases l2 : ds.length = 5
          · exact l2
          · exact absurd (by simp [l2]; omega) e2
        obtain ⟨d1, d2, d3, d4, d5, rfl⟩ : ∃ d1 d2 d3 d4 d5, ds = [d1, d2, d3, d4, d5] := by
          match ds, l2 with
          | [d1, d2, d3, d4, d5], _ => exact ⟨d1, d2, d3, d4, d5, rfl⟩
        obtain ⟨v1, v2, v3, v4, v5, rfl, h1, h2, h3, h4, h5⟩ := hx.five
        refine ⟨.ref a, rfl, a, _, rfl, hs, rfl, _, _, rfl, _, _, rfl, _, _, rfl, _, _, rfl, _, _, rfl, rfl, ?_⟩
        refine ⟨v1, rfl, v2, rfl, v3, rfl, v4, rfl, by show 4 ≤ sizeLine; decide, fun t nt => ?_⟩
        have tk := tk_new (o := HO.tup [v1, v2, v3, v4]) nt
        refine ⟨t, rfl, ⟨_, SqT.of upd_same⟩, fun D nD => lc_data (ds := [d1, d2, d3, d4]) (fun _ => true) (fun d => .bl (isI d)) (SqT.of upd_same) (.cons (h1.up tk) (.cons (h2.up tk) (.cons (h3.up tk) (.cons (h4.up tk) .nil)))) (by show 4 ≤ 1000; decide) nD (fun d v H' hm s1 dv R Z r1 _ => ⟨rfl, ⟨v, rfl, v, d, rfl, dv, fun H2 s2 => r1 rfl H2 s2⟩⟩) (fun H' s1 hD => ?_)⟩
        rw [filter_all] at hD
        have s2 := (same_new nt).trans s1
        refine ⟨D, [d1, d2, d3, d4].map isI, rfl, SqL.of (by rw [List.map_map]; exact hD), _, rfl, ite2 (fun e3 => ?_) (fun e3 => ?_)⟩
        · refine ⟨v5, rfl, v5, d5, rfl, h5.up (tk_same s2), fun H2 s3 => ?_⟩
          have q1 := q H2 (s2.trans s3)
          have z2 : formOf (.tuple [d1, d2, d3, d4, d5]) = isRails d5 := by
            show ((isI d1 && (isI d2 && (isI d3 && isI d4))) && isRails d5) = _
            simp only [List.map_cons, List.map_nil, List.all_cons, List.all_nil, id, Bool.and_true] at e3
            rw [e3, Bool.true_and]
          rw [z2] at q1
          exact q1
        · have q1 := q H' s2
          have z2 : formOf (.tuple [d1, d2, d3, d4, d5]) = false := by
            show ((isI d1 && (isI d2 && (isI d3 && isI d4))) && isRails d5) = _
            simp only [List.map_cons, List.map_nil, List.all_cons, List.all_nil, id, Bool.and_true] at e3
            rw [Bool.eq_false_iff.mpr e3, Bool.false_and]
          rw [z2] at q1
          exact q1
end
section
variable {P : Program} {w : World} {K : PySem.W.Frag} {mg : Str → Option Value} {base : Heap}
def spTwice (K : PySem.W.Frag) : Sp := fun vs H Q _ => ∃ (v : V) (x y w l : Int) (rs : List (Sh × Int)), vs = [v] ∧ DT K H v (eng x y w l rs) ∧ rs.length ≤ 12 ∧ ∀ H', Same H H' → Q (.bl (decide (¬ (wst x y w rs).1.dropLast.Nodup))) H'
theorem keys_of {H : Hp} : ∀ {xs : List V} {qs : List (Int × Int)}, DTs K H xs (qs.map sq) → ∃ ks : List (Addr × List Int), xs = (ks.map fun p => V.ref p.1) ∧ (∀ p ∈ ks, SqT K H p.1 (p.2.map V.int)) ∧ ks.map (·.2) = qs.map fun q => [q.1, q.2] := by
  intro xs qs
  induction qs generalizing xs with
  | nil =>
    intro h
    cases h
    exact ⟨[], rfl, fun p hp => (nomatch hp), rfl⟩
  | cons q qs ih =>
    intro h
    rw [List.map_cons] at h
    cases h with
    | cons h1 h2 =>
      obtain ⟨a, rfl, ha⟩ := sq_at h1
      obtain ⟨ks, rfl, h3, h4⟩ := ih h2
      refine ⟨(a, [q.1, q.2]) :: ks, rfl, fun p hp => ?_, by rw [List.map_cons, List.map_cons, h4]⟩
      rcases List.mem_cons.mp hp with rfl | hp
      · exact ha
      · exact h3 p hp
theorem ok_lies_twice (T : Txt K w mg) : FnOk P w K mg base CX0 4 T.f_lies_twice T.fd_lies_twice ["engine"] (spTwice K) := by
  refine T.F_lies_twice.ok sc_lies_twice (fun vs H Q E h => ?_) (fun cdv A outer s H vs Q E hr h => ?_)
  · obtain ⟨v, x, y, w, l, rs, rfl, _⟩ := h
    rfl
  · obtain ⟨v, x, y, w, l, rs, rfl, hd, hl, q⟩ := h
    refine ⟨_, (pss_cons (ps_set (i := 1) sc_lies_twice.nd rfl (.inl rfl) (pe_call (ok_squares_of T) (hr.mono (by decide)) (by rfl) T.g_squares_of T.F_squares_of.kp T.b_squares_of .nil pass0 (pa_cons (pv 0) pa_nil)))
 (pss_one (ps_ret (pe_cmpR op_lt (pe_callB cr_lenSetT (by rfl) T.m_len (by decide +kernel) (pa_cons (pe_callTy (cr_setOfTT rfl (hr.units)) (by rfl) T.m_set (by decide +kernel) (pa_cons (pv 1) pa_nil)) pa_nil)) (pe_callB call_len_seq (by rfl) T.m_len (by decide +kernel) (pa_cons (pv 1) pa_nil)) (nomark _))))), ?_⟩
    refine ⟨v, rfl, v, x, y, w, l, rs, rfl, hd, by omega, fun v' H1 s1 d1 => ?_⟩
    obtain ⟨a, xs, rfl, hs, hx⟩ := d1.tupOf
    obtain ⟨ks, rfl, hk, ek⟩ := keys_of hx
    have lk : ks.length = (wst x y w rs).1.dropLast.length := by
      have z := congrArg List.length ek
      rw [List.length_map, List.length_map] at z
      exact z
    have ln : ks.length = rs.length := by
      rw [lk, List.length_dropLast, wst_len]
      omega
    refine ⟨.ref a, rfl, a, ks, rfl, hs, hk, by omega, fun S L nS nd h1 h2 => ?_⟩
    refine ⟨S, L, rfl, upd_same, .ref a, rfl, a, _, rfl, .inr (tk_seq (tk_new nS) hs), _, _, rfl, rfl, ?_⟩
    have q1 := fun o => q _ (s1.trans (same_new (o := o) nS))
    have e : decide ((L.length : Int) < ((ks.map fun p => V.ref p.1).length : Int)) = decide (¬ (wst x y w rs).1.dropLast.Nodup) := by
      have f := fewer_iff (A := L.map (·.2)) (B := ks.map (·.2)) nd (fun z hz => by
        obtain ⟨p, hp, rfl⟩ := List.mem_map.mp hz
        exact List.mem_map_of_mem (h1 p hp)) (fun z hz => by
        obtain ⟨p, hp, rfl⟩ := List.mem_map.mp hz
        exact h2 p hp)
      rw [ek, nodup_map (fun a b e => by
        obtain ⟨a1, a2⟩ := a
        obtain ⟨b1, b2⟩ := b
        cases e
        rfl), ← ek, List.length_map, List.length_map] at f
      rw [List.length_map]
      by_cases z : L.length < ks.length
      · rw [decide_eq_true (by omega), decide_eq_true (f.mp z)]
      · rw [decide_eq_false (by omega), decide_eq_false (fun y => z (f.mpr y))]
    rw [← e] at q1
    exact q1 _
theorem raw_at {H : Hp} {v : V} {x y w l : Int} {rs : List (Str × Int)} (h : DT K H v (rawEng x y w l rs)) : ∃ a r xr, v = .ref a ∧ SqT K H a [.int x, .int y, .int w, .int l, .ref r] ∧ SqT K H r xr ∧ DTs K H xr (rs.map rawRail) := by
  obtain ⟨a, xs, rfl, hs, hx⟩ := h.tupOf
  obtain ⟨v1, v2, v3, v4, v5, rfl, d1, d2, d3, d4, d5⟩ := hx.five
  cases d1.intOf
  cases d2.intOf
  cases d3.intOf
  cases d4.intOf
  obtain ⟨r, xr, rfl, h1, h2⟩ := d5.tupOf
  exact ⟨a, r, xr, rfl, hs, h1, h2⟩
theorem rawRail_at {H : Hp} {v : V} {r : Str × Int} (h : DT K H v (rawRail r)) : ∃ a, v = .ref a ∧ SqT K H a [.str r.1, .int r.2] := by
  obtain ⟨a, xs, rfl, hs, hx⟩ := h.tupOf
  obtain ⟨v1, v2, rfl, d1, d2⟩ := hx.two
  cases d1.strOf
  cases d2.intOf
  exact ⟨a, rfl, hs⟩
theorem any_raw (f : Str × Int → Bool) (rs : List (Str × Int)) : (((rs.map rawRail).map fun d => f (unRail d)).any id) = rs.any f := by
  rw [List.map_map, List.any_map]
  rfl
theorem in_look (l : Int) : inV (.int l) [.int 1, .int (-1)] = decide (l = 1 ∨ l = -1) := by
  by_cases h1 : l = 1
  · subst h1
    rfl
  · by_cases h2 : l = -1
    · subst h2
      rfl
    · rw [decide_eq_false (by omega)]
      have e1 : ¬ (1 = l) := fun z => h1 z.symm
      have e2 : ¬ (-1 = l) := fun z => h2 z.symm
      simp [inV, eqV, e1, e2]
/-- True, or NoEngine with the word that is due -/
def spLook (K : PySem.W.Frag) (C : Addr) : Sp := fun vs H Q E => ∃ (v : V) (d : PyData), vs = [v] ∧ DT K H v d ∧ (dueOf d = none → ∀ H', Same H H' → Q (.bl true) H') ∧
  (∀ z, dueOf d = some z → ∀ H' a, Same H H' → H' a = some (.xd [("word", .str z)]) → E (.ref C) (some a) H')
theorem ok_look_engine (T : Txt K w mg) : FnOk P w K mg base (L2.CX P w) 6 T.f_look_engine T.fd_look_engine ["thing"] (spLook K T.a_NoEngine) := by
  refine T.F_look_engine.okX sc_look_engine (fun vs H Q E h => ?_) (fun cdv A outer s H vs Q E hr h => ?_)
  · obtain ⟨v, d, rfl, _⟩ := h
    rfl
  · obtain ⟨v, d, rfl, hd, q, qe⟩ := h
    refine ⟨_, (pss_cons (ps_if (pt_not (pt_val (pe_call (ok_has_engine_form T) (hr.mono (by decide)) (by rfl) T.g_has_engine_form T.F_has_engine_form.kp T.b_has_engine_form .nil pass0 (pa_cons (pv 0) pa_nil))))
 (pss_one (ps_raise rfl (takes_of rfl rfl rfl rfl) (pmk_oex T.x_NoEngine T.ic_NoEngine T.it_NoEngine (ok_NoEngine T) (hr.mono (by decide)) T.b_NoEngine .nil pass0 (by rfl) T.g_NoEngine (pa_cons pe_str pa_nil))))
 pss_nil)
 (pss_cons (ps_asg (pv 0) (pg_tup (n := 5) rfl (pgs_cons (pg_name (i := 1) sc_look_engine.nd rfl (.inl rfl)) (pgs_cons (pg_name (i := 2) sc_look_engine.nd rfl (.inl rfl)) (pgs_cons (pg_name (i := 3) sc_look_engine.nd rfl (.inl rfl)) (pgs_cons (pg_name (i := 4) sc_look_engine.nd rfl (.inl rfl)) (pgs_cons (pg_name (i := 5) sc_look_engine.nd rfl (.inl rfl)) pgs_nil)))))))
 (pss_cons (ps_if (PW.pt (pw_or (pt_cmpR op_gt (pe_callB call_abs (by rfl) T.m_abs (by decide +kernel) (pa_cons (pv 1) pa_nil)) (pe_glob (v := .int 1000000000) (by rfl) T.g_FAR ⟨_, rfl⟩) (nomark _)) (pw_or1 (pt_cmpR op_gt (pe_callB call_abs (by rfl) T.m_abs (by decide +kernel) (pa_cons (pv 2) pa_nil)) (pe_glob (v := .int 1000000000) (by rfl) T.g_FAR ⟨_, rfl⟩) (nomark _)))))
 (pss_one (ps_raise rfl (takes_of rfl rfl rfl rfl) (pmk_oex T.x_NoEngine T.ic_NoEngine T.it_NoEngine (ok_NoEngine T) (hr.mono (by decide)) T.b_NoEngine .nil pass0 (by rfl) T.g_NoEngine (pa_cons pe_str pa_nil))))
 pss_nil)
 (pss_cons (ps_if (pt_not (pt_chain op_le op_le pe_int (pv 3) pe_int))
 (pss_one (ps_raise rfl (takes_of rfl rfl rfl rfl) (pmk_oex T.x_NoEngine T.ic_NoEngine T.it_NoEngine (ok_NoEngine T) (hr.mono (by decide)) T.b_NoEngine .nil pass0 (by rfl) T.g_NoEngine (pa_cons pe_str pa_nil))))
 pss_nil)
 (pss_cons (ps_if (pt_cmpR op_notIn_seq (pv 4) (pe_tup (pa_cons pe_int (pa_cons (pe_un un_neg pe_int) pa_nil))) (by with_unfolding_all rfl))
 (pss_one (ps_raise rfl (takes_of rfl rfl rfl rfl) (pmk_oex T.x_NoEngine T.ic_NoEngine T.it_NoEngine (ok_NoEngine T) (hr.mono (by decide)) T.b_NoEngine .nil pass0 (by rfl) T.g_NoEngine (pa_cons pe_str pa_nil))))
 pss_nil)
 (pss_cons (ps_if (pt_val (pe_callB (cr_any rfl) (by rfl) T.m_any (by decide +kernel) (pa_cons (pe_lc (own := [("shape", 6), ("colour", 7)]) (g := gTup K 2 (gCons (gName 6) (gCons (gName 7) gNil))) (by rfl) sc_look_engine.nd (pi_tup (pv 5)) (blkOk_by (own := [("shape", 6), ("colour", 7)]) (N := N_look_engine) (sc := defScope s_look_engine) (by decide +kernel)) (fun _ _ _ _ _ => pg_tup (n := 2) rfl (pgs_cons (pg_name (i := 6) sc_look_engine.nd rfl (.inl rfl) (.inr rfl)) (pgs_cons (pg_name (i := 7) sc_look_engine.nd rfl (.inl rfl) (.inr rfl)) pgs_nil))) (fun _ _ _ _ _ => pts_nil) (fun _ _ _ _ _ => (pe_cmpR (op_notInK rfl rfl T.kd_TURNS) (pv 6) (pe_glob (v := .ref T.a_TURNS) (by rfl) T.g_TURNS rfl) (by with_unfolding_all rfl)))) pa_nil)))
 (pss_one (ps_raise rfl (takes_of rfl rfl rfl rfl) (pmk_oex T.x_NoEngine T.ic_NoEngine T.it_NoEngine (ok_NoEngine T) (hr.mono (by decide)) T.b_NoEngine .nil pass0 (by rfl) T.g_NoEngine (pa_cons pe_str pa_nil))))
 pss_nil)
 (pss_cons (ps_if (pt_val (pe_callB (cr_any rfl) (by rfl) T.m_any (by decide +kernel) (pa_cons (pe_lc (own := [("shape", 6), ("colour", 7)]) (g := gTup K 2 (gCons (gName 6) (gCons (gName 7) gNil))) (by rfl) sc_look_engine.nd (pi_tup (pv 5)) (blkOk_by (own := [("shape", 6), ("colour", 7)]) (N := N_look_engine) (sc := defScope s_look_engine) (by decide +kernel)) (fun _ _ _ _ _ => pg_tup (n := 2) rfl (pgs_cons (pg_name (i := 6) sc_look_engine.nd rfl (.inl rfl) (.inr rfl)) (pgs_cons (pg_name (i := 7) sc_look_engine.nd rfl (.inl rfl) (.inr rfl)) pgs_nil))) (fun _ _ _ _ _ => pts_nil) (fun _ _ _ _ _ => (pe_not (pe_chain op_le op_lt pe_int (pv 7) (pe_glob (v := .int 10) (by rfl) T.g_COLOURS ⟨_, rfl⟩))))) pa_nil)))
 (pss_one (ps_raise rfl (takes_of rfl rfl rfl rfl) (pmk_oex T.x_NoEngine T.ic_NoEngine T.it_NoEngine (ok_NoEngine T) (hr.mono (by decide)) T.b_NoEngine .nil pass0 (by rfl) T.g_NoEngine (pa_cons pe_str pa_nil))))
 pss_nil)
 (pss_cons (ps_if (pt_val (pe_call (ok_lies_twice T) (hr.mono (by decide)) (by rfl) T.g_lies_twice T.F_lies_twice.kp T.b_lies_twice .nil pass0 (pa_cons (pv 0) pa_nil)))
 (pss_one (ps_raise rfl (takes_of rfl rfl rfl rfl) (pmk_oex T.x_NoEngine T.ic_NoEngine T.it_NoEngine (ok_NoEngine T) (hr.mono (by decide)) T.b_NoEngine .nil pass0 (by rfl) T.g_NoEngine (pa_cons pe_str pa_nil))))
 pss_nil)
 (pss_one (ps_ret pe_bl)))))))))), ?_⟩
    have say : ∀ z H1 σ, dueOf d = some z → Same H H1 → tMkO T.a_NoEngine (spMk T.a_NoEngine "word") [] (tCons (tC (.str z)) tNil) σ H1 (fun cls d H' => E cls d H') := fun z H1 σ hz s1 => r_mk (fun R h => h) fun H' a s2 ha => qe z hz H' a (s1.trans s2) ha
    refine ⟨v, rfl, v, d, rfl, hd, fun H1 s1 => ⟨_, rfl, ite2 (fun e => ?_) (fun e => ?_)⟩⟩
    · have z : formOf d = false := by
        cases hz : formOf d with
        | false => rfl
        | true =>
          rw [hz] at e
          cases e
      exact say "form" H1 _ (due_form z) s1
    · have z : formOf d = true := by
        cases hz : formOf d with
        | true => rfl
        | false => exact absurd (by rw [hz]; rfl) e
      obtain ⟨x, y, w, l, rs, rfl, hl1, hl2⟩ := form_raw z
      have D := due_raw (x := x) (y := y) (w := w) (l := l) hl1 hl2
      clear qe z e
      have hd1 := hd.up (tk_same s1)
      obtain ⟨a, r, xr, rfl, hs, hr1, hx⟩ := raw_at hd1
      refine ⟨.ref a, rfl, a, _, rfl, hs, rfl, _, _, rfl, _, _, rfl, _, _, rfl, _, _, rfl, _, _, rfl, rfl, ?_⟩
      -- far
      have far : ∀ {b : Bool} {A B : Prop}, b = true → A → if b = true then A else B := fun h k => by rw [if_pos h]; exact k
      refine ⟨.int x, rfl, x, rfl, _, 1000000000, rfl, rfl, _, rfl, ite2 (fun e => iteT (say "far" _ _ ?_ s1)) (fun e => ?_)⟩
      · have e1 := of_decide_eq_true e
        rw [D]
        unfold dueRaw
        rw [if_pos]
        split at e1 <;> omega
      have nx : ¬ (1000000000 < x ∨ x < -1000000000) := fun z => e (decide_eq_true (by split <;> omega))
      refine ⟨.int y, rfl, y, rfl, _, 1000000000, rfl, rfl, _, rfl, ite2 (fun e => (say "far" _ _ ?_ s1)) (fun e => ?_)⟩
      · have e1 := of_decide_eq_true e
        rw [D]
        unfold dueRaw
        rw [if_pos]
        split at e1 <;> omega
      have ny : ¬ (1000000000 < y ∨ y < -1000000000) := fun z => e (decide_eq_true (by split <;> omega))
      have n1 : ¬ ((1000000000 < x ∨ x < -1000000000) ∨ (1000000000 < y ∨ y < -1000000000)) := fun z => z.elim nx ny
      -- way
      refine ⟨.int w, rfl, 0, w, rfl, rfl, _, rfl, ite2 (fun e => ?_) (fun e => ⟨false, rfl, iteT (say "way" _ _ ?_ s1)⟩)⟩
      · have w0 := of_decide_eq_true e
        refine ⟨w, 3, rfl, rfl, _, rfl, ite2 (fun e2 => (say "way" _ _ ?_ s1)) (fun e2 => ?_)⟩
        · have w3 : ¬ w ≤ 3 := fun z => by
            rw [decide_eq_true z] at e2
            cases e2
          rw [D]
          unfold dueRaw
          rw [if_neg n1, if_pos (fun z => w3 z.2)]
        have w3 : w ≤ 3 := by
          by_cases z : w ≤ 3
          · exact z
          · exact absurd (by rw [decide_eq_false z]; rfl) e2
        have n2 : ¬ ¬ (0 ≤ w ∧ w ≤ 3) := fun z => z ⟨w0, w3⟩
        -- look
        refine ⟨.int l, rfl, 1, rfl, by show 2 ≤ sizeLine; decide, fun t nt => ⟨t, _, rfl, .inr (SqT.of upd_same), rfl, rfl, _, rfl, ?_⟩⟩
        have s2 := s1.trans (same_new (o := HO.tup [.int 1, .int (-1)]) nt)
        show if (!inV (.int l) [.int 1, .int (-1)]) = true then _ else _
        rw [in_look]
        refine ite2 (fun e3 => (say "look" _ _ ?_ s2)) (fun e3 => ?_)
        · have nl : ¬ (l = 1 ∨ l = -1) := fun z => by
            rw [decide_eq_true z] at e3
            cases e3
          rw [D]
          unfold dueRaw
          rw [if_neg n1, if_neg n2, if_pos nl]
        have nl : (l = 1 ∨ l = -1) := by
          by_cases z : (l = 1 ∨ l = -1)
          · exact z
          · exact absurd (by rw [decide_eq_false z]; rfl) e3
        have n3 : ¬ ¬ (l = 1 ∨ l = -1) := fun z => z nl
        have hr2 := tk_seq (tk_same (same_new (o := HO.tup [.int 1, .int (-1)]) nt)) hr1
        have hx2 := hx.up (tk_same (same_new (o := HO.tup [.int 1, .int (-1)]) nt))
        have hl3 : (rs.map rawRail).length ≤ 1000 := by
          rw [List.length_map]
          omega
        -- shape
        generalize upd H1 t (.tup [.int 1, .int (-1)]) = H2 at *
        refine ⟨.ref r, rfl, r, rfl, ⟨xr, hr2⟩, fun D1 nD1 => lc_data (fun _ => true) (fun d => .bl (!isSh (unRail d).1)) hr2 hx2 hl3 nD1 (fun d v H' hm s3 dv R Z r1 _ => ?_) (fun H3 s3 hD1 => ?_)⟩
        · obtain ⟨q1, _, rfl⟩ := List.mem_map.mp hm
          obtain ⟨b, rfl, hb⟩ := rawRail_at dv
          obtain ⟨rr, hn, hi⟩ := T.in_TURNS q1.1
          refine ⟨b, _, rfl, hb, rfl, _, _, rfl, _, _, rfl, rfl, rfl, .str q1.1, rfl, q1.1, rr, rfl, rfl, hn, ?_⟩
          rw [hi]
          exact r1 rfl H' (Same.refl H')
        rw [filter_all] at hD1
        refine ⟨D1, (rs.map rawRail).map (fun d => !isSh (unRail d).1), rfl, SqL.of (by rw [List.map_map]; exact hD1), _, rfl, ?_⟩
        rw [any_raw fun r => !isSh r.1]
        have s13 := s2.trans s3
        refine ite2 (fun e4 => (say "shape" _ _ ?_ s13)) (fun e4 => ?_)
        · rw [D]
          unfold dueRaw
          rw [if_neg n1, if_neg n2, if_neg n3, if_pos e4]
        have hr3 := tk_seq (tk_same s3) hr2
        have hx3 := hx2.up (tk_same s3)
        -- colour
        refine ⟨.ref r, rfl, r, rfl, ⟨xr, hr3⟩, fun D2 nD2 => lc_data (fun _ => true) (fun d => .bl (!(decide (0 ≤ (unRail d).2) && decide ((unRail d).2 ≤ 9)))) hr3 hx3 hl3 nD2 (fun d v H' hm s4 dv R Z r1 _ => ?_) (fun H4 s4 hD2 => ?_)⟩
        · obtain ⟨q1, _, rfl⟩ := List.mem_map.mp hm
          obtain ⟨b, rfl, hb⟩ := rawRail_at dv
          refine ⟨b, _, rfl, hb, rfl, _, _, rfl, _, _, rfl, rfl, rfl, .int q1.2, rfl, 0, q1.2, rfl, rfl, _, rfl, ite2 (fun e5 => ?_) (fun e5 => ?_)⟩
          · refine ⟨q1.2, 10, rfl, rfl, _, rfl, ?_⟩
            have r2 := r1 rfl H' (Same.refl H')
            have e6 : (!(decide (0 ≤ (unRail (rawRail q1)).2) && decide ((unRail (rawRail q1)).2 ≤ 9))) = !decide (q1.2 < 10) := by
              show (!(decide (0 ≤ q1.2) && decide (q1.2 ≤ 9))) = _
              rw [e5, Bool.true_and]
              by_cases z : q1.2 ≤ 9
              · rw [decide_eq_true z, decide_eq_true (by omega)]
              · rw [decide_eq_false z, decide_eq_false (by omega)]
            try dsimp only at r2
            rw [e6] at r2
            exact r2
          · refine ⟨false, rfl, ?_⟩
            have r2 := r1 rfl H' (Same.refl H')
            have e6 : (!(decide (0 ≤ (unRail (rawRail q1)).2) && decide ((unRail (rawRail q1)).2 ≤ 9))) = !false := by
              show (!(decide (0 ≤ q1.2) && decide (q1.2 ≤ 9))) = _
              rw [Bool.eq_false_iff.mpr e5, Bool.false_and]
            try dsimp only at r2
            rw [e6] at r2
            exact r2
        rw [filter_all] at hD2
        refine ⟨D2, (rs.map rawRail).map (fun d => !(decide (0 ≤ (unRail d).2) && decide ((unRail d).2 ≤ 9))), rfl, SqL.of (by rw [List.map_map]; exact hD2), _, rfl, ?_⟩
        rw [any_raw fun r => !(decide (0 ≤ r.2) && decide (r.2 ≤ 9))]
        have s14 := s13.trans s4
        refine ite2 (fun e5 => (say "colour" _ _ ?_ s14)) (fun e5 => ?_)
        · rw [D]
          unfold dueRaw
          rw [if_neg n1, if_neg n2, if_neg n3, if_neg e4, if_pos e5]
        -- twice
        have hd4 := hd.up (tk_same s14)
        rw [raw_eng (Bool.eq_false_iff.mpr e4)] at hd4
        refine ⟨.ref a, rfl, .ref a, x, y, w, l, rs.map toSh, rfl, hd4, by rw [List.length_map]; exact hl2, fun H5 s5 => ⟨_, rfl, ite2 (fun e6 => (say "twice" _ _ ?_ (s14.trans s5))) (fun e6 => ?_)⟩⟩
        · rw [D]
          unfold dueRaw
          rw [if_neg n1, if_neg n2, if_neg n3, if_neg e4, if_neg e5, if_pos (of_decide_eq_true e6)]
        refine q ?_ H5 (s14.trans s5)
        rw [D]
        unfold dueRaw
        rw [if_neg n1, if_neg n2, if_neg n3, if_neg e4, if_neg e5, if_neg (of_decide_eq_false (Bool.eq_false_iff.mpr e6))]
      · rw [D]
        unfold dueRaw
        rw [if_neg n1, if_pos (fun z => e (decide_eq_true z.1))]
end
section
variable {P : Program} {w : World} {K : PySem.W.Frag} {mg : Str → Option Value} {base : Heap}
theorem ok__law_is_rail (T : Txt K w mg) : FnOk P w K mg base CX0 2 T.f__law_is_rail T.fd__law_is_rail ["_law_thing_here"] (spB K isRail) := by
  refine T.F__law_is_rail.ok sc__law_is_rail (fun vs H Q E h => ?_) (fun cdv A outer s H vs Q E hr h => ?_)
  · obtain ⟨v, d, rfl, _⟩ := h
    rfl
  · obtain ⟨v, d, rfl, hd, q⟩ := h
    refine ⟨_, (pss_cons (ps_if (PW.pt (pw_or (pt_not (pt_val (pe_callB call_isi (by rfl) T.m_isinstance (by decide +kernel) (pa_cons (pv 0) (pa_cons (pe_bltn (v := .ty "tuple") (by rfl) T.m_tuple (by decide +kernel) rfl) pa_nil))))) (pw_or1 (pt_cmpR op_ne (pe_callB call_len_seq (by rfl) T.m_len (by decide +kernel) (pa_cons (pv 0) pa_nil)) pe_int (nomark _)))))
 (pss_one (ps_ret pe_bl))
 pss_nil)
 (pss_one (ps_ret (pe_and (pe_callB call_isi (by rfl) T.m_isinstance (by decide +kernel) (pa_cons (pe_ix ix_tup (pv 0) pe_int (fun _ _ => rfl)) (pa_cons (pe_bltn (v := .ty "str") (by rfl) T.m_str (by decide +kernel) rfl) pa_nil))) (pe_one (pe_call (ok__law_is_whole T) (hr.mono (by decide)) (by rfl) T.g__law_is_whole T.F__law_is_whole.kp T.b__law_is_whole .nil pass0 (pa_cons (pe_ix ix_tup (pv 0) pe_int (fun _ _ => rfl)) pa_nil))))))), ?_⟩
    refine ⟨v, rfl, v, .ty "tuple", _, _, _, rfl, .ty _, hd.ty, kT hd, _, rfl, ite2 (fun e => ?_) (fun e => ?_)⟩
    · have z : isRail d = false := by
        cases d <;> first | rfl | (exact absurd e Bool.false_ne_true)
      rw [z] at q
      exact iteT (q H (Same.refl H))
    · have z : isT d = true := by
        cases hz : isT d with
        | true => rfl
        | false => exact absurd (by rw [hz]; rfl) e
      obtain ⟨ds, rfl⟩ := tup_of z
      obtain ⟨a, xs, rfl, hs, hx⟩ := hd.tupOf
      refine ⟨.ref a, rfl, a, xs, rfl, .inr hs, rfl, _, rfl, ite2 (fun e2 => ?_) (fun e2 => ?_)⟩
      · have z : isRail (.tuple ds) = false := by
          unfold isRail
          split
          · rename_i a b he
            cases he
            rw [hx.length] at e2
            exact absurd e2 (by simp)
          · rfl
        rw [z] at q
        exact q H (Same.refl H)
      · have l2 : ds.length = 2 := by
          rw [hx.length] at e2
          by_cases l2 : ds.length = 2
          · exact l2
          · exact absurd (by simp [l2]; omega) e2
        obtain ⟨d1, d2, rfl⟩ : ∃ d1 d2, ds = [d1, d2] := by
          match ds, l2 with
          | [d1, d2], _ => exact ⟨d1, d2, rfl⟩
        obtain ⟨v1, v2, rfl, h1, h2⟩ := hx.two
        refine ⟨.ref a, rfl, a, _, 0, v1, rfl, rfl, hs, rfl, v1, .ty "str", _, _, _, rfl, .ty _, h1.ty, kS h1, _, rfl, ite2 (fun e3 => ?_) (fun e3 => ?_)⟩
        · refine ⟨.ref a, rfl, a, _, 1, v2, rfl, rfl, hs, rfl, v2, d2, rfl, h2, fun H' s' => ?_⟩
          have q1 := q H' s'
          have z : isRail (.tuple [d1, d2]) = isI d2 := by
            show (isS d1 && isI d2) = _
            rw [e3, Bool.true_and]
          rw [z] at q1
          exact q1
        · have q1 := q H (Same.refl H)
          have z : isRail (.tuple [d1, d2]) = false := by
            show (isS d1 && isI d2) = _
            rw [Bool.eq_false_iff.mpr e3, Bool.false_and]
          rw [z] at q1
          exact q1
theorem in_bools : ∀ bs : List Bool, inV (.bl false) (bs.map V.bl) = !(bs.all id)
  | [] => rfl
  | b :: bs => by
    have ih := in_bools bs
    unfold inV at ih ⊢
    rw [List.map_cons, List.any_cons, ih, List.all_cons]
    cases b <;> rfl
theorem flat_bools : ∀ bs : List Bool, (bs.map V.bl).all flatV = true
  | [] => rfl
  | b :: bs => by
    rw [List.map_cons, List.all_cons, flat_bools bs]
    rfl
theorem ok__law_has_form (T : Txt K w mg) : FnOk P w K mg base CX0 3 T.f__law_has_form T.fd__law_has_form ["_law_thing_here"] (spB K formOf) := by
  refine T.F__law_has_form.ok sc__law_has_form (fun vs H Q E h => ?_) (fun cdv A outer s H vs Q E hr h => ?_)
  · obtain ⟨v, d, rfl, _⟩ := h
    rfl
  · obtain ⟨v, d, rfl, hd, q⟩ := h
    refine ⟨_, (pss_cons (ps_if (PW.pt (pw_or (pt_not (pt_val (pe_callB call_isi (by rfl) T.m_isinstance (by decide +kernel) (pa_cons (pv 0) (pa_cons (pe_bltn (v := .ty "tuple") (by rfl) T.m_tuple (by decide +kernel) rfl) pa_nil))))) (pw_or (pt_cmpR op_ne (pe_callB call_len_seq (by rfl) T.m_len (by decide +kernel) (pa_cons (pv 0) pa_nil)) pe_int (nomark _)) (pw_or1 (pt_cmpR op_in_seq pe_bl (pe_lc (own := [("_law_one", 3)]) (g := gName 3) (by rfl) sc__law_has_form.nd (pi_tup (pe_slice sl_tupA (pv 0) po_none (po_some pe_int))) (blkOk_by (own := [("_law_one", 3)]) (N := N__law_has_form) (sc := defScope s__law_has_form) (by decide +kernel)) (fun _ _ _ _ _ => pg_name (i := 3) sc__law_has_form.nd rfl (.inl rfl) (.inr rfl)) (fun _ _ _ _ _ => pts_nil) (fun _ _ _ _ _ => (pe_call (ok__law_is_whole T) (hr.mono (by decide)) (by rfl) T.g__law_is_whole T.F__law_is_whole.kp T.b__law_is_whole .nil pass0 (pa_cons (pv 3) pa_nil)))) (by with_unfolding_all rfl))))))
 (pss_one (ps_ret pe_bl))
 pss_nil)
 (pss_cons (ps_set (i := 1) sc__law_has_form.nd rfl (.inl rfl) (pe_ix ix_tup (pv 0) pe_int (fun _ _ => rfl)))
 (pss_cons (ps_if (PW.pt (pw_or (pt_not (pt_val (pe_callB call_isi (by rfl) T.m_isinstance (by decide +kernel) (pa_cons (pv 1) (pa_cons (pe_bltn (v := .ty "tuple") (by rfl) T.m_tuple (by decide +kernel) rfl) pa_nil))))) (pw_or1 (pt_not (pt_chain op_le op_le pe_int (pe_callB call_len_seq (by rfl) T.m_len (by decide +kernel) (pa_cons (pv 1) pa_nil)) pe_int)))))
 (pss_one (ps_ret pe_bl))
 pss_nil)
 (pss_one (ps_ret (pe_cmpR op_notIn_seq pe_bl (pe_lc (own := [("_law_rail", 2)]) (g := gName 2) (by rfl) sc__law_has_form.nd (pi_tup (pv 1)) (blkOk_by (own := [("_law_rail", 2)]) (N := N__law_has_form) (sc := defScope s__law_has_form) (by decide +kernel)) (fun _ _ _ _ _ => pg_name (i := 2) sc__law_has_form.nd rfl (.inl rfl) (.inr rfl)) (fun _ _ _ _ _ => pts_nil) (fun _ _ _ _ _ => (pe_call (ok__law_is_rail T) (hr.mono (by decide)) (by rfl) T.g__law_is_rail T.F__law_is_rail.kp T.b__law_is_rail .nil pass0 (pa_cons (pv 2) pa_nil)))) (by with_unfolding_all rfl))))))), ?_⟩
    refine ⟨v, rfl, v, .ty "tuple", _, _, _, rfl, .ty _, hd.ty, kT hd, _, rfl, ite2 (fun e => ?_) (fun e => ?_)⟩
    · have z : formOf d = false := by
        cases d <;> first | rfl | (exact absurd e Bool.false_ne_true)
      rw [z] at q
      exact iteT (q H (Same.refl H))
    · have z : isT d = true := by
        cases hz : isT d with
        | true => rfl
        | false => exact absurd (by rw [hz]; rfl) e
      obtain ⟨ds, rfl⟩ := tup_of z
      obtain ⟨a, xs, rfl, hs, hx⟩ := hd.tupOf
      have hl := hx.length
      refine ⟨.ref a, rfl, a, xs, rfl, .inr hs, rfl, _, rfl, ite2 (fun e2 => ?_) (fun e2 => ?_)⟩
      · have z : formOf (.tuple ds) = false := by
          unfold formOf
          split
          · rename_i a b c d e he
            cases he
            rw [hl] at e2
            exact absurd e2 (by simp)
          · rfl
        rw [z] at q
        exact iteT (q H (Same.refl H))
      · have l2 : ds.length = 5 := by
          rw [hl] at e2
          by_cases l2 : ds.length = 5
          · exact l2
          · exact absurd (by simp [l2]; omega) e2
        obtain ⟨d1, d2, d3, d4, d5, rfl⟩ : ∃ d1 d2 d3 d4 d5, ds = [d1, d2, d3, d4, d5] := by
          match ds, l2 with
          | [d1, d2, d3, d4, d5], _ => exact ⟨d1, d2, d3, d4, d5, rfl⟩
        obtain ⟨v1, v2, v3, v4, v5, rfl, h1, h2, h3, h4, h5⟩ := hx.five
        refine ⟨.ref a, rfl, r_np ⟨4, rfl, r_slA hd fun v' H1 s1 dd => ?_⟩⟩
        obtain ⟨b, ys, rfl, hb, hy⟩ := dd.tupOf
        refine ⟨b, rfl, ⟨ys, hb⟩, fun D nD => lc_data (ds := [d1, d2, d3, d4]) (fun _ => true) (fun d => .bl (isI d)) hb hy (by show 4 ≤ 1000; decide) nD (fun d v H' hm s2 dv R Z r1 _ => ⟨rfl, ⟨v, rfl, v, d, rfl, dv, fun H2 s2 => r1 rfl H2 s2⟩⟩) (fun H2 s2 hD => ?_)⟩
        rw [filter_all] at hD
        have s12 := s1.trans s2
        refine ⟨D, ([d1, d2, d3, d4].map isI).map V.bl, rfl, .inl (SqL.of (by rw [List.map_map]; exact hD)), rfl, flat_bools _, _, rfl, ?_⟩
        show if (inV (.bl false) (([d1, d2, d3, d4].map isI).map V.bl)) = true then _ else _
        rw [in_bools]
        have form5 : formOf (.tuple [d1, d2, d3, d4, d5]) = (([d1, d2, d3, d4].map isI).all id && isRails d5) := by
          show ((isI d1 && (isI d2 && (isI d3 && isI d4))) && isRails d5) = _
          simp only [List.map_cons, List.map_nil, List.all_cons, List.all_nil, id, Bool.and_true]
        rw [form5] at q
        refine ite2 (fun e3 => ?_) (fun e3 => ?_)
        · have z : ([d1, d2, d3, d4].map isI).all id = false := by
            cases hz : ([d1, d2, d3, d4].map isI).all id with
            | false => rfl
            | true =>
              rw [hz] at e3
              cases e3
          rw [z, Bool.false_and] at q
          exact q H2 s12
        · have z : ([d1, d2, d3, d4].map isI).all id = true := by
            cases hz : ([d1, d2, d3, d4].map isI).all id with
            | true => rfl
            | false => exact absurd (by rw [hz]; rfl) e3
          rw [z, Bool.true_and] at q
          refine ⟨.ref a, rfl, a, _, 4, v5, rfl, rfl, tk_seq (tk_same s12) hs, rfl, ?_⟩
          have h6 := h5.up (tk_same s12)
          clear form5 e3 hD e2 hl hy hb dd nD l2 e
          refine ⟨v5, rfl, v5, .ty "tuple", _, _, _, rfl, .ty _, h6.ty, kT h6, _, rfl, ite2 (fun e => ?_) (fun e => ?_)⟩
          · have z : isRails d5 = false := by
              cases d5 <;> first | rfl | (exact absurd e Bool.false_ne_true)
            rw [z] at q
            exact iteT (q H2 s12)
          · have z : isT d5 = true := by
              cases hz : isT d5 with
              | true => rfl
              | false => exact absurd (by rw [hz]; rfl) e
            obtain ⟨ds, rfl⟩ := tup_of z
            obtain ⟨r, xr, rfl, hrs, hxr⟩ := h6.tupOf
            have hl := hxr.length
            refine ⟨.ref r, rfl, r, xr, rfl, .inr hrs, 1, _, rfl, rfl, _, rfl, ite2 (fun e2 => ?_) (fun e2 => ?_)⟩
            · have g1 := of_decide_eq_true e2
              refine ⟨_, 12, rfl, rfl, _, rfl, ite2 (fun e3 => ?_) (fun e3 => ?_)⟩
              · have g2 : ¬ ds.length ≤ 12 := fun z => by
                  rw [decide_eq_true (by rw [hl]; omega)] at e3
                  cases e3
                have q1 := q H2 s12
                have z2 : isRails (.tuple ds) = false := by
                  show ((decide (1 ≤ ds.length) && decide (ds.length ≤ 12)) && ds.all isRail) = false
                  rw [decide_eq_false g2, Bool.and_false, Bool.false_and]
                rw [z2] at q1
                exact q1
              · have g2 : ds.length ≤ 12 := by
                  by_cases z : ds.length ≤ 12
                  · exact z
                  · refine absurd ?_ e3
                    rw [decide_eq_false (by rw [hl]; omega)]
                    rfl
                refine ⟨.ref r, rfl, r, rfl, ⟨xr, hrs⟩, fun D nD => lc_data (fun _ => true) (fun d => .bl (isRail d)) hrs hxr (by omega) nD (fun d v H' hm s1 dv R Z r1 _ => ⟨rfl, ⟨v, rfl, v, d, rfl, dv, fun H2 s2 => r1 rfl H2 s2⟩⟩) (fun H' s1 hD => ?_)⟩
                rw [filter_all] at hD
                refine ⟨D, (ds.map isRail).map V.bl, rfl, .inl (SqL.of (by rw [List.map_map]; exact hD)), rfl, flat_bools _, ?_⟩
                show Q (.bl (!inV (.bl false) ((ds.map isRail).map V.bl))) H'
                rw [in_bools, Bool.not_not]
                have q1 := q H' (s12.trans s1)
                have z2 : isRails (.tuple ds) = (ds.map isRail).all id := by
                  show ((decide (1 ≤ ds.length) && decide (ds.length ≤ 12)) && ds.all isRail) = _
                  rw [decide_eq_true g2, decide_eq_true (by omega), List.all_map]
                  rfl
                rw [z2] at q1
                exact q1
            · refine ⟨false, rfl, iteT ?_⟩
              have g1 : ¬ 1 ≤ ds.length := fun z => e2 (decide_eq_true (by rw [hl]; omega))
              have q1 := q H2 s12
              have z2 : isRails (.tuple ds) = false := by
                show ((decide (1 ≤ ds.length) && decide (ds.length ≤ 12)) && ds.all isRail) = false
                rw [decide_eq_false g1, Bool.false_and, Bool.false_and]
              rw [z2] at q1
              exact q1
end
section
variable {P : Program} {w : World} {K : PySem.W.Frag} {mg : Str → Option Value} {base : Heap}
def spDueL (K : PySem.W.Frag) : Sp := fun vs H Q _ => ∃ (v : V) (d : PyData), vs = [v] ∧ DT K H v d ∧ bnd d = true ∧ ∀ H', Same H H' → Q (optV (dueOf d)) H'
theorem ok__law_due (T : Txt K w mg) : FnOk P w K mg base CX0 4 T.f__law_due T.fd__law_due ["_law_thing_here"] (spDueL K) := by
  refine T.F__law_due.ok sc__law_due (fun vs H Q E h => ?_) (fun cdv A outer s H vs Q E hr h => ?_)
  · obtain ⟨v, d, rfl, _⟩ := h
    rfl
  · obtain ⟨v, d, rfl, hd, bd, q⟩ := h
    refine ⟨_, (pss_cons (ps_if (pt_not (pt_val (pe_call (ok__law_has_form T) (hr.mono (by decide)) (by rfl) T.g__law_has_form T.F__law_has_form.kp T.b__law_has_form .nil pass0 (pa_cons (pv 0) pa_nil))))
 (pss_one (ps_ret pe_str))
 pss_nil)
 (pss_cons (ps_asg (pv 0) (pg_tup (n := 5) rfl (pgs_cons (pg_name (i := 1) sc__law_due.nd rfl (.inl rfl)) (pgs_cons (pg_name (i := 2) sc__law_due.nd rfl (.inl rfl)) (pgs_cons (pg_name (i := 3) sc__law_due.nd rfl (.inl rfl)) (pgs_cons (pg_name (i := 4) sc__law_due.nd rfl (.inl rfl)) (pgs_cons (pg_name (i := 5) sc__law_due.nd rfl (.inl rfl)) pgs_nil)))))))
 (pss_cons (ps_if (pt_cmpR op_gt (pe_callB (call_max4 rfl) (by rfl) T.m_max (by decide +kernel) (pa_cons (pv 1) (pa_cons (pv 2) (pa_cons (pe_op op_sub pe_int (pv 1)) (pa_cons (pe_op op_sub pe_int (pv 2)) pa_nil))))) pe_int (nomark _))
 (pss_one (ps_ret pe_str))
 pss_nil)
 (pss_cons (ps_if (PW.pt (pw_or (pt_cmpR op_lt (pv 3) pe_int (nomark _)) (pw_or1 (pt_cmpR op_gt (pv 3) pe_int (nomark _)))))
 (pss_one (ps_ret pe_str))
 pss_nil)
 (pss_cons (ps_if (pt_cmpR op_ne (pe_op op_mulW (pv 4) (pv 4)) pe_int (nomark _))
 (pss_one (ps_ret pe_str))
 pss_nil)
 (pss_cons (ps_if (pt_cmpR (op_neD hr.units) (pe_lc (own := [("_law_shape", 6), ("_law_colour", 7)]) (g := gTup K 2 (gCons (gName 6) (gCons (gName 7) gNil))) (by rfl) sc__law_due.nd (pi_tup (pv 5)) (blkOk_by (own := [("_law_shape", 6), ("_law_colour", 7)]) (N := N__law_due) (sc := defScope s__law_due) (by decide +kernel)) (fun _ _ _ _ _ => pg_tup (n := 2) rfl (pgs_cons (pg_name (i := 6) sc__law_due.nd rfl (.inl rfl) (.inr rfl)) (pgs_cons (pg_name (i := 7) sc__law_due.nd rfl (.inl rfl) (.inr rfl)) pgs_nil))) (fun _ _ _ _ _ => (pts_one (PW.pt (pw_and (pt_cmpR op_ne (pv 6) pe_str (nomark _)) (pw_and (pt_cmpR op_ne (pv 6) pe_str (nomark _)) (pw_and1 (pt_cmpR op_ne (pv 6) pe_str (nomark _)))))))) (fun _ _ _ _ _ => (pv 6))) (pe_lst pa_nil) (nomark _))
 (pss_one (ps_ret pe_str))
 pss_nil)
 (pss_cons (ps_if (pt_cmpR (op_neD hr.units) (pe_lc (own := [("_law_shape", 6), ("_law_colour", 7)]) (g := gTup K 2 (gCons (gName 6) (gCons (gName 7) gNil))) (by rfl) sc__law_due.nd (pi_tup (pv 5)) (blkOk_by (own := [("_law_shape", 6), ("_law_colour", 7)]) (N := N__law_due) (sc := defScope s__law_due) (by decide +kernel)) (fun _ _ _ _ _ => pg_tup (n := 2) rfl (pgs_cons (pg_name (i := 6) sc__law_due.nd rfl (.inl rfl) (.inr rfl)) (pgs_cons (pg_name (i := 7) sc__law_due.nd rfl (.inl rfl) (.inr rfl)) pgs_nil))) (fun _ _ _ _ _ => (pts_one (PW.pt (pw_or (pt_cmpR op_lt (pv 7) pe_int (nomark _)) (pw_or1 (pt_cmpR op_gt (pv 7) pe_int (nomark _))))))) (fun _ _ _ _ _ => (pv 7))) (pe_lst pa_nil) (nomark _))
 (pss_one (ps_ret pe_str))
 pss_nil)
 (pss_cons (ps_par3 (i := 8) (j := 9) (l := 10) (by rfl) sc__law_due.nd rfl rfl rfl (by decide) (by decide) (by decide) rfl rfl rfl (pa_cons (pe_tup (pa_cons (pv 1) (pa_cons (pv 2) pa_nil))) (pa_cons (pv 3) (pa_cons (pe_lst pa_nil) pa_nil))) (by rfl))
 (pss_cons (ps_for PassesOwn.never rfl (pi_tup (pv 5)) (pg_tup (n := 2) rfl (pgs_cons (pg_name (i := 6) sc__law_due.nd rfl (.inl rfl)) (pgs_cons (pg_name (i := 7) sc__law_due.nd rfl (.inl rfl)) pgs_nil)))
 (pss_cons (ps_if (pt_cmpR (op_inD (hu65 hr)) (pv 8) (pv 10) (by with_unfolding_all rfl))
 (pss_one (ps_ret pe_str))
 pss_nil)
 (pss_cons (ps_expr (pe_bm PySem.F.plainAttrs_list PySem.F.slot_list_append PySem.F.type_list_append mt_append (pv 10) (pa_cons (pv 8) pa_nil)))
 (pss_cons (ps_set (i := 9) sc__law_due.nd rfl (.inl rfl) (pe_call (ok__law_turned T) (hr.mono (by decide)) (by rfl) T.g__law_turned T.F__law_turned.kp T.b__law_turned .nil pass0 (pa_cons (pv 9) (pa_cons (pv 6) pa_nil))))
 (pss_one (ps_set (i := 8) sc__law_due.nd rfl (.inl rfl) (pe_call (ok__law_on T) (hr.mono (by decide)) (by rfl) T.g__law_on T.F__law_on.kp T.b__law_on .nil pass0 (pa_cons (pv 8) (pa_cons (pv 9) pa_nil)))))))))
 (pss_one (ps_ret pe_non))))))))))), ?_⟩
    have say : ∀ z H1, dueOf d = some z → Same H H1 → Q (.str z) H1 := fun z H1 hz s1 => by
      have q1 := q H1 s1
      rw [hz] at q1
      exact q1
    refine ⟨v, rfl, v, d, rfl, hd, fun H1 s1 => ⟨_, rfl, ite2 (fun e => ?_) (fun e => ?_)⟩⟩
    · have z : formOf d = false := by
        cases hz : formOf d with
        | false => rfl
        | true =>
          rw [hz] at e
          cases e
      exact say "form" H1 (due_form z) s1
    · have z : formOf d = true := by
        cases hz : formOf d with
        | true => rfl
        | false => exact absurd (by rw [hz]; rfl) e
      obtain ⟨x, y, w, l, rs, rfl, hl1, hl2⟩ := form_raw z
      have D := due_raw (x := x) (y := y) (w := w) (l := l) hl1 hl2
      clear z e
      have bs := bnd_tup.mp bd
      have bl : bnd (.int l) = true := bs _ (by simp)
      have br : bnd (.tuple (rs.map rawRail)) = true := bs _ (by simp)
      have brs : ∀ r ∈ rs, (PyData.str r.1).canLay0 = true := fun r hr => by
        have b1 := bnd_tup.mp br (rawRail r) (List.mem_map_of_mem hr)
        exact bnd_str.mp (bnd_tup.mp b1 (.str r.1) (by simp))
      have hd1 := hd.up (tk_same s1)
      obtain ⟨a, r, xr, rfl, hs, hr1, hx⟩ := raw_at hd1
      refine ⟨.ref a, rfl, a, _, rfl, hs, rfl, _, _, rfl, _, _, rfl, _, _, rfl, _, _, rfl, _, _, rfl, rfl, ?_⟩
      -- far
      refine ⟨.int x, rfl, .int y, rfl, .int x, rfl, 0, x, rfl, rfl, .int y, rfl, 0, y, rfl, rfl, x, y, 0 - x, 0 - y, rfl, fun m m1 m2 m3 m4 mm => ⟨m, 1000000000, rfl, rfl, _, rfl, ite2 (fun e => ?_) (fun e => ?_)⟩⟩
      · have e1 := of_decide_eq_true e
        refine say "far" H1 ?_ s1
        rw [D]
        unfold dueRaw
        rw [if_pos (by omega)]
      have nm : ¬ 1000000000 < m := fun z => e (decide_eq_true z)
      have n1 : ¬ ((1000000000 < x ∨ x < -1000000000) ∨ (1000000000 < y ∨ y < -1000000000)) := by omega
      -- way
      refine ⟨.int w, rfl, w, 0, rfl, rfl, _, rfl, ite2 (fun e => iteT (say "way" H1 ?_ s1)) (fun e => ?_)⟩
      · have e1 := of_decide_eq_true e
        rw [D]
        unfold dueRaw
        rw [if_neg n1, if_pos (by omega)]
      have w0 : ¬ w < 0 := fun z => e (decide_eq_true z)
      refine ⟨.int w, rfl, w, 3, rfl, rfl, _, rfl, ite2 (fun e => (say "way" H1 ?_ s1)) (fun e => ?_)⟩
      · have e1 := of_decide_eq_true e
        rw [D]
        unfold dueRaw
        rw [if_neg n1, if_pos (by omega)]
      have w3 : ¬ 3 < w := fun z => e (decide_eq_true z)
      have n2 : ¬ ¬ (0 ≤ w ∧ w ≤ 3) := fun z => z ⟨by omega, by omega⟩
      -- look
      refine ⟨.int l, rfl, .int l, rfl, l, l, rfl, rfl, bnd_mul bl, rfl, _, rfl, ite2 (fun e => (say "look" H1 ?_ s1)) (fun e => ?_)⟩
      · have nl : ¬ (l = 1 ∨ l = -1) := fun z => by
          have e1 : l * l = 1 := by
            rcases z with rfl | rfl <;> rfl
          have e2 : (!decide (V.int (l * l) = V.int 1)) = true := e
          rw [e1] at e2
          exact absurd e2 (by decide)
        rw [D]
        unfold dueRaw
        rw [if_neg n1, if_neg n2, if_pos nl]
      have nl : (l = 1 ∨ l = -1) := by
        by_cases z : l * l = 1
        · have e1 : (l - 1) * (l + 1) = 0 := by
            rw [Int.sub_mul, Int.mul_add, z]
            omega
          rcases Int.mul_eq_zero.mp e1 with e2 | e2
          · left
            omega
          · right
            omega
        · refine absurd ?_ e
          rw [decide_eq_false (fun y => z (V.int.inj y))]
          rfl
      have n3 : ¬ ¬ (l = 1 ∨ l = -1) := fun z => z nl
      have hl3 : (rs.map rawRail).length ≤ 1000 := by
        rw [List.length_map]
        omega
      -- shape
      refine ⟨.ref r, rfl, r, rfl, ⟨xr, hr1⟩, fun D1 nD1 => lc_data (fun d => !isSh (unRail d).1) (fun d => .str (unRail d).1) hr1 hx hl3 nD1 (fun d v H' hm s3 dv R Z r1 r2 => ?_) (fun H3 s3 hD1 => ?_)⟩
      · obtain ⟨q1, _, rfl⟩ := List.mem_map.mp hm
        obtain ⟨b, rfl, hb⟩ := rawRail_at dv
        have ne : ∀ {z : Str}, (!decide (V.str q1.1 = V.str z)) = true → ¬ q1.1 = z := fun h e => by
          rw [e, decide_eq_true rfl] at h
          cases h
        have eq : ∀ {z : Str}, ¬ (!decide (V.str q1.1 = V.str z)) = true → q1.1 = z := fun {z} h => by
          by_cases e : q1.1 = z
          · exact e
          · exact absurd (by rw [decide_eq_false (fun y => e (V.str.inj y))]; rfl) h
        refine ⟨b, _, rfl, hb, rfl, _, _, rfl, _, _, rfl, rfl, rfl, .str q1.1, rfl, rfl, _, rfl, ite2 (fun e1 => ?_) (fun e1 => iteF (r2 ?_ H' (Same.refl H')))⟩
        · refine ⟨.str q1.1, rfl, rfl, _, rfl, ite2 (fun e2 => ?_) (fun e2 => iteF (r2 ?_ H' (Same.refl H')))⟩
          · refine ⟨.str q1.1, rfl, rfl, _, rfl, ite2 (fun e3 => ⟨.str q1.1, rfl, r1 ?_ H' (Same.refl H')⟩) (fun e3 => r2 ?_ H' (Same.refl H'))⟩
            · show (!isSh q1.1) = true
              unfold isSh
              rw [decide_eq_false (ne e1), decide_eq_false (ne e2), decide_eq_false (ne e3)]
              rfl
            · show (!isSh q1.1) = false
              rw [eq e3]
              decide +kernel
          · show (!isSh q1.1) = false
            rw [eq e2]
            decide +kernel
        · show (!isSh q1.1) = false
          rw [eq e1]
          decide +kernel
      rw [filt_any (fun r => !isSh r.1), List.map_map] at hD1
      refine ⟨Nat.zero_le _, fun p1 np1 => ⟨.list ((rs.filter fun r => !isSh r.1).map fun r => .str r.1), .list [], .lst (SqL.of (same_new np1 _ _ hD1)) (dts_of (fun r => V.str (r : Str × Int).1) _ (fun r => .str r.1) _).dp, .lst (SqL.of upd_same) .nil, flat_shaped (fun d hd => ?_), nil_shaped, _, rfl, ?_⟩⟩
      · obtain ⟨q1, hq, rfl⟩ := List.mem_map.mp hd
        exact ⟨brs q1 (List.mem_filter.mp hq).1, by simp [PyData.depth]⟩
      rw [eqv_nil, filt_empty]
      have s13 := s1.trans (s3.trans (same_new (o := HO.lst []) np1))
      have t3 := tk_same (s3.trans (same_new (o := HO.lst []) np1))
      generalize upd H3 p1 (.lst []) = H4 at *
      refine ite2 (fun e4 => (say "shape" _ ?_ s13)) (fun e4 => ?_)
      · rw [D]
        unfold dueRaw
        rw [if_neg n1, if_neg n2, if_neg n3, if_pos e4]
      have hr3 := tk_seq t3 hr1
      have hx3 := hx.up t3
      -- colour
      refine ⟨.ref r, rfl, r, rfl, ⟨xr, hr3⟩, fun D2 nD2 => lc_data (fun d => !(decide (0 ≤ (unRail d).2) && decide ((unRail d).2 ≤ 9))) (fun d => .int (unRail d).2) hr3 hx3 hl3 nD2 (fun d v H' hm s4 dv R Z r1 r2 => ?_) (fun H5 s5 hD2 => ?_)⟩
      · obtain ⟨q1, _, rfl⟩ := List.mem_map.mp hm
        obtain ⟨b, rfl, hb⟩ := rawRail_at dv
        refine ⟨b, _, rfl, hb, rfl, _, _, rfl, _, _, rfl, rfl, rfl, .int q1.2, rfl, q1.2, 0, rfl, rfl, _, rfl, ite2 (fun e5 => iteT ⟨.int q1.2, rfl, r1 ?_ H' (Same.refl H')⟩) (fun e5 => ?_)⟩
        · have z := of_decide_eq_true e5
          show (!(decide (0 ≤ q1.2) && decide (q1.2 ≤ 9))) = true
          rw [decide_eq_false (by omega)]
          rfl
        · have z : ¬ q1.2 < 0 := fun z => e5 (decide_eq_true z)
          refine ⟨.int q1.2, rfl, q1.2, 9, rfl, rfl, _, rfl, ite2 (fun e6 => ⟨.int q1.2, rfl, r1 ?_ H' (Same.refl H')⟩) (fun e6 => r2 ?_ H' (Same.refl H'))⟩
          · have z2 := of_decide_eq_true e6
            show (!(decide (0 ≤ q1.2) && decide (q1.2 ≤ 9))) = true
            rw [decide_eq_true (by omega), decide_eq_false (by omega)]
            rfl
          · have z2 : ¬ 9 < q1.2 := fun z => e6 (decide_eq_true z)
            show (!(decide (0 ≤ q1.2) && decide (q1.2 ≤ 9))) = false
            rw [decide_eq_true (by omega), decide_eq_true (by omega)]
            rfl
      rw [filt_any (fun r => !(decide (0 ≤ r.2) && decide (r.2 ≤ 9))), List.map_map] at hD2
      refine ⟨Nat.zero_le _, fun p1 np1 => ⟨.list ((rs.filter fun r => !(decide (0 ≤ r.2) && decide (r.2 ≤ 9))).map fun r => .int r.2), .list [], .lst (SqL.of (same_new np1 _ _ hD2)) (dts_of (fun r => V.int (r : Str × Int).2) _ (fun r => .int r.2) _).dp, .lst (SqL.of upd_same) .nil, flat_shaped (fun d hd => ?_), nil_shaped, _, rfl, ?_⟩⟩
      · obtain ⟨q1, hq, rfl⟩ := List.mem_map.mp hd
        exact ⟨rfl, by simp [PyData.depth]⟩
      rw [eqv_nil, filt_empty]
      have s15 := s13.trans (s5.trans (same_new (o := HO.lst []) np1))
      have t5 := tk_same (s5.trans (same_new (o := HO.lst []) np1))
      generalize upd H5 p1 (.lst []) = H6 at *
      refine ite2 (fun e5 => (say "colour" _ ?_ s15)) (fun e5 => ?_)
      · rw [D]
        unfold dueRaw
        rw [if_neg n1, if_neg n2, if_neg n3, if_neg e4, if_pos e5]
      have hr5 := tk_seq t5 hr3
      have hx5 := hx3.up t5
      have isS : ∀ r ∈ rs, isSh r.1 = true := fun r hr => by
        cases z : isSh r.1 with
        | true => rfl
        | false => exact absurd (List.any_eq_true.mpr ⟨r, hr, by rw [z]; rfl⟩) e4
      -- twice
      refine ⟨.int x, rfl, .int y, rfl, by show 2 ≤ sizeLine; decide, fun t nt => ⟨.int w, rfl, Nat.zero_le _, fun p np => ?_⟩⟩
      refine ⟨_, _, _, rfl, ?_⟩
      have s6 : Same H6 (upd (upd H6 t (.tup [.int x, .int y])) p (.lst [])) := (same_new nt).trans (same_new np)
      have hp6 : H6 p = none := (same_new nt).free np
      have hp0 : H p = none := s15.free hp6
      refine ⟨.ref r, rfl, r, rfl, ⟨_, tk_seq (tk_same s6) hr5⟩, for_tup (xs := xr) (fun i σ H' => ∃ seen here ahead vh ys y6 y7, σ = [some (.ref a), some (.int x), some (.int y), some (.int w), some (.int l), some (.ref r), y6, y7, some vh, some (.int ahead), some (.ref p)] ∧
        Same H6 H' ∧ H' p = some (.lst ys) ∧ DTs K H' ys (seen.map sq) ∧ DT K H' vh (sq here) ∧ wst x y w ((rs.map toSh).take i) = (seen ++ [here], ahead) ∧ seen.Nodup) ?_ (fun i σ H' _ hP => ?_) (fun i v σ H' hv hP => ?_) (fun σ H' hP => ?_)⟩
      · exact ⟨[], (x, y), w, .ref t, [], none, none, rfl, s6, upd_same, .nil, (DT.new (.cons (.int x) (.cons (.int y) .nil)) nt).up (tk_new np), rfl, List.nodup_nil⟩
      · obtain ⟨seen, here, ahead, vh, ys, y6, y7, rfl, sm, _⟩ := hP
        exact tk_seq (tk_same sm) hr5
      · obtain ⟨seen, here, ahead, vh, ys, y6, y7, rfl, sm, hp, dys, dh, hw, nd⟩ := hP
        obtain ⟨d, hd2, dv⟩ := hx5.getV hv
        rw [List.getElem?_map] at hd2
        obtain ⟨q1, hq1, rfl⟩ : ∃ q1, rs[i]? = some q1 ∧ rawRail q1 = d := by
          cases z : rs[i]? with
          | none =>
            rw [z] at hd2
            cases hd2
          | some q1 =>
            rw [z] at hd2
            exact ⟨q1, rfl, Option.some.inj hd2⟩
        obtain ⟨b, rfl, hb⟩ := rawRail_at dv
        have hi : i < rs.length := (List.getElem?_eq_some_iff.mp hq1).1
        have hsh := isS q1 (List.mem_of_getElem? hq1)
        refine ⟨b, _, rfl, tk_seq (tk_same sm) hb, rfl, _, _, rfl, _, _, rfl, rfl, ?_⟩
        refine ⟨vh, rfl, .ref p, rfl, sq here, seen.map sq, dh.dp, .lst (SqL.of hp) dys.dp, shaped_sq here, shaped_sqs seen, _, rfl, ?_⟩
        rw [any_sq]
        refine ite2 (fun e => ?_) (fun e => ?_)
        · refine say "twice" H' ?_ (s15.trans sm)
          have hm : here ∈ seen := of_decide_eq_true e
          rw [D]
          unfold dueRaw
          rw [if_neg n1, if_neg n2, if_neg n3, if_neg e4, if_neg e5, if_pos (wst_hit (i := i) (by rw [List.length_map]; exact hi) (by rw [hw]) hm)]
        · have hm : ¬ here ∈ seen := fun z => e (decide_eq_true z)
          have ly : ys.length ≤ 12 := by
            have h1 := dys.length
            have h2 := congrArg (fun z => z.1.length) hw
            rw [List.length_map] at h1
            dsimp only at h2
            rw [wst_len, List.length_take, List.length_map, List.length_append] at h2
            simp only [List.length_cons, List.length_nil] at h2
            omega
          refine ⟨.ref p, rfl, .inl ⟨rfl, _, SqL.of hp⟩, vh, rfl, p, ys, vh, rfl, rfl, hp, small12 ly, ?_⟩
          have tk1 : Tk H' (upd H' p (.lst (ys ++ [vh]))) := tk_set hp
          refine ⟨.int ahead, rfl, .str q1.1, rfl, ahead, shP q1.1, by rw [isSh_P hsh]; rfl, fun H9 s9 => ?_⟩
          refine ⟨vh, rfl, .int _, rfl, vh, here, tn ahead (shP q1.1), rfl, (dh.up tk1).up (tk_same s9), tn_lo _ _, tn_hi _ _, fun v2 H10 s10 d10 => ?_⟩
          have s910 := s9.trans s10
          refine ⟨seen ++ [here], on here (tn ahead (shP q1.1)), tn ahead (shP q1.1), v2, ys ++ [vh], some (.str q1.1), some (.int q1.2), rfl, fun c o h => ?_, s910 _ _ upd_same, ?_, d10, ?_, nd_snoc nd hm⟩
          · refine s910 _ _ ?_
            rw [upd_ne (ne_of_none h hp6)]
            exact sm _ _ h
          · rw [List.map_append]
            exact (dys.append (.cons dh .nil)).up (tk1.trans (tk_same s910))
          · have hq2 : (rs.map toSh)[i]? = some (toSh q1) := by
              rw [List.getElem?_map, hq1]
              rfl
            rw [wst_take hq2, hw]
            dsimp only
            rw [getLastD_snoc]
            rfl
      · obtain ⟨seen, here, ahead, vh, ys, y6, y7, rfl, sm, hp, dys, dh, hw, nd⟩ := hP
        have e : (rs.map toSh).take xr.length = rs.map toSh := by
          have h1 := hx5.length
          rw [List.length_map] at h1
          rw [h1, ← List.length_map (f := toSh), List.take_length]
        rw [e] at hw
        have q1 := q H' (s15.trans sm)
        have nn : dueOf (rawEng x y w l rs) = none := by
          rw [D]
          unfold dueRaw
          rw [if_neg n1, if_neg n2, if_neg n3, if_neg e4, if_neg e5, if_neg (fun z => z (by rw [hw, List.dropLast_concat]; exact nd))]
        rw [nn] at q1
        exact q1
end
section
variable {P : Program} {w : World} {K : PySem.W.Frag} {mg : Str → Option Value} {base : Heap}
def spMet (K : PySem.W.Frag) : Sp := fun vs H Q _ => ∃ (v : V) (d : PyData), vs = [v] ∧ DT K H v d ∧ ∀ H', Same H H' → Q (optV (dueOf d)) H'
theorem ok__law_met (T : Txt K w mg) : FnOk P w K mg base CX0 8 T.f__law_met T.fd__law_met ["_law_thing_here"] (spMet K) := by
  refine T.F__law_met.ok sc__law_met (fun vs H Q E h => ?_) (fun cdv A outer s H vs Q E hr h => ?_)
  · obtain ⟨v, d, rfl, _⟩ := h
    rfl
  · obtain ⟨v, d, rfl, hd, q⟩ := h
    have GL : FnOk P w K mg base (L2.CX P w) 6 T.f_look_engine T.fd_look_engine ["thing"] (spLook K T.a_NoEngine) := ok_look_engine T
    have hr6 : Room 6 (A.deeper (envOfC "_law_met" (defScope s__law_met) s.heap.objs.size T.f__law_met cdv)) := hr.mono (by decide)
    refine ⟨_, (pss_cons (ps_set (i := 1) sc__law_met.nd rfl (.inl rfl) pe_str)
 (pss_cons (ps_try_first (i := 2) rfl rfl sc__law_met.nd rfl rfl ⟨rfl, by decide, .inl T.g_NoEngine⟩
      (fun W pn xe tk _ => (pss_one (ps_set (i := 1) sc__law_met.nd rfl (.inl rfl) (pe_ix (r := rIxL K) ix_list (pe_lst (pa_cons (pv 1) (pa_cons pe_non pa_nil))) (pe_callTy call_int1 (by rfl) T.m_int (by decide +kernel) (pa_cons (pe_cmpR op_isBl (pe_callS GL hr6 rfl T.g_look_engine T.F_look_engine.kp T.b_look_engine (fun σ => passAt tk σ) (pa_cons (pv 0) pa_nil)) pe_bl (nomark _)) pa_nil)) (fun _ _ => rfl)))))
      (fun a oe cls d pn hz hf => (pss_one (ps_set (i := 1) sc__law_met.nd rfl (.inl rfl) (pe_xf T.xf_NoEngine T.n_NoEngine_word hz hf (pv 2))))))
 (pss_one (ps_ret (pv 1))))), ?_⟩
    refine ⟨.str "other", rfl, by show 2 ≤ sizeLine; decide, fun p np => ?_⟩
    have s1 := same_new (o := HO.lst [.str "other", .non]) np
    refine ⟨v, rfl, v, d, rfl, hd.up (tk_same s1), fun hn H2 s2 => ?_, fun z hz H2 a s2 ha => ?_⟩
    · refine ⟨true, true, rfl, rfl, .inr ⟨_, rfl, p, _, _, .non, rfl, rfl, SqL.of (s2 _ _ upd_same), rfl, ?_⟩⟩
      have q1 := q H2 (s1.trans s2)
      rw [hn] at q1
      exact ⟨.non, rfl, q1⟩
    · refine ⟨T.te_NoEngine, fun a0 na => ?_⟩
      have q1 := q H2 (s1.trans s2)
      rw [hz] at q1
      exact ⟨.ref a0, rfl, rfl, rfl, a, _, .str z, rfl, ha, rfl, .str z, rfl, q1⟩
end
section
variable {P : Program} {w : World} {K : PySem.W.Frag} {mg : Str → Option Value} {base : Heap}
def spOdd (K : PySem.W.Frag) : Sp := fun vs H Q _ => ∃ (b : Addr) (v : V) (d : PyData), vs = [.ref b, v] ∧ Box H b ∧ DT K H v d ∧ bnd d = true ∧ ∀ v' d' H', But b H H' → Box H' b → DT K H' v' d' → bnd d' = true → Q v' H'
theorem at_lt {ds : List PyData} {r : Int} (h0 : 0 ≤ r) (h1 : r < (ds.length : Int)) : ∃ d, atI ds r = some d ∧ d ∈ ds := by
  obtain ⟨j, rfl⟩ := Int.eq_ofNat_of_zero_le h0
  have hj : j < ds.length := by omega
  exact ⟨ds[j], atI_nat (List.getElem?_eq_getElem hj), List.getElem_mem hj⟩
theorem box_ne {H : Hp} {b p : Addr} (h : Box H b) (n : H p = none) : p ≠ b := fun z => by
  obtain ⟨i, s, c, h⟩ := h
  rw [z, h] at n
  cases n
theorem r_thing {H : Hp} {e0 e1 p1 t p2 : Addr} {v : V} {d : PyData} {L1 L2 : List V} {D : List PyData} {C : VK} (hd : DT K H v d) (ne0 : H e0 = none) (ne1 : (upd H e0 (.tup [])) e1 = none) (np1 : (upd (upd H e0 (.tup [])) e1 (.tup [.int 0, .int 1])) p1 = none)
    (nt : (upd (upd (upd H e0 (.tup [])) e1 (.tup [.int 0, .int 1])) p1 (.lst L1)) t = none) (np2 : (upd (upd (upd (upd H e0 (.tup [])) e1 (.tup [.int 0, .int 1])) p1 (.lst L1)) t (.tup [v])) p2 = none)
    (hL : ∀ Hx, DT K Hx (.ref e0) (.tuple []) → DT K Hx (.ref e1) (.tuple [.int 0, .int 1]) → DT K Hx v d → DT K Hx (.ref t) (.tuple [d]) → DTs K Hx (L1 ++ L2) D) (hl : L1.length + L2.length ≤ 1000)
    (hC : ∀ p3 H3, Same H H3 → H p3 = none → H3 p3 = some (.lst (L1 ++ L2)) → DTs K H3 (L1 ++ L2) D → C (.ref p3) H3) :
    rCat (.ref p1) (.ref p2) (upd (upd (upd (upd (upd H e0 (.tup [])) e1 (.tup [.int 0, .int 1])) p1 (.lst L1)) t (.tup [v])) p2 (.lst L2)) C := by
  have d0 : DT K (upd H e0 (.tup [])) (.ref e0) (.tuple []) := DT.new .nil ne0
  have s0 : Same H (upd H e0 (.tup [])) := same_new ne0
  generalize upd H e0 (.tup []) = Ha at *
  have d1 : DT K (upd Ha e1 (.tup [.int 0, .int 1])) (.ref e1) (.tuple [.int 0, .int 1]) := DT.new (.cons (.int 0) (.cons (.int 1) .nil)) ne1
  have s1 : Same Ha (upd Ha e1 (.tup [.int 0, .int 1])) := same_new ne1
  generalize upd Ha e1 (.tup [.int 0, .int 1]) = Hb at *
  have h1 : (upd Hb p1 (.lst L1)) p1 = some (.lst L1) := upd_same
  have s2 : Same Hb (upd Hb p1 (.lst L1)) := same_new np1
  generalize upd Hb p1 (.lst L1) = Hc at *
  have hd' : DT K Hc v d := hd.up (tk_same ((s0.trans s1).trans s2))
  have d3 : DT K (upd Hc t (.tup [v])) (.ref t) (.tuple [d]) := DT.new (.cons hd' .nil) nt
  have s3 : Same Hc (upd Hc t (.tup [v])) := same_new nt
  generalize upd Hc t (.tup [v]) = Hd at *
  have s4 : Same Hd (upd Hd p2 (.lst L2)) := same_new np2
  have h2 : (upd Hd p2 (.lst L2)) p2 = some (.lst L2) := upd_same
  generalize upd Hd p2 (.lst L2) = He at *
  refine ⟨p1, p2, L1, L2, rfl, rfl, s4 _ _ (s3 _ _ h1), h2, Nat.le_of_lt (small1000 hl), fun p3 np3 => ?_⟩
  have s5 : Same He (upd He p3 (.lst (L1 ++ L2))) := same_new np3
  have sa := (((s0.trans s1).trans s2).trans s3).trans s4
  refine hC p3 _ (sa.trans s5) (sa.free np3) upd_same (hL _ ?_ ?_ ?_ ?_)
  · exact d0.up (tk_same ((((s1.trans s2).trans s3).trans s4).trans s5))
  · exact d1.up (tk_same (((s2.trans s3).trans s4).trans s5))
  · exact hd.up (tk_same (sa.trans s5))
  · exact d3.up (tk_same (s4.trans s5))
theorem ok__law_thing (T : Txt K w mg) : FnOk P w K mg base CX0 2 T.f__law_thing T.fd__law_thing ["_law_box_here", "_law_thing_here"] (spOdd K) := by
  refine T.F__law_thing.ok sc__law_thing (fun vs H Q E h => ?_) (fun cdv A outer s H vs Q E hr h => ?_)
  · obtain ⟨b, v, d, rfl, _⟩ := h
    rfl
  · obtain ⟨b, v, d, rfl, hb, hd, bd, q⟩ := h
    refine ⟨_, (pss_cons (ps_set (i := 2) sc__law_thing.nd rfl (.inl rfl) (pe_lst (pa_cons pe_int (pa_cons pe_int (pa_cons pe_int (pa_cons pe_int (pa_cons pe_int (pa_cons (pe_op op_sub pe_int pe_int) (pa_cons pe_int (pa_cons pe_bl (pa_cons pe_bl (pa_cons pe_non (pa_cons pe_str (pa_cons pe_str (pa_cons pe_str (pa_cons (pe_tup pa_nil) (pa_cons (pe_tup (pa_cons pe_int (pa_cons pe_int pa_nil))) (pa_cons (pe_op op_pow pe_int pe_int) (pa_cons (pe_op op_add (pe_op op_pow pe_int pe_int) pe_int) (pa_cons (pe_op op_sub pe_int (pe_op op_pow pe_int pe_int)) pa_nil))))))))))))))))))))
 (pss_one (ps_ret (pe_ix ix_list (pe_op op_cat (pv 2) (pe_lst (pa_cons (pe_op op_sub (pe_op op_sub pe_int (pe_op op_pow pe_int pe_int)) pe_int) (pa_cons (pe_op op_pow pe_int pe_int) (pa_cons (pv 1) (pa_cons (pe_tup (pa_cons (pv 1) pa_nil)) pa_nil)))))) (pe_call (ok__law_take T) (hr.mono (by decide)) (by rfl) T.g__law_take T.F__law_take.kp T.b__law_take .nil pass0 (pa_cons (pv 0) (pa_cons pe_int pa_nil))) (fun _ _ => rfl))))), ?_⟩
    refine ⟨0, 1, rfl, rfl, Nat.zero_le _, fun e0 ne0 => ⟨by show 2 ≤ sizeLine; decide, fun e1 ne1 => ?_⟩⟩
    refine ⟨10, 9, rfl, rfl, ⟨by decide, by decide, by decide⟩, 10, 9, rfl, rfl, ⟨by decide, by decide, by decide⟩, _, 1, rfl, rfl, 10, 9, rfl, rfl, ⟨by decide, by decide, by decide⟩, 0, _, rfl, rfl, by show 18 ≤ sizeLine; decide, fun p1 np1 => ?_⟩
    refine ⟨.ref p1, rfl, 10, 9, rfl, rfl, ⟨by decide, by decide, by decide⟩, 0, _, rfl, rfl, _, 1, rfl, rfl, 10, 30, rfl, rfl, ⟨by decide, by decide, by decide⟩, v, rfl, v, rfl, by show 1 ≤ sizeLine; decide, fun t nt => ⟨by show 4 ≤ sizeLine; decide, fun p2 np2 => ?_⟩⟩
    refine r_thing (D := [.int 0, .int 1, .int 2, .int 3, .int 4, .int (0 - 1), .int 10, .bool true, .bool false, .none, .str "", .str "l", .str "ls", .tuple [], .tuple [.int 0, .int 1], .int (10 ^ (9 : Int).toNat), .int (10 ^ (9 : Int).toNat + 1), .int (0 - 10 ^ (9 : Int).toNat), .int (0 - 10 ^ (9 : Int).toNat - 1), .int (10 ^ (30 : Int).toNat), d, .tuple [d]])
      hd ne0 ne1 np1 nt np2 (fun Hx a0 a1 a2 a3 => .cons (.int _) (.cons (.int _) (.cons (.int _) (.cons (.int _) (.cons (.int _) (.cons (.int _) (.cons (.int _) (.cons (.bl _) (.cons (.bl _) (.cons .non (.cons (.str _) (.cons (.str _) (.cons (.str _) (.cons a0 (.cons a1 (.cons (.int _) (.cons (.int _) (.cons (.int _) (.cons (.int _) (.cons (.int _) (.cons a2 (.cons a3 .nil)))))))))))))))))))))) (by show 18 + 4 ≤ 1000; decide) (fun p3 H3 s3 n3 h3 D3 => ?_)
    have hb3 := hb.same s3
    refine ⟨.ref b, rfl, b, 22, rfl, hb3, by decide, by decide, fun r H4 r0 r1 e4 hb4 => ?_⟩
    obtain ⟨d', hd', hm⟩ := at_lt (ds := [.int 0, .int 1, .int 2, .int 3, .int 4, .int (0 - 1), .int 10, .bool true, .bool false, .none, .str "", .str "l", .str "ls", .tuple [], .tuple [.int 0, .int 1], .int (10 ^ (9 : Int).toNat), .int (10 ^ (9 : Int).toNat + 1), .int (0 - 10 ^ (9 : Int).toNat), .int (0 - 10 ^ (9 : Int).toNat - 1), .int (10 ^ (30 : Int).toNat), d, .tuple [d]]) r0 r1
    have ne : p3 ≠ b := box_ne hb n3
    have tk4 : Tk H3 H4 := by
      obtain ⟨i, s, c, h0⟩ := hb3
      exact tk_but h0 e4
    obtain ⟨v', hv', dv'⟩ := (D3.up tk4).at hd'
    refine ⟨p3, _, r, v', rfl, rfl, SqL.of (e4 _ _ ne h3), hv', q v' d' H4 ((but_same s3).trans e4) hb4 dv' ?_⟩
    simp only [List.mem_cons, List.not_mem_nil, or_false] at hm
    rcases hm with rfl | rfl | rfl | rfl | rfl | rfl | rfl | rfl | rfl | rfl | rfl | rfl | rfl | rfl | rfl | rfl | rfl | rfl | rfl | rfl | rfl | rfl
    all_goals first | exact bd | (rw [bnd_tup]; intro z hz; cases List.mem_singleton.mp hz; exact bd) | decide +kernel
end
section
variable {P : Program} {w : World} {K : PySem.W.Frag} {mg : Str → Option Value} {base : Heap}
theorem cut_len {ds : List PyData} {lo hi : Option Int} : (OR.cutD ds lo hi).length ≤ ds.length := by
  unfold OR.cutD
  rw [List.length_take, List.length_drop]
  omega
theorem bnd_cut {ds : List PyData} {lo hi : Option Int} (h : bnd (.tuple ds) = true) : bnd (.tuple (OR.cutD ds lo hi)) = true := bnd_tup.mpr fun d hd => bnd_tup.mp h d (cut_mem hd)
theorem bnd_cat {ds es : List PyData} (h : bnd (.tuple ds) = true) (h2 : bnd (.tuple es) = true) : bnd (.tuple (ds ++ es)) = true := bnd_tup.mpr fun d hd => (List.mem_append.mp hd).elim (bnd_tup.mp h d) (bnd_tup.mp h2 d)
theorem bnd_one {d : PyData} (h : bnd d = true) : bnd (.tuple [d]) = true := bnd_tup.mpr fun z hz => by
  cases List.mem_singleton.mp hz
  exact h
theorem bnd_two {d e : PyData} (h : bnd d = true) (h2 : bnd e = true) : bnd (.tuple [d, e]) = true := bnd_tup.mpr fun z hz => by
  rcases List.mem_cons.mp hz with rfl | hz
  · exact h
  · cases List.mem_singleton.mp hz
    exact h2
theorem bnd_rep {ds : List PyData} {n : Nat} (h : bnd (.tuple ds) = true) : bnd (.tuple (List.replicate n ds).flatten) = true := bnd_tup.mpr fun d hd => by
  obtain ⟨l, hl, hd⟩ := List.mem_flatten.mp hd
  rw [List.eq_of_mem_replicate hl] at hd
  exact bnd_tup.mp h d hd
theorem rep_len (ds : List PyData) : ∀ n : Nat, (List.replicate n ds).flatten.length = n * ds.length
  | 0 => by simp
  | n + 1 => by
    rw [List.replicate_succ, List.flatten_cons, List.length_append, rep_len ds n, Nat.succ_mul]
    omega
theorem pick3 {r : Int} (h0 : 0 ≤ r) (h1 : r < 3) : ∃ c, atI ("lsr" : Str).cps.toList r = some c ∧ bnd (.str ⟨#[c]⟩) = true := by
  have h : r = 0 ∨ r = 1 ∨ r = 2 := by omega
  rcases h with rfl | rfl | rfl
  · exact ⟨108, by decide +kernel, by decide +kernel⟩
  · exact ⟨115, by decide +kernel, by decide +kernel⟩
  · exact ⟨114, by decide +kernel, by decide +kernel⟩
theorem pick2 {r : Int} (h0 : 0 ≤ r) (h1 : r < 2) : ∃ c, atI ("lr" : Str).cps.toList r = some c ∧ bnd (.str ⟨#[c]⟩) = true := by
  have h : r = 0 ∨ r = 1 := by omega
  rcases h with rfl | rfl
  · exact ⟨108, by decide +kernel, by decide +kernel⟩
  · exact ⟨114, by decide +kernel, by decide +kernel⟩
/-- what stands while a law draws -/
structure Dr (K : PySem.W.Frag) (b : Addr) (H H' : Hp) : Prop where
  bt : But b H H'
  bx : Box H' b
theorem Dr.up {b : Addr} {H H' : Hp} {v : V} {d : PyData} (J : Dr K b H H') (hb : Box H b) (h : DT K H v d) : DT K H' v d := J.bt.up hb h
theorem Dr.same {b : Addr} {H H' H2 : Hp} (J : Dr K b H H') (s : Same H' H2) : Dr K b H H2 := ⟨J.bt.trans (but_same s), J.bx.same s⟩
theorem Dr.step {b : Addr} {H H' H2 : Hp} (J : Dr K b H H') (e : But b H' H2) (hb : Box H2 b) : Dr K b H H2 := ⟨J.bt.trans e, hb⟩
theorem ok__law_spoilt (T : Txt K w mg) : FnOk P w K mg base CX0 4 T.f__law_spoilt T.fd__law_spoilt ["_law_box_here", "_law_engine_here"] (spOdd K) := by
  refine T.F__law_spoilt.ok sc__law_spoilt (fun vs H Q E h => ?_) (fun cdv A outer s H vs Q E hr h => ?_)
  · obtain ⟨b, v, d, rfl, _⟩ := h
    rfl
  · obtain ⟨b, v, d, rfl, hb, hd, bd, q⟩ := h
    refine ⟨_, (pss_cons (ps_par (i := 2) (j := 3) (by rfl) sc__law_spoilt.nd rfl rfl (by decide) rfl rfl (pa_cons (pe_call (ok__law_take T) (hr.mono (by decide)) (by rfl) T.g__law_take T.F__law_take.kp T.b__law_take .nil pass0 (pa_cons (pv 0) (pa_cons pe_int pa_nil))) (pa_cons (pe_call (ok__law_take T) (hr.mono (by decide)) (by rfl) T.g__law_take T.F__law_take.kp T.b__law_take .nil pass0 (pa_cons (pv 0) (pa_cons pe_int pa_nil))) pa_nil)) (by rfl))
 (pss_cons (ps_if (PW.pt (pw_or (pt_not (pt_val (pe_call (ok__law_has_form T) (hr.mono (by decide)) (by rfl) T.g__law_has_form T.F__law_has_form.kp T.b__law_has_form .nil pass0 (pa_cons (pv 1) pa_nil)))) (pw_or1 (pt_cmpR op_eq (pv 2) pe_int (nomark _)))))
 (pss_one (ps_ret (pe_call (ok__law_thing T) (hr.mono (by decide)) (by rfl) T.g__law_thing T.F__law_thing.kp T.b__law_thing .nil pass0 (pa_cons (pv 0) (pa_cons (pv 1) pa_nil)))))
 pss_nil)
 (pss_cons (ps_if (pt_cmpR op_eq (pv 2) pe_int (nomark _))
 (pss_one (ps_ret (pe_op op_catA (pe_op op_catA (pe_slice sl_tupA (pv 1) po_none (po_some (pv 3))) (pe_tup (pa_cons (pe_call (ok__law_thing T) (hr.mono (by decide)) (by rfl) T.g__law_thing T.F__law_thing.kp T.b__law_thing .nil pass0 (pa_cons (pv 0) (pa_cons (pe_ix ix_tup (pv 1) (pv 3) (fun _ _ => rfl)) pa_nil))) pa_nil))) (pe_slice sl_tupA (pv 1) (po_some (pe_op op_add (pv 3) pe_int)) po_none))))
 pss_nil)
 (pss_cons (ps_if (pt_cmpR op_eq (pv 2) pe_int (nomark _))
 (pss_one (ps_ret (pe_op op_catA (pe_op op_catA (pe_slice sl_tupA (pv 1) po_none (po_some (pv 3))) (pe_slice sl_tupA (pv 1) (po_some (pe_op op_add (pv 3) pe_int)) po_none)) (pe_op op_repA (pe_tup (pa_cons (pe_call (ok__law_thing T) (hr.mono (by decide)) (by rfl) T.g__law_thing T.F__law_thing.kp T.b__law_thing .nil pass0 (pa_cons (pv 0) (pa_cons (pv 1) pa_nil))) pa_nil)) (pe_call (ok__law_take T) (hr.mono (by decide)) (by rfl) T.g__law_take T.F__law_take.kp T.b__law_take .nil pass0 (pa_cons (pv 0) (pa_cons pe_int pa_nil)))))))
 pss_nil)
 (pss_cons (ps_set (i := 4) sc__law_spoilt.nd rfl (.inl rfl) (pe_ix ix_tup (pv 1) pe_int (fun _ _ => rfl)))
 (pss_cons (ps_set (i := 5) sc__law_spoilt.nd rfl (.inl rfl) (pe_call (ok__law_take T) (hr.mono (by decide)) (by rfl) T.g__law_take T.F__law_take.kp T.b__law_take .nil pass0 (pa_cons (pv 0) (pa_cons (pe_callB call_len_seq (by rfl) T.m_len (by decide +kernel) (pa_cons (pv 4) pa_nil)) pa_nil))))
 (pss_cons (ps_asg (pe_ix ix_tup (pv 4) (pv 5) (fun _ _ => rfl)) (pg_tup (n := 2) rfl (pgs_cons (pg_name (i := 6) sc__law_spoilt.nd rfl (.inl rfl)) (pgs_cons (pg_name (i := 7) sc__law_spoilt.nd rfl (.inl rfl)) pgs_nil))))
 (Evl.pss_cut (ps_if (pt_cmpR op_eq (pv 2) pe_int (nomark _))
 (pss_one (ps_set (i := 8) sc__law_spoilt.nd rfl (.inl rfl) (pe_ix ix_list (pe_lst (pa_cons (pe_tup (pa_cons (pe_call (ok__law_thing T) (hr.mono (by decide)) (by rfl) T.g__law_thing T.F__law_thing.kp T.b__law_thing .nil pass0 (pa_cons (pv 0) (pa_cons (pv 6) pa_nil))) (pa_cons (pv 7) pa_nil))) (pa_cons (pe_tup (pa_cons (pv 6) (pa_cons (pe_call (ok__law_thing T) (hr.mono (by decide)) (by rfl) T.g__law_thing T.F__law_thing.kp T.b__law_thing .nil pass0 (pa_cons (pv 0) (pa_cons (pv 7) pa_nil))) pa_nil))) pa_nil))) (pe_call (ok__law_take T) (hr.mono (by decide)) (by rfl) T.g__law_take T.F__law_take.kp T.b__law_take .nil pass0 (pa_cons (pv 0) (pa_cons pe_int pa_nil))) (fun _ _ => rfl))))
 (pss_one (ps_if (pt_cmpR op_eq (pv 2) pe_int (nomark _))
 (pss_one (ps_set (i := 8) sc__law_spoilt.nd rfl (.inl rfl) (pe_ix ix_list (pe_lst (pa_cons (pe_call (ok__law_thing T) (hr.mono (by decide)) (by rfl) T.g__law_thing T.F__law_thing.kp T.b__law_thing .nil pass0 (pa_cons (pv 0) (pa_cons (pe_ix ix_tup (pv 4) (pv 5) (fun _ _ => rfl)) pa_nil))) (pa_cons (pe_op op_catA (pe_ix ix_tup (pv 4) (pv 5) (fun _ _ => rfl)) (pe_tup (pa_cons pe_int pa_nil))) (pa_cons (pe_slice sl_tupA (pe_ix ix_tup (pv 4) (pv 5) (fun _ _ => rfl)) po_none (po_some pe_int)) pa_nil)))) (pe_call (ok__law_take T) (hr.mono (by decide)) (by rfl) T.g__law_take T.F__law_take.kp T.b__law_take .nil pass0 (pa_cons (pv 0) (pa_cons pe_int pa_nil))) (fun _ _ => rfl))))
 (pss_one (ps_set (i := 8) sc__law_spoilt.nd rfl (.inl rfl) (pe_tup (pa_cons (pe_ix ix_str pe_str (pe_call (ok__law_take T) (hr.mono (by decide)) (by rfl) T.g__law_take T.F__law_take.kp T.b__law_take .nil pass0 (pa_cons (pv 0) (pa_cons pe_int pa_nil))) (fun _ _ => rfl)) (pa_cons (pv 7) pa_nil))))))))
 (pss_cons (ps_set (i := 4) sc__law_spoilt.nd rfl (.inl rfl) (pe_op op_catA (pe_op op_catA (pe_slice sl_tupA (pv 4) po_none (po_some (pv 5))) (pe_tup (pa_cons (pv 8) pa_nil))) (pe_slice sl_tupA (pv 4) (po_some (pe_op op_add (pv 5) pe_int)) po_none)))
 (Evl.pss_cut (ps_if (pt_cmpR op_eq (pv 2) pe_int (nomark _))
 (pss_one (ps_set (i := 4) sc__law_spoilt.nd rfl (.inl rfl) (pe_op op_catA (pv 4) (pe_op op_repA (pe_tup (pa_cons (pe_tup (pa_cons (pe_ix ix_str pe_str (pe_call (ok__law_take T) (hr.mono (by decide)) (by rfl) T.g__law_take T.F__law_take.kp T.b__law_take .nil pass0 (pa_cons (pv 0) (pa_cons pe_int pa_nil))) (fun _ _ => rfl)) (pa_cons pe_int pa_nil))) pa_nil)) (pe_call (ok__law_take T) (hr.mono (by decide)) (by rfl) T.g__law_take T.F__law_take.kp T.b__law_take .nil pass0 (pa_cons (pv 0) (pa_cons pe_int pa_nil)))))))
 pss_nil)
 (Evl.pss_cut (ps_if (pt_cmpR op_eq (pv 2) pe_int (nomark _))
 (pss_one (ps_set (i := 4) sc__law_spoilt.nd rfl (.inl rfl) (pe_slice sl_tupA (pv 4) po_none (po_some (pe_call (ok__law_take T) (hr.mono (by decide)) (by rfl) T.g__law_take T.F__law_take.kp T.b__law_take .nil pass0 (pa_cons (pv 0) (pa_cons (pe_op op_add (pe_callB call_len_seq (by rfl) T.m_len (by decide +kernel) (pa_cons (pv 4) pa_nil)) pe_int) pa_nil)))))))
 pss_nil)
 (pss_one (ps_ret (pe_op op_catA (pe_slice sl_tupA (pv 1) po_none (po_some pe_int)) (pe_tup (pa_cons (pv 4) pa_nil)))))))))))))))), ?_⟩
    refine ⟨.ref b, rfl, b, 8, rfl, hb, by decide, by decide, fun f H1 f0 f1 e1 hb1 => ?_⟩
    refine ⟨.ref b, rfl, b, 5, rfl, hb1, by decide, by decide, fun at' H2 a0 a1 e2 hb2 => ?_⟩
    refine ⟨_, _, rfl, ?_⟩
    have J2 : Dr K b H H2 := ⟨e1.trans e2, hb2⟩
    have hd2 := J2.up hb hd
    refine ⟨v, rfl, v, d, rfl, hd2, fun H3 s3 => ⟨_, rfl, ?_⟩⟩
    have J3 := J2.same s3
    have hd3 := J3.up hb hd
    refine ite2 (fun e => iteT ?_) (fun e => ?_)
    · exact ⟨.ref b, rfl, v, rfl, b, v, d, rfl, J3.bx, hd3, bd, fun v' d' H' e' hb' dv' bd' => q v' d' H' (J3.bt.trans e') hb' dv' bd'⟩
    have zf : formOf d = true := by
      cases hz : formOf d with
      | true => rfl
      | false => exact absurd (by rw [hz]; rfl) e
    refine ⟨.int f, rfl, rfl, _, rfl, ite2 (fun e0 => ?_) (fun e0 => ?_)⟩
    · exact ⟨.ref b, rfl, v, rfl, b, v, d, rfl, J3.bx, hd3, bd, fun v' d' H' e' hb' dv' bd' => q v' d' H' (J3.bt.trans e') hb' dv' bd'⟩
    obtain ⟨x, y, w, l, rs, rfl, hl1, hl2⟩ := form_raw zf
    clear e zf
    -- one thing otherwise
    refine ⟨.int f, rfl, rfl, _, rfl, ite2 (fun e4 => ?_) (fun e4 => ?_)⟩
    · obtain ⟨da, hda, hma⟩ := at_lt (ds := [.int x, .int y, .int w, .int l, .tuple (rs.map rawRail)]) a0 a1
      have bda : bnd da = true := bnd_tup.mp bd da hma
      refine ⟨v, rfl, r_np ⟨.int at', rfl, at', rfl, r_slA hd3 fun v1 H4 s4 d4 => ?_⟩⟩
      have J4 := J3.same s4
      refine ⟨.ref b, rfl, v, rfl, .int at', rfl, r_ixT (J4.up hb hd) hda fun v2 dv2 => ⟨b, v2, da, rfl, J4.bx, dv2, bda, fun v3 d3 H5 e5 hb5 dv3 bd3 => ⟨by show 1 ≤ sizeLine; decide, fun t nt => ?_⟩⟩⟩
      have J5 := J4.step e5 hb5
      have st := same_new (o := HO.tup [v3]) nt
      have J6 := J5.same st
      refine r_catA ((e5.up J4.bx d4).up (tk_same st)) (DT.new (.cons dv3 .nil) nt) (by have := cut_len (ds := [.int x, .int y, .int w, .int l, .tuple (rs.map rawRail)]) (lo := none) (hi := some at'); simp only [List.length_cons, List.length_nil] at this ⊢; omega) fun v6 H7 s7 d6 => ?_
      have J7 := J6.same s7
      refine ⟨v, rfl, .int at', rfl, at', 1, rfl, rfl, at' + 1, rfl, r_np (r_slA (J7.up hb hd) fun v7 H8 s8 d7 => r_catA (d6.up (tk_same s8)) d7 ?_ fun v8 H9 s9 d8 => ?_)⟩
      · have h1 := cut_len (ds := [.int x, .int y, .int w, .int l, .tuple (rs.map rawRail)]) (lo := none) (hi := some at')
        have h2 := cut_len (ds := [.int x, .int y, .int w, .int l, .tuple (rs.map rawRail)]) (lo := some (at' + 1)) (hi := none)
        rw [List.length_append]
        simp only [List.length_cons, List.length_nil] at h1 h2 ⊢
        omega
      · have J9 := (J7.same s8).same s9
        exact q _ _ _ J9.bt J9.bx d8 (bnd_cat (bnd_cat (bnd_cut bd) (bnd_one bd3)) (bnd_cut bd))
    refine ⟨.int f, rfl, rfl, _, rfl, ite2 (fun e5 => ?_) (fun e5 => ?_)⟩
    · refine ⟨v, rfl, r_np ⟨.int at', rfl, at', rfl, r_slA hd3 fun v1 H4 s4 d4 => ?_⟩⟩
      have J4 := J3.same s4
      refine ⟨v, rfl, .int at', rfl, at', 1, rfl, rfl, at' + 1, rfl, r_np (r_slA (J4.up hb hd) fun v2 H5 s5 d5 => r_catA (d4.up (tk_same s5)) d5 ?_ fun v3 H6 s6 d6 => ?_)⟩
      · have h1 := cut_len (ds := [.int x, .int y, .int w, .int l, .tuple (rs.map rawRail)]) (lo := none) (hi := some at')
        have h2 := cut_len (ds := [.int x, .int y, .int w, .int l, .tuple (rs.map rawRail)]) (lo := some (at' + 1)) (hi := none)
        simp only [List.length_cons, List.length_nil] at h1 h2
        omega
      have J6 := (J4.same s5).same s6
      refine ⟨.ref b, rfl, v, rfl, b, v, _, rfl, J6.bx, J6.up hb hd, bd, fun v4 d4' H7 e7 hb7 dv4 bd4 => ⟨by show 1 ≤ sizeLine; decide, fun t nt => ?_⟩⟩
      have J7 := J6.step e7 hb7
      have st := same_new (o := HO.tup [v4]) nt
      have J8 := J7.same st
      refine ⟨.ref b, rfl, b, 3, rfl, J8.bx, by decide, by decide, fun n H9 n0 n1 e9 hb9 => ?_⟩
      have J9 := J8.step e9 hb9
      refine r_repA (e9.up J8.bx (DT.new (.cons dv4 .nil) nt)) (by simp) n0 (by omega) (by show 1 ≤ 1000; decide) fun v5 H10 s10 d10 => ?_
      have d6' := ((e9.up J8.bx ((e7.up J6.bx d6).up (tk_same st)))).up (tk_same s10)
      refine r_catA d6' d10 ?_ fun v6 H11 s11 d11 => ?_
      · have h1 := cut_len (ds := [.int x, .int y, .int w, .int l, .tuple (rs.map rawRail)]) (lo := none) (hi := some at')
        have h2 := cut_len (ds := [.int x, .int y, .int w, .int l, .tuple (rs.map rawRail)]) (lo := some (at' + 1)) (hi := none)
        rw [List.length_append, rep_len]
        simp only [List.length_cons, List.length_nil] at h1 h2 ⊢
        omega
      · have J11 := (J9.same s10).same s11
        exact q _ _ _ J11.bt J11.bx d11 (bnd_cat (bnd_cat (bnd_cut bd) (bnd_cut bd)) (bnd_rep (bnd_one bd4)))
    -- the rails
    have brt : bnd (.tuple (rs.map rawRail)) = true := bnd_tup.mp bd _ (by simp)
    refine ⟨v, rfl, r_ixT hd3 (d := .tuple (rs.map rawRail)) rfl fun vr dr => ?_⟩
    obtain ⟨r, xr, rfl, hr1, hx⟩ := dr.tupOf
    have lx : xr.length = rs.length := by
      rw [hx.length, List.length_map]
    refine ⟨.ref b, rfl, .ref r, rfl, r, xr, rfl, .inr hr1, b, _, rfl, J3.bx, by omega, by omega, fun k H4 k0 k1 e4' hb4 => ?_⟩
    have J4 := J3.step e4' hb4
    have up4 : ∀ {H' : Hp}, Dr K b H4 H' → DT K H' (.ref r) (.tuple (rs.map rawRail)) := fun J => J.up hb4 (e4'.up J3.bx dr)
    have U4 : Dr K b H4 H4 := ⟨But.refl _ _, hb4⟩
    obtain ⟨dk, hdk, hmk⟩ := at_lt (ds := rs.map rawRail) k0 (by rw [List.length_map]; omega)
    obtain ⟨q1, hq1, rfl⟩ := List.mem_map.mp hmk
    have bq : bnd (rawRail q1) = true := bnd_tup.mp brt _ hmk
    have bs : bnd (.str q1.1) = true := bnd_tup.mp bq _ (by simp)
    have bc : bnd (.int q1.2) = true := bnd_tup.mp bq _ (by simp)
    refine ⟨.ref r, rfl, .int k, rfl, r_ixT (up4 U4) hdk fun v5 dv5 => ?_⟩
    obtain ⟨a5, rfl, h5⟩ := rawRail_at dv5
    refine ⟨a5, _, rfl, h5, rfl, _, _, rfl, _, _, rfl, rfl, ?_⟩
    refine ⟨fun σ H' => ∃ vq dq, σ = [some (.ref b), some v, some (.int f), some (.int at'), some (.ref r), some (.int k), some (.str q1.1), some (.int q1.2), some vq] ∧ Dr K b H4 H' ∧ DT K H' vq dq ∧ bnd dq = true, ?_, ?_⟩
    · refine ⟨.int f, rfl, rfl, _, rfl, ite2 (fun e6 => ?_) (fun e6 => ?_)⟩
      · refine ⟨.ref b, rfl, .str q1.1, rfl, b, .str q1.1, .str q1.1, rfl, hb4, .str _, bs, fun v6 d6 H5 e5 hb5 dv6 bd6 => ⟨.int q1.2, rfl, by show 2 ≤ sizeLine; decide, fun t1 nt1 => ?_⟩⟩
        have J5 := U4.step e5 hb5
        have d61 := DT.new (K := K) (.cons dv6 (.cons (.int q1.2) .nil)) nt1
        have st1 := same_new (o := HO.tup [v6, .int q1.2]) nt1
        have J6 := J5.same st1
        refine ⟨.str q1.1, rfl, .ref b, rfl, .int q1.2, rfl, b, .int q1.2, .int q1.2, rfl, J6.bx, .int _, bc, fun v7 d7 H7 e7 hb7 dv7 bd7 => ⟨by show 2 ≤ sizeLine; decide, fun t2 nt2 => ⟨by show 2 ≤ sizeLine; decide, fun p np => ?_⟩⟩⟩
        have J7 := J6.step e7 hb7
        have d71 := DT.new (K := K) (.cons (.str q1.1) (.cons dv7 .nil)) nt2
        have st2 := same_new (o := HO.tup [.str q1.1, v7]) nt2
        have st3 := same_new (o := HO.lst [.ref t1, .ref t2]) np
        have J9 := (J7.same st2).same st3
        have np7 : p ≠ b := box_ne (J7.same st2).bx np
        have hp : (upd (upd H7 t2 (.tup [.str q1.1, v7])) p (.lst [.ref t1, .ref t2])) p = some (.lst [.ref t1, .ref t2]) := upd_same
        have dd1 : DT K (upd (upd H7 t2 (.tup [.str q1.1, v7])) p (.lst [.ref t1, .ref t2])) (.ref t1) (.tuple [d6, .int q1.2]) := (e7.up J6.bx d61).up ((tk_same st2).trans (tk_same st3))
        have dd2 := d71.up (tk_same st3)
        refine ⟨.ref b, rfl, b, 2, rfl, J9.bx, by decide, by decide, fun n H10 n0 n1 e10 hb10 => ?_⟩
        have J10 := J9.step e10 hb10
        obtain ⟨dn, hdn, hmn⟩ := at_lt (ds := [.tuple [d6, .int q1.2], .tuple [.str q1.1, d7]]) n0 n1
        obtain ⟨vn, hvn, dvn⟩ := (DTs.cons (e10.up J9.bx dd1) (.cons (e10.up J9.bx dd2) .nil)).at hdn
        refine ⟨p, _, n, vn, rfl, rfl, SqL.of (e10 _ _ np7 hp), hvn, vn, dn, rfl, J10, dvn, ?_⟩
        rcases List.mem_cons.mp hmn with rfl | hmn
        · exact bnd_two bd6 bc
        · cases List.mem_singleton.mp hmn
          exact bnd_two bs bd7
      refine ⟨.int f, rfl, rfl, _, rfl, ite2 (fun e7 => ?_) (fun e7 => ?_)⟩
      · refine ⟨.ref b, rfl, .ref r, rfl, .int k, rfl, r_ixT (up4 U4) hdk fun v6 dv6 => ⟨b, v6, _, rfl, hb4, dv6, bq, fun v7 d7 H5 e5 hb5 dv7 bd7 => ?_⟩⟩
        have J5 := U4.step e5 hb5
        refine ⟨.ref r, rfl, .int k, rfl, r_ixT (up4 J5) hdk fun v8 dv8 => ⟨by show 1 ≤ sizeLine; decide, fun t nt => ?_⟩⟩
        have st := same_new (o := HO.tup [.int 0]) nt
        refine r_catA (ds := [.str q1.1, .int q1.2]) (es := [.int 0]) (dv8.up (tk_same st)) (DT.new (.cons (.int 0) .nil) nt) (by show 2 + 1 ≤ 1000; decide) fun v9 H7 s7 d9 => ?_
        have J7 := (J5.same st).same s7
        refine ⟨.ref r, rfl, .int k, rfl, r_ixT (up4 J7) hdk fun v10 dv10 => r_np ⟨1, rfl, r_slA dv10 fun v11 H8 s8 d11 => ⟨by show 3 ≤ sizeLine; decide, fun p np => ?_⟩⟩⟩
        have J8 := J7.same s8
        have st3 := same_new (o := HO.lst [v7, v9, v11]) np
        have J9 := J8.same st3
        have np7 : p ≠ b := box_ne J8.bx np
        have hp : (upd H8 p (.lst [v7, v9, v11])) p = some (.lst [v7, v9, v11]) := upd_same
        have dd1 := dv7.up ((((tk_same st).trans (tk_same s7)).trans (tk_same s8)).trans (tk_same st3))
        have dd2 := d9.up ((tk_same s8).trans (tk_same st3))
        have dd3 := d11.up (tk_same st3)
        refine ⟨.ref b, rfl, b, 3, rfl, J9.bx, by decide, by decide, fun n H10 n0 n1 e10 hb10 => ?_⟩
        have J10 := J9.step e10 hb10
        obtain ⟨dn, hdn, hmn⟩ := at_lt (ds := [d7, .tuple ([.str q1.1, .int q1.2] ++ [.int 0]), .tuple (OR.cutD [.str q1.1, .int q1.2] none (some 1))]) n0 n1
        obtain ⟨vn, hvn, dvn⟩ := (DTs.cons (e10.up J9.bx dd1) (.cons (e10.up J9.bx dd2) (.cons (e10.up J9.bx dd3) .nil))).at hdn
        refine ⟨p, _, n, vn, rfl, rfl, SqL.of (e10 _ _ np7 hp), hvn, vn, dn, rfl, J10, dvn, ?_⟩
        rcases List.mem_cons.mp hmn with rfl | hmn
        · exact bd7
        · rcases List.mem_cons.mp hmn with rfl | hmn
          · exact bnd_cat bq (bnd_one (by decide +kernel))
          · cases List.mem_singleton.mp hmn
            exact bnd_cut bq
      · refine ⟨.ref b, rfl, b, 3, rfl, hb4, by decide, by decide, fun n H5 n0 n1 e5 hb5 => ?_⟩
        obtain ⟨c, hc, bcc⟩ := pick3 n0 n1
        refine ⟨_, n, c, rfl, rfl, by decide, hc, .int q1.2, rfl, by show 2 ≤ sizeLine; decide, fun t nt => ?_⟩
        exact ⟨_, _, rfl, (U4.step e5 hb5).same (same_new nt), DT.new (.cons (.str _) (.cons (.int q1.2) .nil)) nt, bnd_two bcc bc⟩
    rintro σ H5 ⟨vq, dq, rfl, J5, dvq, bdq⟩
    refine ⟨.ref r, rfl, r_np ⟨.int k, rfl, k, rfl, r_slA (up4 J5) fun v1 H6 s6 d6 => ⟨vq, rfl, by show 1 ≤ sizeLine; decide, fun t nt => ?_⟩⟩⟩
    have st := same_new (o := HO.tup [vq]) nt
    refine r_catA (d6.up (tk_same st)) (DT.new (.cons (dvq.up (tk_same s6)) .nil) nt) (by have h1 := cut_len (ds := rs.map rawRail) (lo := none) (hi := some k); rw [List.length_map] at h1; simp only [List.length_cons, List.length_nil]; omega) fun v2 H7 s7 d7 => ?_
    have J7 := ((J5.same s6).same st).same s7
    refine ⟨.ref r, rfl, .int k, rfl, k, 1, rfl, rfl, k + 1, rfl, r_np (r_slA (up4 J7) fun v3 H8 s8 d8 => r_catA (d7.up (tk_same s8)) d8 ?_ fun v4 H9 s9 d9 => ?_)⟩
    · have h1 := cut_len (ds := rs.map rawRail) (lo := none) (hi := some k)
      have h2 := cut_len (ds := rs.map rawRail) (lo := some (k + 1)) (hi := none)
      rw [List.length_map] at h1 h2
      rw [List.length_append]
      simp only [List.length_cons, List.length_nil]
      omega
    have J9 := (J7.same s8).same s9
    have b9 : bnd (.tuple (OR.cutD (rs.map rawRail) none (some k) ++ [dq] ++ OR.cutD (rs.map rawRail) (some (k + 1)) none)) = true := bnd_cat (bnd_cat (bnd_cut brt) (bnd_one bdq)) (bnd_cut brt)
    have l9 : (OR.cutD (rs.map rawRail) none (some k) ++ [dq] ++ OR.cutD (rs.map rawRail) (some (k + 1)) none).length ≤ 25 := by
      have h1 := cut_len (ds := rs.map rawRail) (lo := none) (hi := some k)
      have h2 := cut_len (ds := rs.map rawRail) (lo := some (k + 1)) (hi := none)
      rw [List.length_map] at h1 h2
      rw [List.length_append, List.length_append]
      simp only [List.length_cons, List.length_nil]
      omega
    generalize OR.cutD (rs.map rawRail) none (some k) ++ [dq] ++ OR.cutD (rs.map rawRail) (some (k + 1)) none = D9 at d9 b9 l9
    refine ⟨fun σ H' => ∃ vr dr, σ = [some (.ref b), some v, some (.int f), some (.int at'), some vr, some (.int k), some (.str q1.1), some (.int q1.2), some vq] ∧ Dr K b H4 H' ∧ DT K H' vr (.tuple dr) ∧ bnd (.tuple dr) = true ∧ dr.length ≤ 31, ?_, ?_⟩
    · refine ⟨.int f, rfl, rfl, _, rfl, ite2 (fun e6 => ?_) (fun e6 => ?_)⟩
      · refine ⟨v4, rfl, .ref b, rfl, b, 2, rfl, J9.bx, by decide, by decide, fun n H10 n0 n1 e10 hb10 => ?_⟩
        obtain ⟨c, hc, bcc⟩ := pick2 n0 n1
        refine ⟨_, n, c, rfl, rfl, by decide, hc, by show 2 ≤ sizeLine; decide, fun t1 nt1 => ⟨by show 1 ≤ sizeLine; decide, fun t2 nt2 => ?_⟩⟩
        have st1 := same_new (o := HO.tup [.str ⟨#[c]⟩, .int 1]) nt1
        have st2 := same_new (o := HO.tup [.ref t1]) nt2
        have J10 := ((J9.step e10 hb10).same st1).same st2
        have dt1 : DT K (upd H10 t1 (.tup [.str ⟨#[c]⟩, .int 1])) (.ref t1) (.tuple [.str ⟨#[c]⟩, .int 1]) := DT.new (.cons (.str _) (.cons (.int 1) .nil)) nt1
        have dt2 := DT.new (.cons dt1 .nil) nt2
        refine ⟨.ref b, rfl, b, 6, rfl, J10.bx, by decide, by decide, fun m H11 m0 m1 e11 hb11 => ?_⟩
        have J11 := J10.step e11 hb11
        refine r_repA (e11.up J10.bx dt2) (by simp) m0 (by omega) (by show 1 ≤ 1000; decide) fun v5 H12 s12 d12 => ?_
        have d9' := (e11.up J10.bx ((e10.up J9.bx d9).up ((tk_same st1).trans (tk_same st2)))).up (tk_same s12)
        refine r_catA d9' d12 ?_ fun v6 H13 s13 d13 => ?_
        · rw [rep_len]
          simp only [List.length_cons, List.length_nil]
          omega
        · refine ⟨v6, _, rfl, (J11.same s12).same s13, d13, bnd_cat b9 (bnd_rep (bnd_one (bnd_two bcc (by decide +kernel)))), ?_⟩
          rw [List.length_append, rep_len]
          simp only [List.length_cons, List.length_nil]
          omega
      · exact ⟨v4, _, rfl, J9, d9, b9, by omega⟩
    rintro σ H10 ⟨vr, dr', rfl, J10, d10, b10, l10⟩
    refine ⟨fun σ H' => ∃ vr dr, σ = [some (.ref b), some v, some (.int f), some (.int at'), some vr, some (.int k), some (.str q1.1), some (.int q1.2), some vq] ∧ Dr K b H4 H' ∧ DT K H' vr (.tuple dr) ∧ bnd (.tuple dr) = true, ?_, ?_⟩
    · refine ⟨.int f, rfl, rfl, _, rfl, ite2 (fun e6 => ?_) (fun e6 => ?_)⟩
      · obtain ⟨r2, xr2, rfl, hr2, hx2⟩ := d10.tupOf
        have lx2 := hx2.length
        refine ⟨.ref r2, rfl, r_np ⟨.ref b, rfl, .ref r2, rfl, r2, xr2, rfl, .inr hr2, _, 1, rfl, rfl, b, _, rfl, J10.bx, by omega, by omega, fun n H11 n0 n1 e11 hb11 => ⟨n, rfl, r_slA (e11.up J10.bx d10) fun v5 H12 s12 d12 => ?_⟩⟩⟩
        exact ⟨v5, _, rfl, (J10.step e11 hb11).same s12, d12, bnd_cut b10⟩
      · exact ⟨vr, dr', rfl, J10, d10, b10⟩
    rintro σ H11 ⟨vr2, dr2, rfl, J11, d11, b11⟩
    have upE : ∀ {H' : Hp}, Dr K b H4 H' → DT K H' v (rawEng x y w l rs) := fun J => J.up hb4 (J4.up hb hd)
    refine ⟨v, rfl, r_np ⟨4, rfl, r_slA (upE J11) fun v5 H12 s12 d12 => ⟨vr2, rfl, by show 1 ≤ sizeLine; decide, fun t2 nt2 => ?_⟩⟩⟩
    have st2 := same_new (o := HO.tup [vr2]) nt2
    refine r_catA (d12.up (tk_same st2)) (DT.new (.cons (d11.up (tk_same s12)) .nil) nt2) (by show 4 + 1 ≤ 1000; decide) fun v6 H13 s13 d13 => ?_
    have J13 := ((J11.same s12).same st2).same s13
    exact q _ _ _ (J4.bt.trans J13.bt) J13.bx d13 (bnd_cat (bnd_cut bd) (bnd_one b11))
end
section
variable {P : Program} {w : World} {K : PySem.W.Frag} {mg : Str → Option Value} {base : Heap}
theorem bnd_eng {x y w look z : Int} {rs : List (Sh × Int)} (D : Drawn x y w look rs) (z0 : 0 ≤ z) (z9 : z ≤ 1000000000) (x0 : -z ≤ x) (x1 : x ≤ z) (y0 : -z ≤ y) (y1 : y ≤ z) : bnd (eng x y w look rs) = true := by
  have sml : ∀ i : Int, -1000000000 ≤ i → i ≤ 1000000000 → bnd (.int i) = true := fun i h0 h1 => bnd_int.mpr ⟨Int.le_trans (by decide) h0, Int.le_trans h1 (by decide)⟩
  have h0 := D.w0
  have h3 := D.w3
  refine bnd_tup.mpr fun d hd => ?_
  simp only [List.mem_cons, List.not_mem_nil, or_false] at hd
  rcases hd with rfl | rfl | rfl | rfl | rfl
  · exact sml _ (by omega) (by omega)
  · exact sml _ (by omega) (by omega)
  · exact sml _ (by omega) (by omega)
  · rcases D.lk with e | e
    · exact sml _ (by omega) (by omega)
    · exact sml _ (by omega) (by omega)
  · refine bnd_tup.mpr fun d hd => ?_
    obtain ⟨r, hr, rfl⟩ := List.mem_map.mp hd
    have c := D.col r hr
    refine bnd_two ?_ (sml _ (by omega) (by omega))
    cases r.1 <;> decide +kernel
theorem ok_law (T : Txt K w mg) {f : Addr} {fd : FuncData} (F : Fun K "law" "law" s_law f fd) : FnOk P w K mg base CX0 9 f fd ["_law_script"] (spLaw K) := by
  refine F.ok sc_law (fun vs H Q E h => ?_) (fun cdv A outer s H vs Q E hr h => ?_)
  · obtain ⟨a, ns, rfl, _⟩ := h
    rfl
  · obtain ⟨a, ns, rfl, hS, hlen, q⟩ := h
    refine ⟨_, (pss_cons (ps_for PassesOwn.never rfl (pi_range1 (by rfl) T.m_range (pa_cons (pe_callB (call_max2 rfl) (by rfl) T.m_max (by decide +kernel) (pa_cons pe_int (pa_cons (pe_callB (call_min2 rfl) (by rfl) T.m_min (by decide +kernel) (pa_cons pe_int (pa_cons (pe_callB call_len_seq (by rfl) T.m_len (by decide +kernel) (pa_cons (pv 0) pa_nil)) pa_nil))) pa_nil))) pa_nil)) (pg_name (i := 1) sc_law.nd rfl (.inl rfl))
 (pss_cons (ps_set (i := 2) sc_law.nd rfl (.inl rfl) (pe_call (ok__law_box T) (hr.mono (by decide)) (by rfl) T.g__law_box T.F__law_box.kp T.b__law_box .nil pass0 (pa_cons (pv 0) (pa_cons (pv 1) pa_nil))))
 (pss_cons (ps_set (i := 3) sc_law.nd rfl (.inl rfl) (pe_call (ok__law_engine T) (hr.mono (by decide)) (by rfl) T.g__law_engine T.F__law_engine.kp T.b__law_engine .nil pass0 (pa_cons (pv 2) (pa_cons pe_int (pa_cons (pe_ix ix_list (pe_lst (pa_cons pe_int (pa_cons pe_int pa_nil))) (pe_call (ok__law_take T) (hr.mono (by decide)) (by rfl) T.g__law_take T.F__law_take.kp T.b__law_take .nil pass0 (pa_cons (pv 2) (pa_cons pe_int pa_nil))) (fun _ _ => rfl)) pa_nil)))))
 (pss_one (ps_for PassesOwn.never rfl (pi_range1 (by rfl) T.m_range (pa_cons pe_int pa_nil)) (pg_name (i := 4) sc_law.nd rfl (.inl rfl))
 (pss_cons (ps_set (i := 5) sc_law.nd rfl (.inl rfl) (pe_call (ok__law_spoilt T) (hr.mono (by decide)) (by rfl) T.g__law_spoilt T.F__law_spoilt.kp T.b__law_spoilt .nil pass0 (pa_cons (pv 2) (pa_cons (pv 3) pa_nil))))
 (Evl.pss_cut (ps_if (pt_cmpR op_eq (pe_call (ok__law_take T) (hr.mono (by decide)) (by rfl) T.g__law_take T.F__law_take.kp T.b__law_take .nil pass0 (pa_cons (pv 2) (pa_cons pe_int pa_nil))) pe_int (nomark _))
 (pss_one (ps_set (i := 5) sc_law.nd rfl (.inl rfl) (pe_call (ok__law_spoilt T) (hr.mono (by decide)) (by rfl) T.g__law_spoilt T.F__law_spoilt.kp T.b__law_spoilt .nil pass0 (pa_cons (pv 2) (pa_cons (pv 5) pa_nil)))))
 pss_nil)
 (pss_one (ps_if (PW.pt (pw_or (pt_cmpR op_ne (pe_call (ok__law_met T) (hr.mono (by decide)) (by rfl) T.g__law_met T.F__law_met.kp T.b__law_met .nil pass0 (pa_cons (pv 5) pa_nil)) (pe_call (ok__law_due T) (hr.mono (by decide)) (by rfl) T.g__law_due T.F__law_due.kp T.b__law_due .nil pass0 (pa_cons (pv 5) pa_nil)) (nomark _)) (pw_or1 (pt_cmpR op_notN (pe_call (ok__law_met T) (hr.mono (by decide)) (by rfl) T.g__law_met T.F__law_met.kp T.b__law_met .nil pass0 (pa_cons (pv 3) pa_nil)) pe_non (nomark _)))))
 (pss_one (ps_ret pe_bl))
 pss_nil)))))))))
 (pss_one (ps_ret pe_bl))), ?_⟩
    have hr0 := lawRange (n := (ns.map V.int).length) 6 (by decide) (by decide)
    refine ⟨.ref a, rfl, a, _, rfl, .inl hS, 6, _, rfl, 2, _, rfl, _, rfl, by omega, by omega, for_range (lo := 0) (fun i σ H' => ∃ y1 y2 y3 y4 y5, σ = [some (.ref a), y1, y2, y3, y4, y5] ∧ SqL K H' a (ns.map V.int)) ⟨none, none, none, none, none, rfl, hS⟩ (fun i σ H' hi hP => ?_) (fun σ H' hP => q H')⟩
    obtain ⟨y1, y2, y3, y4, y5, rfl, hS'⟩ := hP
    refine ⟨.ref a, rfl, .int (0 + (i : Int)), rfl, a, ns, _, rfl, hS', by omega, by omega, fun b H1 nb s1 hb1 => ?_⟩
    refine ⟨.ref b, rfl, by show 2 ≤ sizeLine; decide, fun pl npl => ?_⟩
    have hb2 := hb1.same (same_new (o := HO.lst [.int 6, .int 1000000000]) npl)
    refine ⟨.ref b, rfl, b, 2, rfl, hb2, by decide, by decide, fun r1 H2 a1 a2 e2 hb3 => ?_⟩
    have npb : pl ≠ b := box_ne hb1 npl
    have hpl : H2 pl = some (.lst [.int 6, .int 1000000000]) := e2 _ _ npb upd_same
    have hz : ∃ z : Int, atI [V.int 6, V.int 1000000000] r1 = some (.int z) ∧ 0 ≤ z ∧ z ≤ 1000000000 := by
      have h : r1 = 0 ∨ r1 = 1 := by omega
      rcases h with rfl | rfl
      · exact ⟨6, rfl, by decide, by decide⟩
      · exact ⟨1000000000, rfl, by decide, by decide⟩
    obtain ⟨z, hz, z0, z9⟩ := hz
    refine ⟨pl, _, r1, .int z, rfl, rfl, SqL.of hpl, hz, ?_⟩
    refine ⟨b, 12, z, rfl, hb3, by decide, by decide, z0, z9, fun v H3 x y w look rs D x0 x1 y0 y1 _ e3 hb4 hd => ?_⟩
    have hS3 : SqL K H3 a (ns.map V.int) := SqL_but hS' nb (s1.trans (same_new npl)) (e2.trans e3)
    have bd := bnd_eng D z0 z9 x0 x1 y0 y1
    have due0 := due_drawn D (by omega) (by omega) (by omega) (by omega)
    have U3 : Dr K b H3 H3 := ⟨But.refl _ _, hb4⟩
    have keepS : ∀ {H' : Hp}, Dr K b H3 H' → SqL K H' a (ns.map V.int) := fun J => SqL_but hS' nb (s1.trans (same_new npl)) ((e2.trans e3).trans J.bt)
    refine ⟨8, rfl, by decide, by decide, for_range (lo := 0) (n := 8) (fun j σ H' => ∃ y4 y5, σ = [some (.ref a), some (.int (0 + (i : Int))), some (.ref b), some v, y4, y5] ∧ Dr K b H3 H') ⟨_, _, rfl, U3⟩ (fun j σ H' hj hP => ?_) (fun σ H' hP => ?_)⟩
    · obtain ⟨y4, y5, rfl, J⟩ := hP
      refine ⟨.ref b, rfl, v, rfl, b, v, _, rfl, J.bx, J.up hb4 hd, bd, fun v1 d1 H4 e4 hb5 dv1 bd1 => ?_⟩
      have J4 := J.step e4 hb5
      refine ⟨fun σ H' => ∃ y4 vo dd, σ = [some (.ref a), some (.int (0 + (i : Int))), some (.ref b), some v, y4, some vo] ∧ Dr K b H3 H' ∧ DT K H' vo dd ∧ bnd dd = true, ?_, ?_⟩
      · refine ⟨.ref b, rfl, b, 3, rfl, hb5, by decide, by decide, fun n H5 n0 n1 e5 hb6 => ?_⟩
        have J5 := J4.step e5 hb6
        refine ⟨rfl, _, rfl, ite2 (fun e => ?_) (fun e => ?_)⟩
        · exact ⟨.ref b, rfl, v1, rfl, b, v1, d1, rfl, hb6, e5.up hb5 dv1, bd1, fun v2 d2 H6 e6 hb7 dv2 bd2 => ⟨_, v2, d2, rfl, J5.step e6 hb7, dv2, bd2⟩⟩
        · exact ⟨_, v1, d1, rfl, J5, e5.up hb5 dv1, bd1⟩
      · rintro σ H5 ⟨y4, vo, dd, rfl, J5, dvo, bdd⟩
        refine ⟨vo, rfl, vo, dd, rfl, dvo, fun H6 s6 => ⟨vo, rfl, vo, dd, rfl, dvo.up (tk_same s6), bdd, fun H7 s7 => ?_⟩⟩
        have sc : scal (optV (dueOf dd)) (optV (dueOf dd)) = true := by
          cases dueOf dd <;> rfl
        have J7 := (J5.same s6).same s7
        refine ⟨sc, _, rfl, iteNS rfl ?_⟩
        refine ⟨v, rfl, v, _, rfl, J7.up hb4 hd, fun H8 s8 => ?_⟩
        rw [due0]
        exact ⟨rfl, _, rfl, iteF ⟨_, _, rfl, J7.same s8⟩⟩
    · obtain ⟨y4, y5, rfl, J⟩ := hP
      exact ⟨_, _, _, _, _, rfl, keepS J⟩
end
theorem all_mk {l : PySem.W.OpenLaw} {w : World} {K : PySem.W.Frag} {h : Heap} {mg : Str → Option Value} {fa : Addr} (X : K.In h) (G : h.Ns mainGlobals mg) (hfa : mg "law" = some (.ref fa))
    {od0 an0 : Option Addr} {sl0 : Array (Option Value)} {oc0 kV0 dc0 pm0 cd0 ct0 : Value} {f0 : Addr}
    {od2 an2 : Option Addr} {sl2 : Array (Option Value)} {oc2 kV2 dc2 pm2 cd2 ct2 : Value} {f2 : Addr}
    {od3 an3 : Option Addr} {sl3 : Array (Option Value)} {oc3 kV3 dc3 pm3 cd3 ct3 : Value} {f3 : Addr}
    {od4 an4 : Option Addr} {sl4 : Array (Option Value)} {oc4 kV4 dc4 pm4 cd4 ct4 : Value} {f4 : Addr}
    {od5 an5 : Option Addr} {sl5 : Array (Option Value)} {oc5 kV5 dc5 pm5 cd5 ct5 : Value} {f5 : Addr}
    {od6 an6 : Option Addr} {sl6 : Array (Option Value)} {oc6 kV6 dc6 pm6 cd6 ct6 : Value} {f6 : Addr}
    {od7 an7 : Option Addr} {sl7 : Array (Option Value)} {oc7 kV7 dc7 pm7 cd7 ct7 : Value} {f7 : Addr}
    {od8 an8 : Option Addr} {sl8 : Array (Option Value)} {oc8 kV8 dc8 pm8 cd8 ct8 : Value} {f8 : Addr}
    {od9 an9 : Option Addr} {sl9 : Array (Option Value)} {oc9 kV9 dc9 pm9 cd9 ct9 : Value} {f9 : Addr}
    {od10 an10 : Option Addr} {sl10 : Array (Option Value)} {oc10 kV10 dc10 pm10 cd10 ct10 : Value} {f10 : Addr}
    {od11 an11 : Option Addr} {sl11 : Array (Option Value)} {oc11 kV11 dc11 pm11 cd11 ct11 : Value} {f11 : Addr}
    {od12 an12 : Option Addr} {sl12 : Array (Option Value)} {oc12 kV12 dc12 pm12 cd12 ct12 : Value} {f12 : Addr}
    {od13 an13 : Option Addr} {sl13 : Array (Option Value)} {oc13 kV13 dc13 pm13 cd13 ct13 : Value} {f13 : Addr}
    {od14 an14 : Option Addr} {sl14 : Array (Option Value)} {oc14 kV14 dc14 pm14 cd14 ct14 : Value} {f14 : Addr}
    {od15 an15 : Option Addr} {sl15 : Array (Option Value)} {oc15 kV15 dc15 pm15 cd15 ct15 : Value} {f15 : Addr}
    {od16 an16 : Option Addr} {sl16 : Array (Option Value)} {oc16 kV16 dc16 pm16 cd16 ct16 : Value} {f16 : Addr}
    {od17 an17 : Option Addr} {sl17 : Array (Option Value)} {oc17 kV17 dc17 pm17 cd17 ct17 : Value} {f17 : Addr}
    {od18 an18 : Option Addr} {sl18 : Array (Option Value)} {oc18 kV18 dc18 pm18 cd18 ct18 : Value} {f18 : Addr}
    {od19 an19 : Option Addr} {sl19 : Array (Option Value)} {oc19 kV19 dc19 pm19 cd19 ct19 : Value} {f19 : Addr}
    {od20 an20 : Option Addr} {sl20 : Array (Option Value)} {oc20 kV20 dc20 pm20 cd20 ct20 : Value} {f20 : Addr}
    {od21 an21 : Option Addr} {sl21 : Array (Option Value)} {oc21 kV21 dc21 pm21 cd21 ct21 : Value} {f21 : Addr}
    {od22 an22 : Option Addr} {sl22 : Array (Option Value)} {oc22 kV22 dc22 pm22 cd22 ct22 : Value} {f22 : Addr}
    {tA : Addr} {th1 th2 th3 : Int} {tu1 tu2 tu3 tt1 tt2 tt3 : Tok} {tnn : Nat}
    {sA sB0 sB1 sB2 sB3 : Addr} {sd sd0 sd1 sd2 sd3 : Option Addr} {sn sn0 sn1 sn2 sn3 : Nat} {ss ss0 ss1 ss2 ss3 : Array (Option Value)} {su0 su1 su2 su3 sv0 sv1 sv2 sv3 : Tok}
    {oF oD : Addr} {ooc odc opm ocd oct : Value} {ood oan : Option Addr} {osl : Array (Option Value)} {otk : Tok}
    {e2C e2I e2R0 e2N : Addr} {e2nm e2q : Str} {e2bs e2sub : List Value} {e2sn : List Str} {e2ab : Bool} {e2col : Option Bool} {e2dd : Option Addr} {e2m0 e2m1 e2m2 e2m3 e2m5 : Option Value} {e2od e2an : Option Addr} {e2sl : Array (Option Value)} {e2oc e2kV e2dc e2pm e2cd e2ct : Value}
    {cTRAILS cTCOLOURS cTFAR : Tok}
    (a0 : PySem.W.nsIn K mainGlobals "way_on" = some (some (.ref f0)))
    (l0 : K.lookup f0 = some ⟨oc0, od0, .func (PySem.W.fnOf "way_on" "way_on" (defArgs s_way_on) (defBody s_way_on) (defScope s_way_on) .none kV0 dc0 pm0 an0 cd0 ct0), sl0⟩)
    (c0 : PySem.W.codeIn K cd0 "way_on" = true)
    (k0 : PySem.W.keepIn K (.ref f0) = true)
    (a2 : PySem.W.nsIn K mainGlobals "is_whole" = some (some (.ref f2)))
    (l2 : K.lookup f2 = some ⟨oc2, od2, .func (PySem.W.fnOf "is_whole" "is_whole" (defArgs s_is_whole) (defBody s_is_whole) (defScope s_is_whole) .none kV2 dc2 pm2 an2 cd2 ct2), sl2⟩)
    (c2 : PySem.W.codeIn K cd2 "is_whole" = true)
    (k2 : PySem.W.keepIn K (.ref f2) = true)
    (a3 : PySem.W.nsIn K mainGlobals "has_rail_form" = some (some (.ref f3)))
    (l3 : K.lookup f3 = some ⟨oc3, od3, .func (PySem.W.fnOf "has_rail_form" "has_rail_form" (defArgs s_has_rail_form) (defBody s_has_rail_form) (defScope s_has_rail_form) .none kV3 dc3 pm3 an3 cd3 ct3), sl3⟩)
    (c3 : PySem.W.codeIn K cd3 "has_rail_form" = true)
    (k3 : PySem.W.keepIn K (.ref f3) = true)
    (a4 : PySem.W.nsIn K mainGlobals "has_rails_form" = some (some (.ref f4)))
    (l4 : K.lookup f4 = some ⟨oc4, od4, .func (PySem.W.fnOf "has_rails_form" "has_rails_form" (defArgs s_has_rails_form) (defBody s_has_rails_form) (defScope s_has_rails_form) .none kV4 dc4 pm4 an4 cd4 ct4), sl4⟩)
    (c4 : PySem.W.codeIn K cd4 "has_rails_form" = true)
    (k4 : PySem.W.keepIn K (.ref f4) = true)
    (a5 : PySem.W.nsIn K mainGlobals "has_engine_form" = some (some (.ref f5)))
    (l5 : K.lookup f5 = some ⟨oc5, od5, .func (PySem.W.fnOf "has_engine_form" "has_engine_form" (defArgs s_has_engine_form) (defBody s_has_engine_form) (defScope s_has_engine_form) .none kV5 dc5 pm5 an5 cd5 ct5), sl5⟩)
    (c5 : PySem.W.codeIn K cd5 "has_engine_form" = true)
    (k5 : PySem.W.keepIn K (.ref f5) = true)
    (a6 : PySem.W.nsIn K mainGlobals "look_engine" = some (some (.ref f6)))
    (l6 : K.lookup f6 = some ⟨oc6, od6, .func (PySem.W.fnOf "look_engine" "look_engine" (defArgs s_look_engine) (defBody s_look_engine) (defScope s_look_engine) .none kV6 dc6 pm6 an6 cd6 ct6), sl6⟩)
    (c6 : PySem.W.codeIn K cd6 "look_engine" = true)
    (k6 : PySem.W.keepIn K (.ref f6) = true)
    (a7 : PySem.W.nsIn K mainGlobals "lies_twice" = some (some (.ref f7)))
    (l7 : K.lookup f7 = some ⟨oc7, od7, .func (PySem.W.fnOf "lies_twice" "lies_twice" (defArgs s_lies_twice) (defBody s_lies_twice) (defScope s_lies_twice) .none kV7 dc7 pm7 an7 cd7 ct7), sl7⟩)
    (c7 : PySem.W.codeIn K cd7 "lies_twice" = true)
    (k7 : PySem.W.keepIn K (.ref f7) = true)
    (a8 : PySem.W.nsIn K mainGlobals "walk" = some (some (.ref f8)))
    (l8 : K.lookup f8 = some ⟨oc8, od8, .func (PySem.W.fnOf "walk" "walk" (defArgs s_walk) (defBody s_walk) (defScope s_walk) .none kV8 dc8 pm8 an8 cd8 ct8), sl8⟩)
    (c8 : PySem.W.codeIn K cd8 "walk" = true)
    (k8 : PySem.W.keepIn K (.ref f8) = true)
    (a9 : PySem.W.nsIn K mainGlobals "squares_of" = some (some (.ref f9)))
    (l9 : K.lookup f9 = some ⟨oc9, od9, .func (PySem.W.fnOf "squares_of" "squares_of" (defArgs s_squares_of) (defBody s_squares_of) (defScope s_squares_of) .none kV9 dc9 pm9 an9 cd9 ct9), sl9⟩)
    (c9 : PySem.W.codeIn K cd9 "squares_of" = true)
    (k9 : PySem.W.keepIn K (.ref f9) = true)
    (a10 : PySem.W.nsIn K mainGlobals "_law_box" = some (some (.ref f10)))
    (l10 : K.lookup f10 = some ⟨oc10, od10, .func (PySem.W.fnOf "_law_box" "_law_box" (defArgs s__law_box) (defBody s__law_box) (defScope s__law_box) .none kV10 dc10 pm10 an10 cd10 ct10), sl10⟩)
    (c10 : PySem.W.codeIn K cd10 "_law_box" = true)
    (k10 : PySem.W.keepIn K (.ref f10) = true)
    (a11 : PySem.W.nsIn K mainGlobals "_law_take" = some (some (.ref f11)))
    (l11 : K.lookup f11 = some ⟨oc11, od11, .func (PySem.W.fnOf "_law_take" "_law_take" (defArgs s__law_take) (defBody s__law_take) (defScope s__law_take) .none kV11 dc11 pm11 an11 cd11 ct11), sl11⟩)
    (c11 : PySem.W.codeIn K cd11 "_law_take" = true)
    (k11 : PySem.W.keepIn K (.ref f11) = true)
    (a12 : PySem.W.nsIn K mainGlobals "_law_turned" = some (some (.ref f12)))
    (l12 : K.lookup f12 = some ⟨oc12, od12, .func (PySem.W.fnOf "_law_turned" "_law_turned" (defArgs s__law_turned) (defBody s__law_turned) (defScope s__law_turned) .none kV12 dc12 pm12 an12 cd12 ct12), sl12⟩)
    (c12 : PySem.W.codeIn K cd12 "_law_turned" = true)
    (k12 : PySem.W.keepIn K (.ref f12) = true)
    (a13 : PySem.W.nsIn K mainGlobals "_law_on" = some (some (.ref f13)))
    (l13 : K.lookup f13 = some ⟨oc13, od13, .func (PySem.W.fnOf "_law_on" "_law_on" (defArgs s__law_on) (defBody s__law_on) (defScope s__law_on) .none kV13 dc13 pm13 an13 cd13 ct13), sl13⟩)
    (c13 : PySem.W.codeIn K cd13 "_law_on" = true)
    (k13 : PySem.W.keepIn K (.ref f13) = true)
    (a14 : PySem.W.nsIn K mainGlobals "_law_engine" = some (some (.ref f14)))
    (l14 : K.lookup f14 = some ⟨oc14, od14, .func (PySem.W.fnOf "_law_engine" "_law_engine" (defArgs s__law_engine) (defBody s__law_engine) (defScope s__law_engine) .none kV14 dc14 pm14 an14 cd14 ct14), sl14⟩)
    (c14 : PySem.W.codeIn K cd14 "_law_engine" = true)
    (k14 : PySem.W.keepIn K (.ref f14) = true)
    (a15 : PySem.W.nsIn K mainGlobals "_law_is_whole" = some (some (.ref f15)))
    (l15 : K.lookup f15 = some ⟨oc15, od15, .func (PySem.W.fnOf "_law_is_whole" "_law_is_whole" (defArgs s__law_is_whole) (defBody s__law_is_whole) (defScope s__law_is_whole) .none kV15 dc15 pm15 an15 cd15 ct15), sl15⟩)
    (c15 : PySem.W.codeIn K cd15 "_law_is_whole" = true)
    (k15 : PySem.W.keepIn K (.ref f15) = true)
    (a16 : PySem.W.nsIn K mainGlobals "_law_is_rail" = some (some (.ref f16)))
    (l16 : K.lookup f16 = some ⟨oc16, od16, .func (PySem.W.fnOf "_law_is_rail" "_law_is_rail" (defArgs s__law_is_rail) (defBody s__law_is_rail) (defScope s__law_is_rail) .none kV16 dc16 pm16 an16 cd16 ct16), sl16⟩)
    (c16 : PySem.W.codeIn K cd16 "_law_is_rail" = true)
    (k16 : PySem.W.keepIn K (.ref f16) = true)
    (a17 : PySem.W.nsIn K mainGlobals "_law_has_form" = some (some (.ref f17)))
    (l17 : K.lookup f17 = some ⟨oc17, od17, .func (PySem.W.fnOf "_law_has_form" "_law_has_form" (defArgs s__law_has_form) (defBody s__law_has_form) (defScope s__law_has_form) .none kV17 dc17 pm17 an17 cd17 ct17), sl17⟩)
    (c17 : PySem.W.codeIn K cd17 "_law_has_form" = true)
    (k17 : PySem.W.keepIn K (.ref f17) = true)
    (a18 : PySem.W.nsIn K mainGlobals "_law_due" = some (some (.ref f18)))
    (l18 : K.lookup f18 = some ⟨oc18, od18, .func (PySem.W.fnOf "_law_due" "_law_due" (defArgs s__law_due) (defBody s__law_due) (defScope s__law_due) .none kV18 dc18 pm18 an18 cd18 ct18), sl18⟩)
    (c18 : PySem.W.codeIn K cd18 "_law_due" = true)
    (k18 : PySem.W.keepIn K (.ref f18) = true)
    (a19 : PySem.W.nsIn K mainGlobals "_law_met" = some (some (.ref f19)))
    (l19 : K.lookup f19 = some ⟨oc19, od19, .func (PySem.W.fnOf "_law_met" "_law_met" (defArgs s__law_met) (defBody s__law_met) (defScope s__law_met) .none kV19 dc19 pm19 an19 cd19 ct19), sl19⟩)
    (c19 : PySem.W.codeIn K cd19 "_law_met" = true)
    (k19 : PySem.W.keepIn K (.ref f19) = true)
    (a20 : PySem.W.nsIn K mainGlobals "_law_thing" = some (some (.ref f20)))
    (l20 : K.lookup f20 = some ⟨oc20, od20, .func (PySem.W.fnOf "_law_thing" "_law_thing" (defArgs s__law_thing) (defBody s__law_thing) (defScope s__law_thing) .none kV20 dc20 pm20 an20 cd20 ct20), sl20⟩)
    (c20 : PySem.W.codeIn K cd20 "_law_thing" = true)
    (k20 : PySem.W.keepIn K (.ref f20) = true)
    (a21 : PySem.W.nsIn K mainGlobals "_law_spoilt" = some (some (.ref f21)))
    (l21 : K.lookup f21 = some ⟨oc21, od21, .func (PySem.W.fnOf "_law_spoilt" "_law_spoilt" (defArgs s__law_spoilt) (defBody s__law_spoilt) (defScope s__law_spoilt) .none kV21 dc21 pm21 an21 cd21 ct21), sl21⟩)
    (c21 : PySem.W.codeIn K cd21 "_law_spoilt" = true)
    (k21 : PySem.W.keepIn K (.ref f21) = true)
    (a22 : PySem.W.nsIn K mainGlobals "law" = some (some (.ref f22)))
    (l22 : K.lookup f22 = some ⟨oc22, od22, .func (PySem.W.fnOf "law" "law" (defArgs s_law) (defBody s_law) (defScope s_law) .none kV22 dc22 pm22 an22 cd22 ct22), sl22⟩)
    (c22 : PySem.W.codeIn K cd22 "law" = true)
    (k22 : PySem.W.keepIn K (.ref f22) = true)
    (z0 : PySem.W.nsIn K mainGlobals "abs" = some none)
    (z1 : PySem.W.nsIn K mainGlobals "all" = some none)
    (z2 : PySem.W.nsIn K mainGlobals "any" = some none)
    (z3 : PySem.W.nsIn K mainGlobals "bool" = some none)
    (z4 : PySem.W.nsIn K mainGlobals "int" = some none)
    (z5 : PySem.W.nsIn K mainGlobals "isinstance" = some none)
    (z6 : PySem.W.nsIn K mainGlobals "len" = some none)
    (z7 : PySem.W.nsIn K mainGlobals "max" = some none)
    (z8 : PySem.W.nsIn K mainGlobals "min" = some none)
    (z9 : PySem.W.nsIn K mainGlobals "range" = some none)
    (z10 : PySem.W.nsIn K mainGlobals "set" = some none)
    (z11 : PySem.W.nsIn K mainGlobals "str" = some none)
    (z12 : PySem.W.nsIn K mainGlobals "tuple" = some none)
    (ta : PySem.W.nsIn K mainGlobals "TURNS" = some (some (.ref tA)))
    (tl : K.lookup tA = some ⟨.type "dict", none, .dict #[⟨th1, .str "l" tu1, .int (-1) tt1⟩, ⟨th2, .str "s" tu2, .int 0 tt2⟩, ⟨th3, .str "r" tu3, .int 1 tt3⟩] tnn, #[]⟩)
    (tk : PySem.W.KeysLit w.params (#[⟨th1, .str "l" tu1, .int (-1) tt1⟩, ⟨th2, .str "s" tu2, .int 0 tt2⟩, ⟨th3, .str "r" tu3, .int 1 tt3⟩] : Array DictEntry).toList)
    (tw : (tA == sysModules) = false)
    (sa : PySem.W.nsIn K mainGlobals "STEPS" = some (some (.ref sA)))
    (sl : K.lookup sA = some ⟨.type "tuple", sd, .seq #[.ref sB0, .ref sB1, .ref sB2, .ref sB3] sn, ss⟩)
    (s0 : K.lookup sB0 = some ⟨.type "tuple", sd0, .seq #[.int (0) su0, .int (1) sv0] sn0, ss0⟩)
    (s1 : K.lookup sB1 = some ⟨.type "tuple", sd1, .seq #[.int (1) su1, .int (0) sv1] sn1, ss1⟩)
    (s2 : K.lookup sB2 = some ⟨.type "tuple", sd2, .seq #[.int (0) su2, .int (-1) sv2] sn2, ss2⟩)
    (s3 : K.lookup sB3 = some ⟨.type "tuple", sd3, .seq #[.int (-1) su3, .int (0) sv3] sn3, ss3⟩)
    (oa : PySem.W.nsIn K mainGlobals "onward" = some (some (.ref oF)))
    (ol : K.lookup oF = some ⟨ooc, ood, .func (PySem.W.fnOf "onward" "onward" (defArgs s_onward) (defBody s_onward) (defScope s_onward) .none (.ref oD) odc opm oan ocd oct), osl⟩)
    (oc : PySem.W.codeIn K ocd "onward" = true)
    (ok : PySem.W.keepIn K (.ref oF) = true)
    (od : PySem.W.nsIn K oD "steps" = some (some (.int 1 otk)))
    (e2g : PySem.W.nsIn K mainGlobals "NoEngine" = some (some (.ref e2C)))
    (e2l : K.lookup e2C = some (excClassObj e2nm e2q e2C e2N e2bs [.ref e2R0, .type "ValueError", .type "Exception", .type "BaseException", .type "object"] true e2sn e2sub e2ab e2col e2dd e2m0 e2m1 e2m2 e2m3 e2m5 "ValueError.__new__"))
    (e2sa : PySem.W.findIn K (.ref e2C) "__setattr__" = some (some (.builtin "object.__setattr__")))
    (e2ga : PySem.W.findIn K (.ref e2C) "__getattribute__" = some (some (.builtin "BaseException.__getattribute__")))
    (e2gg : PySem.W.findIn K (.ref e2C) "__getattr__" = some none)
    (e2in : PySem.W.findIn K (.ref e2C) "__init__" = some (some (.ref e2I)))
    (e2ti : PySem.W.typeIn K (.ref e2I) = some (.type "function"))
    (e2fl : K.lookup e2I = some ⟨e2oc, e2od, .func (PySem.W.fnOf "__init__" "NoEngine.__init__" (defArgs s_NoEngine) (defBody s_NoEngine) (defScope s_NoEngine) .none e2kV e2dc e2pm e2an e2cd e2ct), e2sl⟩)
    (e2fc : PySem.W.codeIn K e2cd "NoEngine.__init__" = true)
    (e2fk : PySem.W.keepIn K (.ref e2I) = true)
    (e2kC : PySem.W.keepIn K (.ref e2C) = true)
    (e2eC : PySem.W.subIn K (.ref e2C) (.type "BaseException") = some true)
    (e2tC : PySem.W.typeIn K (.ref e2C) = some (.type "type"))
    (e2hC : PySem.W.hasDictIn K e2C = true)
    (e2iC : PySem.W.isClsIn K e2C = true)
    (e2sC : PySem.W.subIn K (.ref e2C) (.ref e2C) = some true)
    (e2nword : PySem.W.findIn K (.ref e2C) "word" = some none)
    (ccRAILS : PySem.W.nsIn K mainGlobals "RAILS" = some (some (.int 12 cTRAILS)))
    (ccCOLOURS : PySem.W.nsIn K mainGlobals "COLOURS" = some (some (.int 10 cTCOLOURS)))
    (ccFAR : PySem.W.nsIn K mainGlobals "FAR" = some (some (.int 1000000000 cTFAR)))
    : ∃ fd : FuncData, (∀ (s : Shared) (v : Value), BindsTo s fd ⟨[v], []⟩ [("_law_script", v)]) ∧ ∀ base : Heap, K.In base → base.Ns mainGlobals mg → FnOk l.prog w K mg base CX0 9 fa fd ["_law_script"] (spLaw K) := by
  have e := hfa.symm.trans (PySem.W.mg_of X G a22)
  cases e
  have FO : FunD K "onward" "onward" (defArgs s_onward) (defBody s_onward) (defScope s_onward) [] [("steps", .int 1)] oF (PySem.W.fnOf "onward" "onward" (defArgs s_onward) (defBody s_onward) (defScope s_onward) .none (.ref oD) odc opm oan ocd oct) :=
    ⟨⟨_, _, _, _, _, _, _, _, _, _, rfl, ol, oc, .inl ⟨rfl, rfl⟩, .inr ⟨oD, rfl, fun q hq => by
      cases List.mem_singleton.mp hq
      exact ⟨_, od, ⟨_, rfl⟩⟩⟩⟩, ok⟩
  obtain ⟨ods, ovs, obs⟩ := FO.binds0 (ps := ["square", "way", "steps"]) 2 (by simp) rfl (fun D doc pm an cdv ct us ks h1 h2 => match us, ks, h1, h2 with
    | [_, _], [_], _, _ => ⟨_, _, _, _, _, _, rfl, rfl, rfl⟩)

  have T : Txt K w mg := { f_way_on := f0, fd_way_on := _, F_way_on := fun_mk (st := s_way_on) l0 c0 k0, b_way_on := (fun_mk (st := s_way_on) l0 c0 k0).binds (ps := ["way", "shape"]) (fun _ _ _ _ _ _ us hl => match us, hl with | [_, _], _ => rfl), g_way_on := PySem.W.mg_of X G a0, f_is_whole := f2, fd_is_whole := _, F_is_whole := fun_mk (st := s_is_whole) l2 c2 k2, b_is_whole := (fun_mk (st := s_is_whole) l2 c2 k2).binds (ps := ["thing"]) (fun _ _ _ _ _ _ us hl => match us, hl with | [_], _ => rfl), g_is_whole := PySem.W.mg_of X G a2, f_has_rail_form := f3, fd_has_rail_form := _, F_has_rail_form := fun_mk (st := s_has_rail_form) l3 c3 k3, b_has_rail_form := (fun_mk (st := s_has_rail_form) l3 c3 k3).binds (ps := ["thing"]) (fun _ _ _ _ _ _ us hl => match us, hl with | [_], _ => rfl), g_has_rail_form := PySem.W.mg_of X G a3, f_has_rails_form := f4, fd_has_rails_form := _, F_has_rails_form := fun_mk (st := s_has_rails_form) l4 c4 k4, b_has_rails_form := (fun_mk (st := s_has_rails_form) l4 c4 k4).binds (ps := ["thing"]) (fun _ _ _ _ _ _ us hl => match us, hl with | [_], _ => rfl), g_has_rails_form := PySem.W.mg_of X G a4, f_has_engine_form := f5, fd_has_engine_form := _, F_has_engine_form := fun_mk (st := s_has_engine_form) l5 c5 k5, b_has_engine_form := (fun_mk (st := s_has_engine_form) l5 c5 k5).binds (ps := ["thing"]) (fun _ _ _ _ _ _ us hl => match us, hl with | [_], _ => rfl), g_has_engine_form := PySem.W.mg_of X G a5, f_look_engine := f6, fd_look_engine := _, F_look_engine := fun_mk (st := s_look_engine) l6 c6 k6, b_look_engine := (fun_mk (st := s_look_engine) l6 c6 k6).binds (ps := ["thing"]) (fun _ _ _ _ _ _ us hl => match us, hl with | [_], _ => rfl), g_look_engine := PySem.W.mg_of X G a6, f_lies_twice := f7, fd_lies_twice := _, F_lies_twice := fun_mk (st := s_lies_twice) l7 c7 k7, b_lies_twice := (fun_mk (st := s_lies_twice) l7 c7 k7).binds (ps := ["engine"]) (fun _ _ _ _ _ _ us hl => match us, hl with | [_], _ => rfl), g_lies_twice := PySem.W.mg_of X G a7, f_walk := f8, fd_walk := _, F_walk := fun_mk (st := s_walk) l8 c8 k8, b_walk := (fun_mk (st := s_walk) l8 c8 k8).binds (ps := ["engine", "many"]) (fun _ _ _ _ _ _ us hl => match us, hl with | [_, _], _ => rfl), g_walk := PySem.W.mg_of X G a8, f_squares_of := f9, fd_squares_of := _, F_squares_of := fun_mk (st := s_squares_of) l9 c9 k9, b_squares_of := (fun_mk (st := s_squares_of) l9 c9 k9).binds (ps := ["engine"]) (fun _ _ _ _ _ _ us hl => match us, hl with | [_], _ => rfl), g_squares_of := PySem.W.mg_of X G a9, f__law_box := f10, fd__law_box := _, F__law_box := fun_mk (st := s__law_box) l10 c10 k10, b__law_box := (fun_mk (st := s__law_box) l10 c10 k10).binds (ps := ["_law_script", "_law_k"]) (fun _ _ _ _ _ _ us hl => match us, hl with | [_, _], _ => rfl), g__law_box := PySem.W.mg_of X G a10, f__law_take := f11, fd__law_take := _, F__law_take := fun_mk (st := s__law_take) l11 c11 k11, b__law_take := (fun_mk (st := s__law_take) l11 c11 k11).binds (ps := ["_law_box_here", "_law_many"]) (fun _ _ _ _ _ _ us hl => match us, hl with | [_, _], _ => rfl), g__law_take := PySem.W.mg_of X G a11, f__law_turned := f12, fd__law_turned := _, F__law_turned := fun_mk (st := s__law_turned) l12 c12 k12, b__law_turned := (fun_mk (st := s__law_turned) l12 c12 k12).binds (ps := ["_law_way", "_law_shape"]) (fun _ _ _ _ _ _ us hl => match us, hl with | [_, _], _ => rfl), g__law_turned := PySem.W.mg_of X G a12, f__law_on := f13, fd__law_on := _, F__law_on := fun_mk (st := s__law_on) l13 c13 k13, b__law_on := (fun_mk (st := s__law_on) l13 c13 k13).binds (ps := ["_law_square", "_law_way"]) (fun _ _ _ _ _ _ us hl => match us, hl with | [_, _], _ => rfl), g__law_on := PySem.W.mg_of X G a13, f__law_engine := f14, fd__law_engine := _, F__law_engine := fun_mk (st := s__law_engine) l14 c14 k14, b__law_engine := (fun_mk (st := s__law_engine) l14 c14 k14).binds (ps := ["_law_box_here", "_law_many", "_law_far"]) (fun _ _ _ _ _ _ us hl => match us, hl with | [_, _, _], _ => rfl), g__law_engine := PySem.W.mg_of X G a14, f__law_is_whole := f15, fd__law_is_whole := _, F__law_is_whole := fun_mk (st := s__law_is_whole) l15 c15 k15, b__law_is_whole := (fun_mk (st := s__law_is_whole) l15 c15 k15).binds (ps := ["_law_thing_here"]) (fun _ _ _ _ _ _ us hl => match us, hl with | [_], _ => rfl), g__law_is_whole := PySem.W.mg_of X G a15, f__law_is_rail := f16, fd__law_is_rail := _, F__law_is_rail := fun_mk (st := s__law_is_rail) l16 c16 k16, b__law_is_rail := (fun_mk (st := s__law_is_rail) l16 c16 k16).binds (ps := ["_law_thing_here"]) (fun _ _ _ _ _ _ us hl => match us, hl with | [_], _ => rfl), g__law_is_rail := PySem.W.mg_of X G a16, f__law_has_form := f17, fd__law_has_form := _, F__law_has_form := fun_mk (st := s__law_has_form) l17 c17 k17, b__law_has_form := (fun_mk (st := s__law_has_form) l17 c17 k17).binds (ps := ["_law_thing_here"]) (fun _ _ _ _ _ _ us hl => match us, hl with | [_], _ => rfl), g__law_has_form := PySem.W.mg_of X G a17, f__law_due := f18, fd__law_due := _, F__law_due := fun_mk (st := s__law_due) l18 c18 k18, b__law_due := (fun_mk (st := s__law_due) l18 c18 k18).binds (ps := ["_law_thing_here"]) (fun _ _ _ _ _ _ us hl => match us, hl with | [_], _ => rfl), g__law_due := PySem.W.mg_of X G a18, f__law_met := f19, fd__law_met := _, F__law_met := fun_mk (st := s__law_met) l19 c19 k19, b__law_met := (fun_mk (st := s__law_met) l19 c19 k19).binds (ps := ["_law_thing_here"]) (fun _ _ _ _ _ _ us hl => match us, hl with | [_], _ => rfl), g__law_met := PySem.W.mg_of X G a19, f__law_thing := f20, fd__law_thing := _, F__law_thing := fun_mk (st := s__law_thing) l20 c20 k20, b__law_thing := (fun_mk (st := s__law_thing) l20 c20 k20).binds (ps := ["_law_box_here", "_law_thing_here"]) (fun _ _ _ _ _ _ us hl => match us, hl with | [_, _], _ => rfl), g__law_thing := PySem.W.mg_of X G a20, f__law_spoilt := f21, fd__law_spoilt := _, F__law_spoilt := fun_mk (st := s__law_spoilt) l21 c21 k21, b__law_spoilt := (fun_mk (st := s__law_spoilt) l21 c21 k21).binds (ps := ["_law_box_here", "_law_engine_here"]) (fun _ _ _ _ _ _ us hl => match us, hl with | [_, _], _ => rfl), g__law_spoilt := PySem.W.mg_of X G a21, m_abs := PySem.W.mg_none_of X G z0, m_all := PySem.W.mg_none_of X G z1, m_any := PySem.W.mg_none_of X G z2, m_bool := PySem.W.mg_none_of X G z3, m_int := PySem.W.mg_none_of X G z4, m_isinstance := PySem.W.mg_none_of X G z5, m_len := PySem.W.mg_none_of X G z6, m_max := PySem.W.mg_none_of X G z7, m_min := PySem.W.mg_none_of X G z8, m_range := PySem.W.mg_none_of X G z9, m_set := PySem.W.mg_none_of X G z10, m_str := PySem.W.mg_none_of X G z11, m_tuple := PySem.W.mg_none_of X G z12, a_TURNS := tA, g_TURNS := PySem.W.mg_of X G ta, TURNS := fun s => match s with | .l => ⟨_, _, _, tl, tk, turns_is tl .l, ⟨_, rfl⟩⟩ | .s => ⟨_, _, _, tl, tk, turns_is tl .s, ⟨_, rfl⟩⟩ | .r => ⟨_, _, _, tl, tk, turns_is tl .r, ⟨_, rfl⟩⟩, kd_TURNS := ⟨_, _, tl, tk, tw⟩, in_TURNS := fun z => turns_in tl z, a_STEPS := sA, g_STEPS := PySem.W.mg_of X G sa, STEPS := fun H => .tup (xs := [.ref sB0, .ref sB1, .ref sB2, .ref sB3]) (.inr ⟨_, _, _, sl, rfl, rfl, (show 4 ≤ sizeLine by decide), .cons rfl (.cons rfl (.cons rfl (.cons rfl .nil)))⟩) (.cons (.tup (xs := [.int (0), .int (1)]) (.inr ⟨_, _, _, s0, rfl, rfl, (show 2 ≤ sizeLine by decide), .cons ⟨_, rfl⟩ (.cons ⟨_, rfl⟩ .nil)⟩) (.cons (.int (0)) (.cons (.int (1)) .nil))) (.cons (.tup (xs := [.int (1), .int (0)]) (.inr ⟨_, _, _, s1, rfl, rfl, (show 2 ≤ sizeLine by decide), .cons ⟨_, rfl⟩ (.cons ⟨_, rfl⟩ .nil)⟩) (.cons (.int (1)) (.cons (.int (0)) .nil))) (.cons (.tup (xs := [.int (0), .int (-1)]) (.inr ⟨_, _, _, s2, rfl, rfl, (show 2 ≤ sizeLine by decide), .cons ⟨_, rfl⟩ (.cons ⟨_, rfl⟩ .nil)⟩) (.cons (.int (0)) (.cons (.int (-1)) .nil))) (.cons (.tup (xs := [.int (-1), .int (0)]) (.inr ⟨_, _, _, s3, rfl, rfl, (show 2 ≤ sizeLine by decide), .cons ⟨_, rfl⟩ (.cons ⟨_, rfl⟩ .nil)⟩) (.cons (.int (-1)) (.cons (.int (0)) .nil))) .nil)))), f_onward := oF, fd_onward := _, F_onward := FO, ds_onward := ods, v_onward := ovs, b_onward := obs, g_onward := PySem.W.mg_of X G oa, a_NoEngine := e2C, g_NoEngine := PySem.W.mg_of X G e2g, x_NoEngine := ⟨⟨e2nm, e2q, e2N, e2bs, _, e2sn, e2sub, e2ab, e2col, e2dd, e2m0, e2m1, e2m2, e2m3, e2m5, e2l, by rfl⟩, e2sa, e2eC, e2tC, e2kC⟩, xf_NoEngine := ⟨e2ga, e2gg, e2eC, e2hC⟩, i_NoEngine := e2I, ic_NoEngine := e2in, it_NoEngine := e2ti, id_NoEngine := _, F_NoEngine := fun_mk (st := s_NoEngine) e2fl e2fc e2fk, b_NoEngine := (fun_mk (st := s_NoEngine) e2fl e2fc e2fk).binds (ps := ["self", "word"]) (fun _ _ _ _ _ _ us hl => match us, hl with | [_, _], _ => rfl), te_NoEngine := exm_own e2eC e2iC e2tC e2sC, n_NoEngine_word := e2nword, k_RAILS := cTRAILS, g_RAILS := PySem.W.mg_of X G ccRAILS, k_COLOURS := cTCOLOURS, g_COLOURS := PySem.W.mg_of X G ccCOLOURS, k_FAR := cTFAR, g_FAR := PySem.W.mg_of X G ccFAR }
  exact ⟨PySem.W.fnOf "law" "law" (defArgs s_law) (defBody s_law) (defScope s_law) .none kV22 dc22 pm22 an22 cd22 ct22, fun s v => .of_eq rfl, fun base _ _ => ok_law T (fun_mk (st := s_law) l22 c22 k22)⟩
end K03
open PySem PySem.W PyProof.Rows
set_option maxHeartbeats 0 in
theorem PySem.Challenge.cw_ownrail_k03_things_that_are_engines_holds : PySem.Challenge.rw_ownrail_k03_things_that_are_engines.Holds := by
  w_on; o_law; k_head; (case hw => w_witness2)
  k_fill
  refine L2.walk_of (l := PySem.Challenge.rw_ownrail_k03_things_that_are_engines) (n := 63) (k := 9) (x := "_law_script") (CX := fun _ => L2.CX0) (sp := fun w => OR.spLaw _) rfl (by decide) rfl ⟨rfl, by decide, by decide⟩ (fun w h Y => PySem.W.kIn_of Y) ?F (fun _ _ a ns hl _ hS => ⟨a, ns, rfl, hS, hl, fun _ => rfl⟩) (fun _ _ _ _ _ h => h)
  case F =>
    intro w mg fa h KX G hmg
    refine' K03.all_mk KX G hmg ?a0 ?l0 ?c0 ?k0 ?a2 ?l2 ?c2 ?k2 ?a3 ?l3 ?c3 ?k3 ?a4 ?l4 ?c4 ?k4 ?a5 ?l5 ?c5 ?k5 ?a6 ?l6 ?c6 ?k6 ?a7 ?l7 ?c7 ?k7 ?a8 ?l8 ?c8 ?k8 ?a9 ?l9 ?c9 ?k9 ?a10 ?l10 ?c10 ?k10 ?a11 ?l11 ?c11 ?k11 ?a12 ?l12 ?c12 ?k12 ?a13 ?l13 ?c13 ?k13 ?a14 ?l14 ?c14 ?k14 ?a15 ?l15 ?c15 ?k15 ?a16 ?l16 ?c16 ?k16 ?a17 ?l17 ?c17 ?k17 ?a18 ?l18 ?c18 ?k18 ?a19 ?l19 ?c19 ?k19 ?a20 ?l20 ?c20 ?k20 ?a21 ?l21 ?c21 ?k21 ?a22 ?l22 ?c22 ?k22 ?z0 ?z1 ?z2 ?z3 ?z4 ?z5 ?z6 ?z7 ?z8 ?z9 ?z10 ?z11 ?z12 ?ta ?tl ?tk ?tw ?sa ?sl ?s0 ?s1 ?s2 ?s3 ?oa ?ol ?oc ?ok ?od ?e2g ?e2l ?e2sa ?e2ga ?e2gg ?e2in ?e2ti ?e2fl ?e2fc ?e2fk ?e2kC ?e2eC ?e2tC ?e2hC ?e2iC ?e2sC ?e2nword ?ccRAILS ?ccCOLOURS ?ccFAR
    (case a0 => k_is)
    (case l0 => k_is)
    (case c0 => k_is)
    (case k0 => k_is)
    (case a2 => k_is)
    (case l2 => k_is)
    (case c2 => k_is)
    (case k2 => k_is)
    (case a3 => k_is)
    (case l3 => k_is)
    (case c3 => k_is)
    (case k3 => k_is)
    (case a4 => k_is)
    (case l4 => k_is)
    (case c4 => k_is)
    (case k4 => k_is)
    (case a5 => k_is)
    (case l5 => k_is)
    (case c5 => k_is)
    (case k5 => k_is)
    (case a6 => k_is)
    (case l6 => k_is)
    (case c6 => k_is)
    (case k6 => k_is)
    (case a7 => k_is)
    (case l7 => k_is)
    (case c7 => k_is)
    (case k7 => k_is)
    (case a8 => k_is)
    (case l8 => k_is)
    (case c8 => k_is)
    (case k8 => k_is)
    (case a9 => k_is)
    (case l9 => k_is)
    (case c9 => k_is)
    (case k9 => k_is)
    (case a10 => k_is)
    (case l10 => k_is)
    (case c10 => k_is)
    (case k10 => k_is)
    (case a11 => k_is)
    (case l11 => k_is)
    (case c11 => k_is)
    (case k11 => k_is)
    (case a12 => k_is)
    (case l12 => k_is)
    (case c12 => k_is)
    (case k12 => k_is)
    (case a13 => k_is)
    (case l13 => k_is)
    (case c13 => k_is)
    (case k13 => k_is)
    (case a14 => k_is)
    (case l14 => k_is)
    (case c14 => k_is)
    (case k14 => k_is)
    (case a15 => k_is)
    (case l15 => k_is)
    (case c15 => k_is)
    (case k15 => k_is)
    (case a16 => k_is)
    (case l16 => k_is)
    (case c16 => k_is)
    (case k16 => k_is)
    (case a17 => k_is)
    (case l17 => k_is)
    (case c17 => k_is)
    (case k17 => k_is)
    (case a18 => k_is)
    (case l18 => k_is)
    (case c18 => k_is)
    (case k18 => k_is)
    (case a19 => k_is)
    (case l19 => k_is)
    (case c19 => k_is)
    (case k19 => k_is)
    (case a20 => k_is)
    (case l20 => k_is)
    (case c20 => k_is)
    (case k20 => k_is)
    (case a21 => k_is)
    (case l21 => k_is)
    (case c21 => k_is)
    (case k21 => k_is)
    (case a22 => k_is)
    (case l22 => k_is)
    (case c22 => k_is)
    (case k22 => k_is)
    (case z0 => k_is)
    (case z1 => k_is)
    (case z2 => k_is)
    (case z3 => k_is)
    (case z4 => k_is)
    (case z5 => k_is)
    (case z6 => k_is)
    (case z7 => k_is)
    (case z8 => k_is)
    (case z9 => k_is)
    (case z10 => k_is)
    (case z11 => k_is)
    (case z12 => k_is)
    (case ta => k_is)
    (case tl => k_is)
    (case tk => k_keys)
    (case tw => first | rfl | decide)
    (case sa => k_is)
    (case sl => k_is)
    (case s0 => k_is)
    (case s1 => k_is)
    (case s2 => k_is)
    (case s3 => k_is)
    (case oa => k_is)
    (case ol => k_is)
    (case oc => k_is)
    (case ok => k_is)
    (case od => k_is)
    (case e2g => k_is)
    (case e2l => k_is)
    (case e2sa => k_is)
    (case e2ga => k_is)
    (case e2gg => k_is)
    (case e2in => k_is)
    (case e2ti => k_is)
    (case e2fl => k_is)
    (case e2fc => k_is)
    (case e2fk => k_is)
    (case e2kC => k_is)
    (case e2eC => k_is)
    (case e2tC => k_is)
    (case e2hC => k_is)
    (case e2iC => k_is)
    (case e2sC => first | rfl | k_is)
    (case e2nword => k_is)
    (case ccRAILS => k_is)
    (case ccCOLOURS => k_is)
    (case ccFAR => k_is)
