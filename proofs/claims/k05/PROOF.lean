import PyProof.Rows.All
import Wide.All
import OpenK.AllK
import Wide.FinOn
import HandS.ForMost
import HandS.Wide
import HandS.Deep
import HandS.Zip
import HandS.IsInst
import HandS.Defaults
import HandS.More
import HandS.Style
import HandS.Evl
import HandS.TupAny
import HandS.MakeKwOnly
import HandS.RaiseMore
import HandS.Replace
import PyProof.ReprBulk
import PySem.Challenge.RW_ownrail_k05_gone_on_and_turned
set_option Elab.async false
set_option linter.all false
set_option maxRecDepth 100000
set_option maxHeartbeats 4000000
/-! what every proof here leans on: data made of tuples, which no store can change -/
namespace OR
open PySem PySem.Spec PyProof.Rows L2

theorem hu65 {A : Around} {k : Nat} (hr : Room k A) : A.units + 65 < cLine := by
  have := hr.un
  omega

/-! ### tuples stay -/
def Tk (H H' : Hp) : Prop := ∀ a xs, Rd H a (.tup xs) → Rd H' a (.tup xs)
theorem Tk.refl (H : Hp) : Tk H H := fun _ _ h => h
theorem Tk.trans {H H1 H2 : Hp} (a : Tk H H1) (b : Tk H1 H2) : Tk H H2 := fun x o h => b x o (a x o h)
theorem tk_same {H H' : Hp} (e : Same H H') : Tk H H' := fun a xs h => by
  rcases h with h | ⟨o, h⟩
  · exact .inl (e _ _ h)
  · exact .inr ⟨o, e _ _ h⟩
theorem tk_seq {K : PySem.W.Frag} {H H' : Hp} {a : Addr} {xs : List V} (e : Tk H H') (h : SqT K H a xs) : SqT K H' a xs := by
  rcases h with h | h
  · exact .inl (e _ _ h)
  · exact .inr h
theorem same_new {H : Hp} {p : Addr} {o : HO} (h : H p = none) : Same H (upd H p o) := fun b x e => by
  rw [upd_ne (ne_of_none e h)]
  exact e
theorem tk_new {H : Hp} {p : Addr} {o : HO} (h : H p = none) : Tk H (upd H p o) := tk_same (same_new h)
/-- all but the object at b is as it was -/
def But (b : Addr) (H H' : Hp) : Prop := ∀ a o, a ≠ b → H a = some o → H' a = some o
theorem But.refl (b : Addr) (H : Hp) : But b H H := fun _ _ _ h => h
theorem But.trans {b : Addr} {H H1 H2 : Hp} (x : But b H H1) (y : But b H1 H2) : But b H H2 := fun a o n h => y a o n (x a o n h)
theorem but_same {b : Addr} {H H' : Hp} (e : Same H H') : But b H H' := fun a o _ h => e a o h
theorem but_set {b : Addr} {H : Hp} {o : HO} : But b H (upd H b o) := fun a u n h => by
  rw [upd_ne n]
  exact h
theorem tk_set {H : Hp} {b : Addr} {xs : List V} {o : HO} (hb : H b = some (.lst xs)) : Tk H (upd H b o) := fun a ys h => by
  have n : a ≠ b := fun z => by
    subst z
    rcases h with h | ⟨u, h⟩
    · rw [hb] at h
      cases h
    · rw [hb] at h
      cases h
  rcases h with h | ⟨u, h⟩
  · exact .inl (by rw [upd_ne n]; exact h)
  · exact .inr ⟨u, by rw [upd_ne n]; exact h⟩
theorem tk_but {H H' : Hp} {b : Addr} {xs : List V} (hb : H b = some (.lst xs)) (e : But b H H') : Tk H H' := fun a ys h => by
  have n : a ≠ b := fun z => by
    subst z
    rcases h with h | ⟨u, h⟩
    · rw [hb] at h
      cases h
    · rw [hb] at h
      cases h
  rcases h with h | ⟨u, h⟩
  · exact .inl (e _ _ n h)
  · exact .inr ⟨u, e _ _ n h⟩

/-! ### data of tuples, ints, texts, truths, None -/
mutual
inductive DT (K : PySem.W.Frag) (H : Hp) : V → PyData → Prop
  | non : DT K H .non .none
  | bl (b : Bool) : DT K H (.bl b) (.bool b)
  | int (i : Int) : DT K H (.int i) (.int i)
  | str (x : Str) : DT K H (.str x) (.str x)
  | tup {a : Addr} {xs : List V} {ds : List PyData} : SqT K H a xs → DTs K H xs ds → DT K H (.ref a) (.tuple ds)
inductive DTs (K : PySem.W.Frag) (H : Hp) : List V → List PyData → Prop
  | nil : DTs K H [] []
  | cons {v : V} {vs : List V} {d : PyData} {ds : List PyData} : DT K H v d → DTs K H vs ds → DTs K H (v :: vs) (d :: ds)
end
section
variable {K : PySem.W.Frag} {H H' : Hp}
mutual
theorem DT.mono (e : Tk H H') : ∀ (d : PyData) (v : V), DT K H v d → DT K H' v d
  | .none, _, h => by cases h; exact .non
  | .bool b, _, h => by cases h; exact .bl b
  | .int i, _, h => by cases h; exact .int i
  | .str x, _, h => by cases h; exact .str x
  | .tuple ds, _, h => by
    cases h with
    | tup hs ha => exact .tup (tk_seq e hs) (DTs.mono e ds _ ha)
  | .list _, _, h => by cases h
  | .dict _, _, h => by cases h
theorem DTs.mono (e : Tk H H') : ∀ (ds : List PyData) (vs : List V), DTs K H vs ds → DTs K H' vs ds
  | [], _, h => by cases h; exact .nil
  | d :: ds, _, h => by
    cases h with
    | cons h1 h2 => exact .cons (DT.mono e d _ h1) (DTs.mono e ds _ h2)
end
mutual
theorem DT.dp : ∀ (d : PyData) (v : V), DT K H v d → Dp K H v d
  | .none, _, h => by cases h; exact .non
  | .bool b, _, h => by cases h; exact .bl b
  | .int i, _, h => by cases h; exact .int i
  | .str x, _, h => by cases h; exact .str x
  | .tuple ds, _, h => by
    cases h with
    | tup hs ha => exact .tup hs (DTs.dp ds _ ha)
  | .list _, _, h => by cases h
  | .dict _, _, h => by cases h
theorem DTs.dp : ∀ (ds : List PyData) (vs : List V), DTs K H vs ds → DpAll K H vs ds
  | [], _, h => by cases h; exact .nil
  | d :: ds, _, h => by
    cases h with
    | cons h1 h2 => exact .cons (DT.dp d _ h1) (DTs.dp ds _ h2)
end
theorem DT.up {v : V} {d : PyData} (h : DT K H v d) (e : Tk H H') : DT K H' v d := DT.mono e d v h
theorem DTs.up {vs : List V} {ds : List PyData} (h : DTs K H vs ds) (e : Tk H H') : DTs K H' vs ds := DTs.mono e ds vs h
theorem DTs.length {vs : List V} : ∀ {ds : List PyData}, DTs K H vs ds → vs.length = ds.length := by
  induction vs with
  | nil => intro ds h; cases h; rfl
  | cons v vs ih =>
    intro ds h
    cases h with
    | cons h1 h2 => rw [List.length_cons, List.length_cons, ih h2]
theorem DTs.get {vs : List V} : ∀ {ds : List PyData} {i : Nat} {d : PyData}, DTs K H vs ds → ds[i]? = some d → ∃ v, vs[i]? = some v ∧ DT K H v d := by
  induction vs with
  | nil => intro ds i d h e; cases h; simp at e
  | cons v vs ih =>
    intro ds i d h e
    cases h with
    | cons h1 h2 =>
      cases i with
      | zero => simp at e; subst e; exact ⟨v, rfl, h1⟩
      | succ i =>
        obtain ⟨u, q1, q2⟩ := ih h2 (i := i) (d := d) (by simpa using e)
        exact ⟨u, by simpa using q1, q2⟩
theorem DTs.getV {vs : List V} : ∀ {ds : List PyData} {i : Nat} {v : V}, DTs K H vs ds → vs[i]? = some v → ∃ d, ds[i]? = some d ∧ DT K H v d := by
  induction vs with
  | nil => intro ds i d h e; simp at e
  | cons u vs ih =>
    intro ds i d h e
    cases h with
    | cons h1 h2 =>
      cases i with
      | zero => simp at e; subst e; exact ⟨_, rfl, h1⟩
      | succ i =>
        obtain ⟨u, q1, q2⟩ := ih h2 (i := i) (v := d) (by simpa using e)
        exact ⟨u, by simpa using q1, q2⟩
theorem DTs.append {vs ws : List V} {ds es : List PyData} (h : DTs K H vs ds) (h2 : DTs K H ws es) : DTs K H (vs ++ ws) (ds ++ es) := by
  induction vs generalizing ds with
  | nil => cases h; exact h2
  | cons v vs ih =>
    cases h with
    | cons a b => exact .cons a (ih b)
theorem DTs.take {vs : List V} {ds : List PyData} (n : Nat) (h : DTs K H vs ds) : DTs K H (vs.take n) (ds.take n) := by
  induction vs generalizing ds n with
  | nil => cases h; rw [List.take_nil, List.take_nil]; exact .nil
  | cons v vs ih =>
    cases h with
    | cons a b =>
      cases n with
      | zero => exact .nil
      | succ n => exact .cons a (ih n b)
theorem DTs.drop {vs : List V} {ds : List PyData} (n : Nat) (h : DTs K H vs ds) : DTs K H (vs.drop n) (ds.drop n) := by
  induction vs generalizing ds n with
  | nil => cases h; rw [List.drop_nil, List.drop_nil]; exact .nil
  | cons v vs ih =>
    cases h with
    | cons a b =>
      cases n with
      | zero => exact .cons a b
      | succ n => exact ih n b
theorem DT.tupOf {v : V} {ds : List PyData} (h : DT K H v (.tuple ds)) : ∃ a xs, v = .ref a ∧ SqT K H a xs ∧ DTs K H xs ds := by
  cases h with
  | tup hs ha => exact ⟨_, _, rfl, hs, ha⟩
theorem DT.intOf {v : V} {i : Int} (h : DT K H v (.int i)) : v = .int i := by cases h; rfl
theorem DT.strOf {v : V} {i : Str} (h : DT K H v (.str i)) : v = .str i := by cases h; rfl
theorem DT.blOf {v : V} {i : Bool} (h : DT K H v (.bool i)) : v = .bl i := by cases h; rfl
theorem DTs.one {vs : List V} {d : PyData} (h : DTs K H vs [d]) : ∃ v, vs = [v] ∧ DT K H v d := by
  cases h with
  | cons a b => cases b; exact ⟨_, rfl, a⟩
theorem DTs.two {vs : List V} {d e : PyData} (h : DTs K H vs [d, e]) : ∃ v u, vs = [v, u] ∧ DT K H v d ∧ DT K H u e := by
  cases h with
  | cons a b =>
    obtain ⟨u, rfl, q⟩ := b.one
    exact ⟨_, u, rfl, a, q⟩
theorem DTs.five {vs : List V} {a b c d e : PyData} (h : DTs K H vs [a, b, c, d, e]) : ∃ v1 v2 v3 v4 v5, vs = [v1, v2, v3, v4, v5] ∧ DT K H v1 a ∧ DT K H v2 b ∧ DT K H v3 c ∧ DT K H v4 d ∧ DT K H v5 e := by
  cases h with
  | cons h1 h => cases h with
    | cons h2 h => cases h with
      | cons h3 h =>
        obtain ⟨v4, v5, rfl, h4, h5⟩ := h.two
        exact ⟨_, _, _, _, _, rfl, h1, h2, h3, h4, h5⟩
theorem DT.new {p : Addr} {xs : List V} {ds : List PyData} (h : DTs K H xs ds) (n : H p = none) : DT K (upd H p (.tup xs)) (.ref p) (.tuple ds) := .tup (SqT.of upd_same) (h.up (tk_new n))
end

/-! ### squares, rails, engines -/
inductive Sh where
  | l | s | r
  deriving DecidableEq
def Sh.str : Sh → Str
  | .l => "l"
  | .s => "s"
  | .r => "r"
def Sh.t : Sh → Int
  | .l => -1
  | .s => 0
  | .r => 1
def sq (p : Int × Int) : PyData := .tuple [.int p.1, .int p.2]
def rail (r : Sh × Int) : PyData := .tuple [.str r.1.str, .int r.2]
def eng (x y way look : Int) (rs : List (Sh × Int)) : PyData := .tuple [.int x, .int y, .int way, .int look, .tuple (rs.map rail)]
def tn (w : Int) (s : Sh) : Int := (w + s.t) % 4
def tb (w : Int) (s : Sh) : Int := (w - s.t) % 4
def dx (w : Int) : Int := if w = 1 then 1 else if w = 3 then -1 else 0
def dy (w : Int) : Int := if w = 0 then 1 else if w = 2 then -1 else 0
def on (p : Int × Int) (w : Int) : Int × Int := (p.1 + dx w, p.2 + dy w)
theorem tn_lo (w : Int) (s : Sh) : 0 ≤ tn w s := Int.emod_nonneg _ (by decide)
theorem tn_hi (w : Int) (s : Sh) : tn w s ≤ 3 := by
  have h : (w + s.t) % 4 < 4 := Int.emod_lt_of_pos _ (by decide)
  unfold tn
  omega
theorem tb_lo (w : Int) (s : Sh) : 0 ≤ tb w s := Int.emod_nonneg _ (by decide)
theorem tb_hi (w : Int) (s : Sh) : tb w s ≤ 3 := by
  have h : (w - s.t) % 4 < 4 := Int.emod_lt_of_pos _ (by decide)
  unfold tb
  omega
theorem way4 {w : Int} (h0 : 0 ≤ w) (h3 : w ≤ 3) : w = 0 ∨ w = 1 ∨ w = 2 ∨ w = 3 := by omega

/-! ### a law's box -/
def Box (H : Hp) (b : Addr) : Prop := ∃ i s c : Int, H b = some (.lst [.int i, .int s, .int c])
def spTake : Sp := fun vs H Q _ => ∃ (b : Addr) (m : Int), vs = [.ref b, .int m] ∧ Box H b ∧ 0 < m ∧ m < 2 ^ 64 ∧ ∀ r H', 0 ≤ r → r < m → But b H H' → Box H' b → Q (.int r) H'
def spBox (K : PySem.W.Frag) : Sp := fun vs H Q _ => ∃ (a : Addr) (ns : List Int) (k : Int), vs = [.ref a, .int k] ∧ SqL K H a (ns.map V.int) ∧ 0 ≤ k ∧ k < 2 ^ 60 ∧ ∀ b H', H b = none → Same H H' → Box H' b → Q (.ref b) H'
theorem mod_in {a m : Int} (h : 0 < m) : 0 ≤ a % m ∧ a % m < m := ⟨Int.emod_nonneg _ (by omega), Int.emod_lt_of_pos _ h⟩
theorem div_ok {i m : Int} (h : 0 < m) (h2 : m < 2 ^ 64) : CDivW i m := wide_div (b := 64) h (by omega) (by decide) (by decide)
theorem But.up {b : Addr} {H H' : Hp} {v : V} {d : PyData} {K : PySem.W.Frag} (e : But b H H') (hb : Box H b) (h : DT K H v d) : DT K H' v d := by
  obtain ⟨i, s, c, hb⟩ := hb
  exact h.up (tk_but hb e)
theorem atI_ints {ns : List Int} {k : Int} (h0 : 0 ≤ k) (h : k < (ns.length : Int)) : ∃ z, atI (ns.map V.int) k = some (.int z) := by
  obtain ⟨j, rfl⟩ := Int.eq_ofNat_of_zero_le h0
  have hj : j < ns.length := by omega
  exact ⟨ns[j], atI_nat (by rw [List.getElem?_map, List.getElem?_eq_getElem hj]; rfl)⟩

/-! ### == of squares -/
theorem eqv_sq (p q : Int × Int) : PyData.eqv (sq p) (sq q) = decide (p = q) := by
  obtain ⟨a, b⟩ := p
  obtain ⟨c, d⟩ := q
  simp only [sq, PyData.eqv, PyData.eqvAll, Bool.and_true]
  by_cases h : (a, b) = (c, d)
  · cases h
    simp
  · rw [decide_eq_false h]
    rw [Bool.and_eq_false_iff]
    by_cases h1 : a = c
    · right
      subst h1
      have : b ≠ d := fun z => h (by rw [z])
      simpa using this
    · left
      simpa using h1
theorem any_sq (p : Int × Int) : ∀ qs : List (Int × Int), ((qs.map sq).any fun z => PyData.eqv z (sq p)) = decide (p ∈ qs)
  | [] => by simp
  | q :: qs => by
    rw [List.map_cons, List.any_cons, any_sq p qs, eqv_sq]
    by_cases h : q = p
    · subst h
      simp
    · have h' : ¬ p = q := fun z => h z.symm
      simp [h, h']
theorem lay_sq (p : Int × Int) : (sq p).canLay0 = true := rfl
theorem lay_sqs : ∀ qs : List (Int × Int), PyData.canLayAll0 (qs.map sq) = true
  | [] => rfl
  | q :: qs => by
    rw [List.map_cons, PyData.canLayAll0, lay_sq, lay_sqs qs]
    rfl
theorem dep_sqs : ∀ qs : List (Int × Int), PyData.depthAll (qs.map sq) ≤ 3
  | [] => by simp [PyData.depthAll]
  | q :: qs => by
    have h := dep_sqs qs
    rw [List.map_cons, PyData.depthAll]
    have h2 : (sq q).depth ≤ 3 := by simp [sq, PyData.depth, PyData.depthAll]
    omega
theorem shaped_sq (p : Int × Int) : SeqAt.shaped (sq p) = true := by
  obtain ⟨a, b⟩ := p
  simp [SeqAt.shaped, sq, PyData.canLay0, PyData.canLayAll0, PyData.depth, PyData.depthAll]
theorem shaped_sqs (qs : List (Int × Int)) : SeqAt.shaped (.list (qs.map sq)) = true := by
  have h := dep_sqs qs
  have h2 := lay_sqs qs
  unfold SeqAt.shaped
  rw [PyData.canLay0, h2, PyData.depth, decide_eq_true (by omega)]
  rfl

/-! ### the road walked -/
def wst (x y w : Int) (rs : List (Sh × Int)) : List (Int × Int) × Int := rs.foldl (fun a r => (a.1 ++ [on (a.1.getLastD (0, 0)) (tn a.2 r.1)], tn a.2 r.1)) ([(x, y)], w)
theorem wst_snoc (x y w : Int) (rs : List (Sh × Int)) (r : Sh × Int) : wst x y w (rs ++ [r]) = ((wst x y w rs).1 ++ [on ((wst x y w rs).1.getLastD (0, 0)) (tn (wst x y w rs).2 r.1)], tn (wst x y w rs).2 r.1) := by
  unfold wst
  rw [List.foldl_append]
  rfl
theorem getLastD_snoc {α : Type} (l : List α) (a d : α) : (l ++ [a]).getLastD d = a := by
  rw [List.getLastD_eq_getLast?, List.getLast?_concat]
  rfl
/-- an engine as a law draws it -/
structure Drawn (x y w look : Int) (rs : List (Sh × Int)) : Prop where
  w0 : 0 ≤ w
  w3 : w ≤ 3
  lk : look = 1 ∨ look = -1
  ne : rs ≠ []
  ln : rs.length ≤ 12
  col : ∀ r ∈ rs, 0 ≤ r.2 ∧ r.2 ≤ 9
  nd : ((wst x y w rs).1.dropLast).Nodup
def spTurn : Sp := fun vs H Q _ => ∃ (w : Int) (s : Sh), vs = [.int w, .str s.str] ∧ ∀ H', Same H H' → Q (.int (tn w s)) H'
def spOn (K : PySem.W.Frag) : Sp := fun vs H Q _ => ∃ (v : V) (p : Int × Int) (w : Int), vs = [v, .int w] ∧ DT K H v (sq p) ∧ 0 ≤ w ∧ w ≤ 3 ∧ ∀ v' H', Same H H' → DT K H' v' (sq (on p w)) → Q v' H'
def spEngine (K : PySem.W.Frag) : Sp := fun vs H Q _ => ∃ (b : Addr) (m far : Int), vs = [.ref b, .int m, .int far] ∧ Box H b ∧ 0 < m ∧ m ≤ 12 ∧ 0 ≤ far ∧ far ≤ 1000000000 ∧
  ∀ v H' x y w look rs, Drawn x y w look rs → -far ≤ x → x ≤ far → -far ≤ y → y ≤ far → (rs.length : Int) ≤ m → But b H H' → Box H' b → DT K H' v (eng x y w look rs) → Q v H'
def t3 : Sh → Int
  | .l => 3
  | .s => 0
  | .r => 1
theorem t3_tn (w : Int) (s : Sh) : (w + t3 s) % 4 = tn w s := by
  cases s <;> simp only [t3, tn, Sh.t] <;> omega
def shOf (k : Int) : Sh := if k = 0 then .l else if k = 2 then .r else .s
theorem pick4 {r : Int} (h0 : 0 ≤ r) (h1 : r < 4) : ∃ c, atI ("lsrs" : Str).cps.toList r = some c ∧ (⟨#[c]⟩ : Str) = (shOf r).str := by
  have h : r = 0 ∨ r = 1 ∨ r = 2 ∨ r = 3 := by omega
  rcases h with rfl | rfl | rfl | rfl
  · exact ⟨108, by decide +kernel, by decide +kernel⟩
  · exact ⟨115, by decide +kernel, by decide +kernel⟩
  · exact ⟨114, by decide +kernel, by decide +kernel⟩
  · exact ⟨115, by decide +kernel, by decide +kernel⟩
structure EngInv (K : PySem.W.Frag) (b p1 p2 : Addr) (H H' : Hp) (x y w : Int) (i : Nat) (rs : List (Sh × Int)) (qs : List (Int × Int)) (here : Int × Int) (ahead : Int) (vh : V) (xs ys : List V) : Prop where
  dh : DT K H' vh (sq here)
  h1 : H' p1 = some (.lst xs)
  d1 : DTs K H' xs (rs.map rail)
  h2 : H' p2 = some (.lst ys)
  d2 : DTs K H' ys (qs.map sq)
  bx : Box H' b
  bt : But b H H'
  ln : rs.length ≤ i
  ne : 1 ≤ i → rs ≠ []
  z : i = 0 → qs = []
  ws : wst x y w rs = (qs ++ [here], ahead)
  nd : qs.Nodup
  col : ∀ r ∈ rs, 0 ≤ r.2 ∧ r.2 ≤ 9
  lq : qs.length = rs.length
theorem EngInv.but {K : PySem.W.Frag} {b p1 p2 : Addr} {H H' H2 : Hp} {x y w : Int} {i : Nat} {rs : List (Sh × Int)} {qs : List (Int × Int)} {here : Int × Int} {ahead : Int} {vh : V} {xs ys : List V}
    (I : EngInv K b p1 p2 H H' x y w i rs qs here ahead vh xs ys) (e : But b H' H2) (hb : Box H2 b) (n1 : p1 ≠ b) (n2 : p2 ≠ b) : EngInv K b p1 p2 H H2 x y w i rs qs here ahead vh xs ys := by
  obtain ⟨_, _, _, h0⟩ := I.bx
  have t := tk_but h0 e
  exact ⟨I.dh.up t, e _ _ n1 I.h1, I.d1.up t, e _ _ n2 I.h2, I.d2.up t, hb, I.bt.trans e, I.ln, I.ne, I.z, I.ws, I.nd, I.col, I.lq⟩
theorem EngInv.skip {K : PySem.W.Frag} {b p1 p2 : Addr} {H H' : Hp} {x y w : Int} {i : Nat} {rs : List (Sh × Int)} {qs : List (Int × Int)} {here : Int × Int} {ahead : Int} {vh : V} {xs ys : List V}
    (I : EngInv K b p1 p2 H H' x y w i rs qs here ahead vh xs ys) (hm : here ∈ qs) : EngInv K b p1 p2 H H' x y w (i + 1) rs qs here ahead vh xs ys := by
  refine ⟨I.dh, I.h1, I.d1, I.h2, I.d2, I.bx, I.bt, Nat.le_succ_of_le I.ln, fun _ => ?_, fun z => by omega, I.ws, I.nd, I.col, I.lq⟩
  by_cases h : i = 0
  · rw [I.z h] at hm
    cases hm
  · exact I.ne (by omega)
theorem EngInv.go {K : PySem.W.Frag} {b p1 p2 t : Addr} {H H' H2 : Hp} {x y w c : Int} {sh : Sh} {i : Nat} {rs : List (Sh × Int)} {qs : List (Int × Int)} {here : Int × Int} {ahead : Int} {vh v2 : V} {xs ys : List V}
    (I : EngInv K b p1 p2 H H' x y w i rs qs here ahead vh xs ys) (hm : ¬ here ∈ qs) (nt : H' t = none) (n1 : p1 ≠ b) (n2 : p2 ≠ b) (n21 : p2 ≠ p1) (f1 : H p1 = none) (f2 : H p2 = none) (c0 : 0 ≤ c) (c9 : c ≤ 9)
    (e : Same (upd (upd (upd H' t (.tup [.str sh.str, .int c])) p1 (.lst (xs ++ [.ref t]))) p2 (.lst (ys ++ [vh]))) H2) (d2 : DT K H2 v2 (sq (on here (tn ahead sh)))) :
    EngInv K b p1 p2 H H2 x y w (i + 1) (rs ++ [(sh, c)]) (qs ++ [here]) (on here (tn ahead sh)) (tn ahead sh) v2 (xs ++ [.ref t]) (ys ++ [vh]) := by
  have t1 : p1 ≠ t := ne_of_none I.h1 nt
  have t2 : p2 ≠ t := ne_of_none I.h2 nt
  have k1 : Tk H' (upd H' t (.tup [.str sh.str, .int c])) := tk_new nt
  have k2 : Tk (upd H' t (.tup [.str sh.str, .int c])) (upd (upd H' t (.tup [.str sh.str, .int c])) p1 (.lst (xs ++ [.ref t]))) := tk_set (by rw [upd_ne t1]; exact I.h1)
  have k3 : Tk (upd (upd H' t (.tup [.str sh.str, .int c])) p1 (.lst (xs ++ [.ref t]))) (upd (upd (upd H' t (.tup [.str sh.str, .int c])) p1 (.lst (xs ++ [.ref t]))) p2 (.lst (ys ++ [vh]))) := tk_set (by rw [upd_ne n21, upd_ne t2]; exact I.h2)
  have k := (k2.trans k3).trans (tk_same e)
  have kk := k1.trans k
  refine ⟨d2, e _ _ (by rw [upd_ne n21.symm, upd_same]), ?_, e _ _ upd_same, ?_, ?_, ?_, ?_, fun _ => by simp, fun z => by omega, ?_, nd_snoc I.nd hm, ?_, ?_⟩
  · rw [List.map_append]
    exact (I.d1.up kk).append (.cons ((DT.new (K := K) (.cons (.str _) (.cons (.int c) .nil)) nt).up k) .nil)
  · rw [List.map_append]
    exact (I.d2.up kk).append (.cons (I.dh.up kk) .nil)
  · obtain ⟨a1, a2, a3, h0⟩ := I.bx
    have bt : b ≠ t := ne_of_none h0 nt
    exact ⟨a1, a2, a3, e _ _ (by rw [upd_ne n2.symm, upd_ne n1.symm, upd_ne bt]; exact h0)⟩
  · intro a o n h
    have h' := I.bt a o n h
    refine e _ _ ?_
    rw [upd_ne (ne_of_none h f2), upd_ne (ne_of_none h f1), upd_ne (ne_of_none h' nt)]
    exact h'
  · rw [List.length_append]
    exact Nat.succ_le_succ I.ln
  · rw [wst_snoc, I.ws]
    dsimp only
    rw [getLastD_snoc]
  · intro r hr
    rcases List.mem_append.mp hr with h | h
    · exact I.col r h
    · cases List.mem_singleton.mp h
      exact ⟨c0, c9⟩
  · rw [List.length_append, List.length_append, I.lq]
    rfl
/-! ### tuples cut, put together, read -/
def cutD (xs : List PyData) (lo hi : Option Int) : List PyData := (xs.drop (HT.sIx xs.length 0 lo)).take (HT.sIx xs.length xs.length hi - HT.sIx xs.length 0 lo)
theorem DTs.cut {K : PySem.W.Frag} {H : Hp} {vs : List V} {ds : List PyData} (lo hi : Option Int) (h : DTs K H vs ds) : DTs K H (cutV vs lo hi) (cutD ds lo hi) := by
  unfold cutV cutD
  rw [h.length]
  exact (h.drop _).take _
theorem r_slA {K : PySem.W.Frag} {H : Hp} {v : V} {ds : List PyData} {lo hi : Option Int} {Q : VK} (h : DT K H v (.tuple ds)) (q : ∀ v' H', Same H H' → DT K H' v' (.tuple (cutD ds lo hi)) → Q v' H') : rSlA K v lo hi H Q := by
  obtain ⟨a, xs, rfl, hs, hx⟩ := h.tupOf
  refine ⟨a, xs, rfl, hs, fun e => ?_, fun _ p np => q _ _ (same_new np) (DT.new (hx.cut lo hi) np)⟩
  have e2 : cutD ds lo hi = ds := by
    unfold cutD
    rw [hx.length] at e
    rw [e.1, e.2, List.drop_zero, Nat.sub_zero, List.take_length]
  refine q _ _ (Same.refl H) ?_
  rw [e2]
  exact .tup hs hx
theorem r_catA {K : PySem.W.Frag} {H : Hp} {v u : V} {ds es : List PyData} {Q : VK} (h : DT K H v (.tuple ds)) (h2 : DT K H u (.tuple es)) (hl : ds.length + es.length ≤ 1000) (q : ∀ v' H', Same H H' → DT K H' v' (.tuple (ds ++ es)) → Q v' H') : rCatA K v u H Q := by
  obtain ⟨a, xs, rfl, hs, hx⟩ := h.tupOf
  obtain ⟨b, ys, rfl, hs2, hy⟩ := h2.tupOf
  refine ⟨a, b, xs, ys, rfl, rfl, hs, hs2, ?_, fun e => ?_, fun _ e => ?_, fun _ _ p np => q _ _ (same_new np) (DT.new (hx.append hy) np)⟩
  · rw [hx.length, hy.length]
    exact Nat.le_of_lt (small1000 hl)
  · subst e
    cases hx
    exact q _ _ (Same.refl H) (.tup hs2 hy)
  · subst e
    cases hy
    refine q _ _ (Same.refl H) ?_
    rw [List.append_nil]
    exact .tup hs hx
theorem atI_map {α β : Type} {xs : List α} {f : α → β} {i : Int} {v : α} (h : atI xs i = some v) : atI (xs.map f) i = some (f v) := by
  obtain ⟨j, h1, h2, h3, h4, h5⟩ := atI_get h
  unfold atI at h ⊢
  rw [List.length_map]
  cases e : ixN xs.length i with
  | none => rw [e] at h; cases h
  | some k =>
    rw [e] at h
    have h' : xs[k]? = some v := h
    show (xs.map f)[k]? = some (f v)
    rw [List.getElem?_map, h']
    rfl
theorem DTs.at {K : PySem.W.Frag} {H : Hp} {vs : List V} {ds : List PyData} {i : Int} {d : PyData} (h : DTs K H vs ds) (e : atI ds i = some d) : ∃ v, atI vs i = some v ∧ DT K H v d := by
  unfold atI at e ⊢
  rw [h.length]
  cases z : ixN ds.length i with
  | none => rw [z] at e; cases e
  | some k =>
    rw [z] at e
    have e' : ds[k]? = some d := e
    obtain ⟨v, h1, h2⟩ := h.get e'
    exact ⟨v, h1, h2⟩
theorem r_ixT {K : PySem.W.Frag} {H : Hp} {v : V} {ds : List PyData} {i : Int} {d : PyData} {Q : VK} (h : DT K H v (.tuple ds)) (e : atI ds i = some d) (q : ∀ v', DT K H v' d → Q v' H) : rIxT K v (.int i) H Q := by
  obtain ⟨a, xs, rfl, hs, hx⟩ := h.tupOf
  obtain ⟨v', h1, h2⟩ := hx.at e
  exact ⟨a, xs, i, v', rfl, rfl, hs, h1, q v' h2⟩
theorem DTs.last {K : PySem.W.Frag} {H : Hp} {vs : List V} {ds : List PyData} {d : PyData} (h : DTs K H vs (ds ++ [d])) : ∃ us u, vs = us ++ [u] ∧ DTs K H us ds ∧ DT K H u d := by
  induction ds generalizing vs with
  | nil =>
    obtain ⟨u, rfl, q⟩ := h.one
    exact ⟨[], u, rfl, .nil, q⟩
  | cons e ds ih =>
    cases h with
    | cons a b =>
      obtain ⟨us, u, rfl, q1, q2⟩ := ih b
      exact ⟨_ :: us, u, rfl, .cons a q1, q2⟩
theorem wst_last (x y w : Int) (rs : List (Sh × Int)) : ∃ L, (wst x y w rs).1 = L ++ [(wst x y w rs).1.getLastD (0, 0)] := by
  have ne : (wst x y w rs).1 ≠ [] := by
    rcases List.eq_nil_or_concat rs with rfl | ⟨r', r, rfl⟩
    · simp [wst]
    · simp [wst_snoc]
  rcases List.eq_nil_or_concat (wst x y w rs).1 with h | ⟨L, a, h⟩
  · exact absurd h ne
  · refine ⟨L, ?_⟩
    rw [List.concat_eq_append] at h
    rw [h, getLastD_snoc]
theorem wst_len (x y w : Int) (rs : List (Sh × Int)) : (wst x y w rs).1.length = rs.length + 1 := by
  rcases List.eq_nil_or_concat rs with rfl | ⟨r', r, rfl⟩
  · rfl
  · rw [List.concat_eq_append, wst_snoc, List.length_append, List.length_append, wst_len x y w r']
    rfl
termination_by rs.length
decreasing_by
  simp_all
theorem cut_last (xs : List V) (x : V) : cutV (xs ++ [x]) none (some (-1)) = xs := by
  have e1 : HT.sIx (xs ++ [x]).length 0 none = 0 := rfl
  have e2 : HT.sIx (xs ++ [x]).length (xs ++ [x]).length (some (-1)) = xs.length := by
    show (if (-1 : Int) < 0 then ((-1 : Int) + ((xs ++ [x]).length : Int)).toNat else min (-1 : Int).toNat (xs ++ [x]).length) = xs.length
    rw [if_pos (by decide), List.length_append]
    show ((-1 : Int) + ((xs.length + 1 : Nat) : Int)).toNat = xs.length
    omega
  unfold cutV
  rw [e1, e2, List.drop_zero, Nat.sub_zero, List.take_left]
theorem take_one {α : Type} {l : List α} {i : Nat} {a : α} (h : l[i]? = some a) : l.take (i + 1) = l.take i ++ [a] := by
  rw [List.take_add_one, h]
  rfl
theorem wst_take {x y w : Int} {rs : List (Sh × Int)} {i : Nat} {r : Sh × Int} (h : rs[i]? = some r) : wst x y w (rs.take (i + 1)) = ((wst x y w (rs.take i)).1 ++ [on ((wst x y w (rs.take i)).1.getLastD (0, 0)) (tn (wst x y w (rs.take i)).2 r.1)], tn (wst x y w (rs.take i)).2 r.1) := by
  rw [take_one h, wst_snoc]
theorem rails_at {K : PySem.W.Frag} {H : Hp} {vs : List V} {rs : List (Sh × Int)} {i : Nat} {v : V} (h : DTs K H vs (rs.map rail)) (e : vs[i]? = some v) : ∃ r, rs[i]? = some r ∧ ∃ a, v = .ref a ∧ SqT K H a [.str r.1.str, .int r.2] := by
  obtain ⟨d, h1, h2⟩ := h.getV e
  rw [List.getElem?_map] at h1
  cases z : rs[i]? with
  | none => rw [z] at h1; cases h1
  | some r =>
    rw [z] at h1
    cases Option.some.inj h1
    obtain ⟨a, xs, rfl, hs, hx⟩ := h2.tupOf
    obtain ⟨v1, v2, rfl, d1, d2⟩ := hx.two
    cases d1.strOf
    cases d2.intOf
    exact ⟨r, rfl, a, rfl, hs⟩
def spAbout : Sp := fun vs H Q _ => ∃ w : Int, vs = [.int w] ∧ Q (.int ((w + 2) % 4)) H
def spOnward (K : PySem.W.Frag) : Sp := fun vs H Q _ => ∃ (v : V) (p : Int × Int) (w n : Int), vs = [v, .int w, .int n] ∧ DT K H v (sq p) ∧ 0 ≤ w ∧ w ≤ 3 ∧ ∀ v' H', Same H H' → DT K H' v' (sq (p.1 + dx w * n, p.2 + dy w * n)) → Q v' H'
theorem dx_ok (w n : Int) : CMul (dx w) n := by
  left
  unfold dx
  split
  · decide
  · split <;> decide
theorem dy_ok (w n : Int) : CMul (dy w) n := by
  left
  unfold dy
  split
  · decide
  · split <;> decide
theorem on_one (p : Int × Int) (w : Int) : (p.1 + dx w * 1, p.2 + dy w * 1) = on p w := by
  unfold on
  rw [Int.mul_one, Int.mul_one]
theorem step_at {K : PySem.W.Frag} {H : Hp} {xs : List V} (h : DTs K H xs [sq (0, 1), sq (1, 0), sq (0, -1), sq (-1, 0)]) {w : Int} (w0 : 0 ≤ w) (w3 : w ≤ 3) : ∃ a, atI xs w = some (.ref a) ∧ SqT K H a [.int (dx w), .int (dy w)] := by
  have key : ∀ (v : V) (p : Int × Int), DT K H v (sq p) → ∃ a, v = .ref a ∧ SqT K H a [.int p.1, .int p.2] := fun v p hd => by
    obtain ⟨a, ys, rfl, hs, hy⟩ := hd.tupOf
    obtain ⟨v1, v2, rfl, d1, d2⟩ := hy.two
    cases d1.intOf
    cases d2.intOf
    exact ⟨a, rfl, hs⟩
  rcases way4 w0 w3 with rfl | rfl | rfl | rfl
  · obtain ⟨v, h1, h2⟩ := h.at (i := 0) (d := sq (0, 1)) rfl
    obtain ⟨a, rfl, h3⟩ := key v _ h2
    exact ⟨a, h1, h3⟩
  · obtain ⟨v, h1, h2⟩ := h.at (i := 1) (d := sq (1, 0)) rfl
    obtain ⟨a, rfl, h3⟩ := key v _ h2
    exact ⟨a, h1, h3⟩
  · obtain ⟨v, h1, h2⟩ := h.at (i := 2) (d := sq (0, -1)) rfl
    obtain ⟨a, rfl, h3⟩ := key v _ h2
    exact ⟨a, h1, h3⟩
  · obtain ⟨v, h1, h2⟩ := h.at (i := 3) (d := sq (-1, 0)) rfl
    obtain ⟨a, rfl, h3⟩ := key v _ h2
    exact ⟨a, h1, h3⟩
theorem sq_at {K : PySem.W.Frag} {H : Hp} {v : V} {p : Int × Int} (hd : DT K H v (sq p)) : ∃ a, v = .ref a ∧ SqT K H a [.int p.1, .int p.2] := by
  obtain ⟨a, ys, rfl, hs, hy⟩ := hd.tupOf
  obtain ⟨v1, v2, rfl, d1, d2⟩ := hy.two
  cases d1.intOf
  cases d2.intOf
  exact ⟨a, rfl, hs⟩
theorem eng_at {K : PySem.W.Frag} {H : Hp} {v : V} {x y w look : Int} {rs : List (Sh × Int)} (hd : DT K H v (eng x y w look rs)) : ∃ a r xs, v = .ref a ∧ SqT K H a [.int x, .int y, .int w, .int look, .ref r] ∧ SqT K H r xs ∧ DTs K H xs (rs.map rail) := by
  obtain ⟨a, ys, rfl, hs, hy⟩ := hd.tupOf
  obtain ⟨v1, v2, v3, v4, v5, rfl, d1, d2, d3, d4, d5⟩ := hy.five
  cases d1.intOf
  cases d2.intOf
  cases d3.intOf
  cases d4.intOf
  obtain ⟨r, xs, rfl, h1, h2⟩ := d5.tupOf
  exact ⟨a, r, xs, rfl, hs, h1, h2⟩
/-- a def of the text with keyword-only defaults, nothing leaves it -/
theorem FunD_ok0 {P : Program} {w : World} {K : PySem.W.Frag} {mg : Str → Option Value} {base : Heap} {x qual : Str} {params : Arguments} {body : List Stmt} {scope : Scope} {dvs : List V} {kws : List (Str × V)} {f : Addr} {fd : FuncData} {N ps : List Str} {k : Nat} {sp : Sp} (F : FunD K x qual params body scope dvs kws f fd) (S : FnScope N ps scope) (len : ∀ vs H Q E, sp vs H Q E → vs.length = ps.length)
    (hbody : ∀ (cdv : Value) (A : Around) (outer : List Env) (s : Shared) (H : Hp) (vs : List V) (Q : VK) (E : XK), Room k (A.deeper (envOfC qual scope s.heap.objs.size f cdv)) → sp vs H Q E →
      ∃ t, PSs (cxOf CX0 P w K mg base N qual scope f cdv A outer s H E).nox body t ∧ t { nx := fun _ H' => Q .non H', rt := Q } (start N vs) H) : FnOk P w K mg base CX0 (k + 1) f fd ps sp := by
  refine F.ok S len fun cdv A outer s H vs Q E hr hsp => ?_
  obtain ⟨t, h, q⟩ := hbody cdv A outer s H vs Q E hr hsp
  exact ⟨t, h.nox, q⟩
def spSAN (K : PySem.W.Frag) : Sp := fun vs H Q _ => ∃ (v : V) (x y w look : Int) (rs : List (Sh × Int)), vs = [v] ∧ DT K H v (eng x y w look rs) ∧ rs.length ≤ 900 ∧
  ∀ p xs H', Same H H' → H p = none → H' p = some (.lst xs) → DTs K H' xs ((wst x y w rs).1.map sq) → Q (.ref p) H'
def spSquares (K : PySem.W.Frag) : Sp := fun vs H Q _ => ∃ (v : V) (x y w look : Int) (rs : List (Sh × Int)), vs = [v] ∧ DT K H v (eng x y w look rs) ∧ rs.length ≤ 900 ∧
  ∀ v' H', Same H H' → DT K H' v' (.tuple ((wst x y w rs).1.dropLast.map sq)) → Q v' H'
def wantedOf (x y w look : Int) (rs : List (Sh × Int)) : Int × Int := if look = 1 then (wst x y w rs).1.getLastD (0, 0) else on (x, y) ((w + 2) % 4)
def spWanted (K : PySem.W.Frag) : Sp := fun vs H Q _ => ∃ (v : V) (x y w look : Int) (rs : List (Sh × Int)), vs = [v] ∧ DT K H v (eng x y w look rs) ∧ rs.length ≤ 900 ∧
  ∀ v' H', Same H H' → DT K H' v' (sq (wantedOf x y w look rs)) → Q v' H'
/-! ### a comprehension over two tuples -/
theorem lc_zipT {K : PySem.W.Frag} {a b : Addr} {xs ys : List V} {g : TG} {tt : TT} {te : TE} {vs : List Nat} {σ : L2.St} {H1 : Hp} {D : Addr} {Qd : Hp → Prop} (hl : xs.length = ys.length) (Pv : Nat → Hp → Prop) (h0 : Pv 0 (upd H1 D (.lst []))) (hq : ∀ i H, Pv i H → SqT K H a xs ∧ SqT K H b ys)
    (hs : ∀ (i : Nat) (x y : V) (T : Addr) (H : Hp), xs[i]? = some x → ys[i]? = some y → Pv i H → H T = none → g (.ref T) (wipe σ vs) (upd H T (.tup [x, y])) fun σ2 H2 => wipe σ2 vs = wipe σ vs ∧ tt σ2 H2 fun b H3 =>
      if b = true then te σ2 H3 fun y H4 => ∃ acc, H4 D = some (.lst acc) ∧ acc.length < sizeLine ∧ Pv (i + 1) (upd H4 D (.lst (acc ++ [y]))) else Pv (i + 1) H3) (hd : ∀ H, Pv xs.length H → Qd H) :
    ∃ W : Nat → Nat → Hp → Prop, (∃ m, W 0 m (upd H1 D (.lst []))) ∧ ∀ i m H, W i m H →
      ((RZ.ItzT K a b).stop i H ∧ Qd H) ∨ ((RZ.ItzT K a b).go i H ∧ ∃ Nx : Hp → Prop, (∀ H', Nx H' → ∃ m', m' < m ∧ W (i + 1) m' H') ∧ ∀ x H', (RZ.ItzT K a b).yld i H x H' → g x (wipe σ vs) H' fun σ2 H2 => wipe σ2 vs = wipe σ vs ∧ tt σ2 H2 fun b H3 =>
        if b = true then te σ2 H3 fun y H4 => ∃ acc, H4 D = some (.lst acc) ∧ acc.length < sizeLine ∧ Nx (upd H4 D (.lst (acc ++ [y]))) else Nx H3) := by
  refine ⟨fun i m H => m = xs.length - i ∧ i ≤ xs.length ∧ Pv i H, ⟨xs.length, rfl, Nat.zero_le _, h0⟩, ?_⟩
  rintro i m H ⟨rfl, hi, p⟩
  obtain ⟨q1, q2⟩ := hq i H p
  by_cases hlt : i < xs.length
  · have hlt2 : i < ys.length := hl ▸ hlt
    refine .inr ⟨⟨xs, ys, xs[i], ys[i], q1, q2, by simp [hlt], by simp [hlt2]⟩, Pv (i + 1), fun H' p' => ⟨xs.length - (i + 1), by omega, rfl, hlt, p'⟩, fun x H' y => ?_⟩
    obtain ⟨T, x1, y1, rfl, nT, rfl, f1, f2⟩ := y
    exact hs i x1 y1 T H (f1 _ q1) (f2 _ q2) p nT
  · have e : i = xs.length := by omega
    subst e
    exact .inl ⟨⟨xs, ys, q1, q2, .inl (Nat.le_refl _)⟩, hd H p⟩
/-! ### what a datum's type is -/
def tyN : PyData → String
  | .none => "NoneType"
  | .bool _ => "bool"
  | .int _ => "int"
  | .str _ => "str"
  | .list _ => "list"
  | .tuple _ => "tuple"
  | .dict _ => "dict"
theorem DT.ty {K : PySem.W.Frag} {H : Hp} {v : V} {d : PyData} (h : DT K H v d) : TyX K H v (.type (tyN d)) := by
  cases h with
  | non => exact .base .non
  | bl b => exact .base (.bl b)
  | int i => exact .base (.int i)
  | str x => exact .base (.str x)
  | tup hs ha =>
    rcases hs with (hs | ⟨o, hs⟩) | ⟨o, its, n, hk, hc, _⟩
    · exact .base (.tup hs)
    · exact .fTuple hs
    · exact .kTuple hk hc
def isT : PyData → Bool
  | .tuple _ => true
  | _ => false
def isB : PyData → Bool
  | .bool _ => true
  | _ => false
def isS : PyData → Bool
  | .str _ => true
  | _ => false
theorem kT {K : PySem.W.Frag} {H : Hp} {v : V} {d : PyData} (h : DT K H v d) : PySem.W.kitOne K (.type (tyN d)) (.type "tuple") = some (isT d) := by
  cases h with
  | non => exact kit_ty (a := "NoneType") (r := false) (by decide +kernel)
  | bl _ => exact kit_ty (a := "bool") (r := false) (by decide +kernel)
  | int _ => exact kit_ty (a := "int") (r := false) (by decide +kernel)
  | str _ => exact kit_ty (a := "str") (r := false) (by decide +kernel)
  | tup _ _ => exact kit_ty (a := "tuple") (r := true) (by decide +kernel)
theorem kL {K : PySem.W.Frag} {H : Hp} {v : V} {d : PyData} (h : DT K H v d) : PySem.W.kitOne K (.type (tyN d)) (.type "list") = some false := by
  cases h with
  | non => exact kit_ty (a := "NoneType") (r := false) (by decide +kernel)
  | bl _ => exact kit_ty (a := "bool") (r := false) (by decide +kernel)
  | int _ => exact kit_ty (a := "int") (r := false) (by decide +kernel)
  | str _ => exact kit_ty (a := "str") (r := false) (by decide +kernel)
  | tup _ _ => exact kit_ty (a := "tuple") (r := false) (by decide +kernel)
theorem kD {K : PySem.W.Frag} {H : Hp} {v : V} {d : PyData} (h : DT K H v d) : PySem.W.kitOne K (.type (tyN d)) (.type "dict") = some false := by
  cases h with
  | non => exact kit_ty (a := "NoneType") (r := false) (by decide +kernel)
  | bl _ => exact kit_ty (a := "bool") (r := false) (by decide +kernel)
  | int _ => exact kit_ty (a := "int") (r := false) (by decide +kernel)
  | str _ => exact kit_ty (a := "str") (r := false) (by decide +kernel)
  | tup _ _ => exact kit_ty (a := "tuple") (r := false) (by decide +kernel)
theorem kB {K : PySem.W.Frag} {H : Hp} {v : V} {d : PyData} (h : DT K H v d) : PySem.W.kitOne K (.type (tyN d)) (.type "bool") = some (isB d) := by
  cases h with
  | non => exact kit_ty (a := "NoneType") (r := false) (by decide +kernel)
  | bl _ => exact kit_ty (a := "bool") (r := true) (by decide +kernel)
  | int _ => exact kit_ty (a := "int") (r := false) (by decide +kernel)
  | str _ => exact kit_ty (a := "str") (r := false) (by decide +kernel)
  | tup _ _ => exact kit_ty (a := "tuple") (r := false) (by decide +kernel)
theorem kS {K : PySem.W.Frag} {H : Hp} {v : V} {d : PyData} (h : DT K H v d) : PySem.W.kitOne K (.type (tyN d)) (.type "str") = some (isS d) := by
  cases h with
  | non => exact kit_ty (a := "NoneType") (r := false) (by decide +kernel)
  | bl _ => exact kit_ty (a := "bool") (r := false) (by decide +kernel)
  | int _ => exact kit_ty (a := "int") (r := false) (by decide +kernel)
  | str _ => exact kit_ty (a := "str") (r := true) (by decide +kernel)
  | tup _ _ => exact kit_ty (a := "tuple") (r := false) (by decide +kernel)
theorem kTL {K : PySem.W.Frag} {H : Hp} {v : V} {d : PyData} (h : DT K H v d) : PySem.W.kitAny K (.type (tyN d)) [.type "tuple", .type "list"] = some (isT d) :=
  kitAny_cons (kT h) (fun e => by rw [e]; exact kitAny_cons (kL h) (fun _ => kitAny_nil) (fun z => by cases z)) (fun e => e)
theorem kTLD {K : PySem.W.Frag} {H : Hp} {v : V} {d : PyData} (h : DT K H v d) : PySem.W.kitAny K (.type (tyN d)) [.type "tuple", .type "list", .type "dict"] = some (isT d) :=
  kitAny_cons (kT h) (fun e => by rw [e]; exact kitAny_cons (kL h) (fun _ => kitAny_cons (kD h) (fun _ => kitAny_nil) (fun z => by cases z)) (fun z => by cases z)) (fun e => e)
theorem iteEq {α : Type} [DecidableEq α] {x y : α} {A B : Prop} (h : x = y) (k : A) : if decide (x = y) = true then A else B := by
  rw [decide_eq_true h]
  exact iteT k
mutual
def okD : PyData → Bool
  | .none => true
  | .bool _ => true
  | .int _ => true
  | .str x => PyData.strOk x
  | .tuple ds => decide (ds.length ≤ 1000) && okAll ds
  | .list _ => false
  | .dict _ => false
def okAll : List PyData → Bool
  | [] => true
  | d :: ds => okD d && okAll ds
end
mutual
theorem lay_ok : ∀ d : PyData, okD d = true → d.canLay0 = true
  | .none, _ => rfl
  | .bool _, _ => rfl
  | .int _, _ => rfl
  | .str x, h => by
    rw [okD] at h
    rw [PyData.canLay0]
    exact h
  | .tuple ds, h => by
    rw [okD, Bool.and_eq_true] at h
    rw [PyData.canLay0]
    exact lay_oks ds h.2
  | .list _, h => by rw [okD] at h; cases h
  | .dict _, h => by rw [okD] at h; cases h
theorem lay_oks : ∀ ds : List PyData, okAll ds = true → PyData.canLayAll0 ds = true
  | [], _ => rfl
  | d :: ds, h => by
    rw [okAll, Bool.and_eq_true] at h
    rw [PyData.canLayAll0, lay_ok d h.1, lay_oks ds h.2]
    rfl
end
theorem okAll_get : ∀ {ds : List PyData} {i : Nat} {d : PyData}, okAll ds = true → ds[i]? = some d → okD d = true
  | [], _, _, _, e => by simp at e
  | x :: ds, 0, d, h, e => by
    rw [okAll, Bool.and_eq_true] at h
    simp at e
    rw [← e]
    exact h.1
  | x :: ds, i + 1, d, h, e => by
    rw [okAll, Bool.and_eq_true] at h
    exact okAll_get (i := i) h.2 (by simpa using e)
theorem dep_get : ∀ {ds : List PyData} {i : Nat} {d : PyData}, ds[i]? = some d → d.depth ≤ PyData.depthAll ds
  | [], _, _, e => by simp at e
  | x :: ds, 0, d, e => by
    simp at e
    rw [PyData.depthAll, ← e]
    exact Nat.le_max_left _ _
  | x :: ds, i + 1, d, e => by
    have h := dep_get (ds := ds) (i := i) (d := d) (by simpa using e)
    rw [PyData.depthAll]
    exact Nat.le_trans h (Nat.le_max_right _ _)
def spAlike (K : PySem.W.Frag) (n : Nat) : Sp := fun vs H Q _ => ∃ (v u : V) (d : PyData), vs = [v, u] ∧ DT K H v d ∧ DT K H u d ∧ okD d = true ∧ d.depth ≤ n ∧ (∀ H', Same H H' → Q (.bl true) H')
theorem tk_setD {H : Hp} {b : Addr} {kvs : List (Key × V)} {o : HO} (hb : H b = some (.dK kvs)) : Tk H (upd H b o) := fun a ys h => by
  have n : a ≠ b := fun z => by
    subst z
    rcases h with h | ⟨u, h⟩
    · rw [hb] at h
      cases h
    · rw [hb] at h
      cases h
  rcases h with h | ⟨u, h⟩
  · exact .inl (by rw [upd_ne n]; exact h)
  · exact .inr ⟨u, by rw [upd_ne n]; exact h⟩
def spDue (K : PySem.W.Frag) : Sp := fun vs H Q _ => ∃ (v : V) (x y w look : Int) (rs : List (Sh × Int)), vs = [v] ∧ DT K H v (eng x y w look rs) ∧ 0 ≤ w ∧ w ≤ 3 ∧ rs.length ≤ 900 ∧
  ∀ v' H', Same H H' → DT K H' v' (.tuple [.tuple ((wst x y w rs).1.dropLast.map sq), sq (wantedOf x y w look rs)]) → Q v' H'
theorem okAll_map {α : Type} (f : α → PyData) (h : ∀ a, okD (f a) = true) : ∀ l : List α, okAll (l.map f) = true
  | [] => rfl
  | a :: l => by
    rw [List.map_cons, okAll, h a, okAll_map f h l]
    rfl
theorem ok_sq (p : Int × Int) : okD (sq p) = true := by
  simp [sq, okD, okAll]
theorem ok_sqs (l : List (Int × Int)) (h : l.length ≤ 1000) : okD (.tuple (l.map sq)) = true := by
  rw [okD, okAll_map sq ok_sq, List.length_map, decide_eq_true h]
  rfl
theorem depT_sqs (l : List (Int × Int)) : (PyData.tuple (l.map sq)).depth ≤ 4 := by
  have h := dep_sqs l
  rw [PyData.depth]
  omega
theorem dep_sq (p : Int × Int) : (sq p).depth = 1 := by
  simp [sq, PyData.depth, PyData.depthAll]
theorem lawRange {n : Nat} (k : Int) (h2 : 2 ≤ k) (h9 : k ≤ 60) : 0 ≤ (if (if ((n : Int)) < k then ((n : Int)) else k) > 2 then (if ((n : Int)) < k then ((n : Int)) else k) else 2) ∧ (if (if ((n : Int)) < k then ((n : Int)) else k) > 2 then (if ((n : Int)) < k then ((n : Int)) else k) else 2) ≤ 60 := by
  split <;> split <;> omega
def spLaw (K : PySem.W.Frag) : Sp := fun vs H Q _ => ∃ (a : Addr) (ns : List Int), vs = [.ref a] ∧ SqL K H a (ns.map V.int) ∧ ns.length ≤ 63 ∧ ∀ H', Q (.bl true) H'
theorem SqL_but {K : PySem.W.Frag} {H H1 H2 : Hp} {a b : Addr} {xs : List V} (h : SqL K H a xs) (nb : H b = none) (e1 : Same H H1) (e2 : But b H1 H2) : SqL K H2 a xs := by
  rcases h with (h | ⟨o, h⟩) | h
  · exact .inl (.inl (e2 _ _ (ne_of_none h nb) (e1 _ _ h)))
  · exact .inl (.inr ⟨o, e2 _ _ (ne_of_none h nb) (e1 _ _ h)⟩)
  · exact .inr h
theorem Box.same {H H' : Hp} {b : Addr} (h : Box H b) (e : Same H H') : Box H' b := by
  obtain ⟨i, s, c, h⟩ := h
  exact ⟨i, s, c, e _ _ h⟩
theorem eng_cut (x y w look : Int) (rs : List (Sh × Int)) : cutD [.int x, .int y, .int w, .int look, .tuple (rs.map rail)] none (some 3) = [.int x, .int y, .int w] := rfl
/-! ### readings, step by step -/
section
variable {K : PySem.W.Frag} {σ : L2.St} {H : Hp} {Q : VK} {ta tb : TE} {r : R2} {v : V}
theorem r_c (k : Q v H) : tC v σ H Q := k
theorem r_v {i : Nat} (h : σ[i]? = some (some v)) (k : Q v H) : tVar i σ H Q := ⟨v, h, k⟩
theorem r_op (k : ta σ H fun x H1 => tb σ H1 fun y H2 => r x y H2 Q) : tOp r ta tb σ H Q := k
theorem r_tup {t : TA} (k : t σ H fun xs H1 => xs.length ≤ sizeLine ∧ ∀ p, H1 p = none → Q (.ref p) (upd H1 p (.tup xs))) : tTup t σ H Q := k
theorem r_lst {t : TA} (k : t σ H fun xs H1 => xs.length ≤ sizeLine ∧ ∀ p, H1 p = none → Q (.ref p) (upd H1 p (.lst xs))) : tLst t σ H Q := k
theorem r_cons {tr : TA} {Q : List V → Hp → Prop} (k : ta σ H fun x H1 => tr σ H1 fun xs H2 => Q (x :: xs) H2) : tCons ta tr σ H Q := k
theorem r_nil {Q : List V → Hp → Prop} (k : Q [] H) : tNil σ H Q := k
theorem r_call {sp : Sp} {dvs : List V} {E : XK} {t : TA} (k : t σ H fun vs H1 => sp (vs ++ dvs) H1 Q E) : tCall sp dvs E t σ H Q := k
theorem r_np {Q : Option Int → Hp → Prop} (k : Q none H) : tNoPart σ H Q := k
theorem r_nm {i : Nat} {Q : L2.St → Hp → Prop} (k : Q (σ.set i (some v)) H) : gName i v σ H Q := k
theorem r_asg {g : TG} {D : Ends} (k : ta σ H fun x H1 => g x σ H1 D.nx) : tAsg ta g D σ H := k
theorem r_seq {t u : TS} {D : Ends} (k : t { D with nx := u D } σ H) : tSeq t u D σ H := k
theorem r_next {D : Ends} (k : D.nx σ H) : tNext D σ H := k
theorem r_ret {D : Ends} (k : ta σ H D.rt) : tRet ta D σ H := k
theorem r_I0 {g : Int → Int → V} {i j : Int} (k : Q (g i j) H) : rI0 g (.int i) (.int j) H Q := ⟨i, j, rfl, rfl, k⟩
theorem r_I {C : Int → Int → Prop} {g : Int → Int → V} {i j : Int} (c : C i j) (k : Q (g i j) H) : rI C g (.int i) (.int j) H Q := ⟨i, j, rfl, rfl, c, k⟩
theorem r_ixTV {j : Nat} {ds : List PyData} {i : Int} {d : PyData} (hv : σ[j]? = some (some v)) (h : DT K H v (.tuple ds)) (e : atI ds i = some d) (q : ∀ v', DT K H v' d → Q v' H) : tOp (rIxT K) (tVar j) (tC (.int i)) σ H Q := ⟨v, hv, r_ixT h e q⟩
end
/-! ### what an expression comes to, whatever was laid meanwhile -/
def EvD (K : PySem.W.Frag) (te : TE) (σ : L2.St) (H : Hp) (d : PyData) : Prop := ∀ H1, Same H H1 → ∀ Q : VK, (∀ v H2, Same H1 H2 → DT K H2 v d → Q v H2) → te σ H1 Q
def EvI (te : TE) (σ : L2.St) (i : Int) : Prop := ∀ (H : Hp) (Q : VK), Q (.int i) H → te σ H Q
section
variable {K : PySem.W.Frag} {σ : L2.St} {H : Hp} {ta tb : TE} {a b : Int}
theorem evi_v {i : Nat} (h : σ[i]? = some (some (.int a))) : EvI (tVar i) σ a := fun H Q q => ⟨_, h, q⟩
theorem evi_c : EvI (tC (.int a)) σ a := fun H Q q => q
theorem evi_0 {g : Int → Int → Int} (h1 : EvI ta σ a) (h2 : EvI tb σ b) : EvI (tOp (rI0 fun i j => .int (g i j)) ta tb) σ (g a b) := fun H Q q => h1 H _ (h2 H _ ⟨a, b, rfl, rfl, q⟩)
theorem evd_i (h : EvI ta σ a) : EvD K ta σ H (.int a) := fun H1 _ Q q => h H1 Q (q _ _ (Same.refl _) (.int a))
theorem evd_2 (h1 : EvI ta σ a) (h2 : EvI tb σ b) : EvD K (tTup (tCons ta (tCons tb tNil))) σ H (.tuple [.int a, .int b]) := fun H1 _ Q q =>
  h1 H1 _ (h2 H1 _ ⟨by show 2 ≤ sizeLine; decide, fun p np => q _ _ (same_new np) (DT.new (.cons (.int a) (.cons (.int b) .nil)) np)⟩)
def pick4D (w : Int) (d0 d1 d2 d3 : PyData) : PyData := if w = 0 then d0 else if w = 1 then d1 else if w = 2 then d2 else d3
theorem r_disp4 {t0 t1 t2 t3 : TE} {d0 d1 d2 d3 : PyData} {j : Nat} {w : Int} {Q : VK} (e0 : EvD K t0 σ H d0) (e1 : EvD K t1 σ H d1) (e2 : EvD K t2 σ H d2) (e3 : EvD K t3 σ H d3) (hk : σ[j]? = some (some (.int w))) (w0 : 0 ≤ w) (w3 : w ≤ 3)
    (q : ∀ v H', Same H H' → DT K H' v (pick4D w d0 d1 d2 d3) → Q v H') : tDGet (tDisp [(tC (.int 0), t0), (tC (.int 1), t1), (tC (.int 2), t2), (tC (.int 3), t3)]) (tVar j) σ H Q := by
  intro p np
  have s0 : Same H (upd H p (.dK [])) := same_new np
  refine e0 _ s0 _ fun v0 H1 s1 x0 => ?_
  refine e1 _ (s0.trans s1) _ fun v1 H2 s2 x1 => ?_
  refine e2 _ ((s0.trans s1).trans s2) _ fun v2 H3 s3 x2 => ?_
  refine e3 _ (((s0.trans s1).trans s2).trans s3) _ fun v3 H4 s4 x3 => ?_
  have s14 := ((s1.trans s2).trans s3).trans s4
  have hp : H4 p = some (.dK []) := s14 _ _ upd_same
  refine ⟨hp, [(Sum.inl 0, v0), (Sum.inl 1, v1), (Sum.inl 2, v2), (Sum.inl 3, v3)], rfl, by show 4 ≤ 15; decide, ?_⟩
  have tk := tk_setD (o := HO.dK (mergeK [] [(Sum.inl 0, v0), (Sum.inl 1, v1), (Sum.inl 2, v2), (Sum.inl 3, v3)])) hp
  have sH : Same H (upd H4 p (HO.dK (mergeK [] [(Sum.inl 0, v0), (Sum.inl 1, v1), (Sum.inl 2, v2), (Sum.inl 3, v3)]))) := fun c o h => by
    rw [upd_ne (ne_of_none h np)]
    exact s14 _ _ (s0 _ _ h)
  rcases way4 w0 w3 with rfl | rfl | rfl | rfl
  · exact ⟨.int 0, hk, p, v0, rfl, .inl ⟨_, Sum.inl 0, .inl upd_same, rfl, rfl⟩, q _ _ sH (x0.up (((tk_same s2).trans ((tk_same s3).trans (tk_same s4))).trans tk))⟩
  · exact ⟨.int 1, hk, p, v1, rfl, .inl ⟨_, Sum.inl 1, .inl upd_same, rfl, rfl⟩, q _ _ sH (x1.up (((tk_same s3).trans (tk_same s4)).trans tk))⟩
  · exact ⟨.int 2, hk, p, v2, rfl, .inl ⟨_, Sum.inl 2, .inl upd_same, rfl, rfl⟩, q _ _ sH (x2.up ((tk_same s4).trans tk))⟩
  · exact ⟨.int 3, hk, p, v3, rfl, .inl ⟨_, Sum.inl 3, .inl upd_same, rfl, rfl⟩, q _ _ sH (x3.up tk)⟩
end
/-! ### calls by names alone -/
section
variable {X : Cx} {k : Nat} {f : Addr} {fd : FuncData} {ps ks : List Str} {sp : Sp} {E : XK} {x : Str} {p pos : Pos} {kws : List Keyword} {tk : TA} {g : List Value → List Value → List Value} {gV : List V → List V → List V}
theorem pe_kw0 (F : FnOk X.prog X.w X.K X.mg X.base CX0 k f fd ps sp) (room : Room k X.A) (gl : Gl X x) (at_ : X.mg x = some (.ref f)) (kp : PySem.W.keepIn X.K (.ref f) = true) (kb : KBn X.K fd ps 0 ks g gV) (out : Passes CX0 X E) (kw : PK X kws tk)
    (all_ : (backToKw pos (keywordEach kws X.env)).all (·.1.isSome) = true := by rfl) (names : (backToKw pos (keywordEach kws X.env)).filterMap (·.1) = ks := by rfl) (nodb : (x == ("__debug__" : Str)) = false := by decide)
    (plain : ((backTo pos (starEach [] X.env)).any (·.1) || (backToKw pos (keywordEach kws X.env)).any (·.1.isNone)) = false := by rfl) : PE X (.Call (.Name x p) [] kws pos) (tCallN 0 ks.length sp gV E tNil tk) :=
  ⟨fun pins s σ H Q I h => wpAny_Call_Name_kw (ld_glob I gl at_ (PySem.W.callWith_KW0 (h₀ := X.base) I.ok.mod.kin kp all_ (thn (kw.run pos pins s σ H _ I h) fun ws s2 ⟨zs, H2, I2, rz, l1, l2, q2⟩ => ⟨I2.kIn, by
    rw [names]
    exact run_fnN (us := []) (vs := []) F room kb out I2 .nil rz rfl l2 q2⟩) plain) nodb)⟩
end
def swap2 {α : Type} : List α → List α
  | [a, b] => [b, a]
  | l => l
theorem vals_swap2 {zs : List V} {ws : List Value} (r : Vals zs ws) : Vals (swap2 zs) (swap2 ws) := by
  cases r with
  | nil => exact .nil
  | cons a t => cases t with
    | nil => exact .cons a .nil
    | cons b t => cases t with
      | nil => exact .cons b (.cons a .nil)
      | cons c t => exact .cons a (.cons b (.cons c t))
theorem script_keep {K : PySem.W.Frag} {H0 : Hp} {a b : Addr} {xs : List V} (h : SqL K H0 a xs) (nb : H0 b = none) : ∀ H1 H2 : Hp, But b H1 H2 → SqL K H1 a xs → SqL K H2 a xs := fun H1 H2 e h1 => by
  rcases h with (h | ⟨o, h⟩) | h
  · rcases h1 with (h1 | ⟨o1, h1⟩) | h1
    · exact .inl (.inl (e _ _ (ne_of_none h nb) h1))
    · exact .inl (.inr ⟨o1, e _ _ (ne_of_none h nb) h1⟩)
    · exact .inr h1
  · rcases h1 with (h1 | ⟨o1, h1⟩) | h1
    · exact .inl (.inl (e _ _ (ne_of_none h nb) h1))
    · exact .inl (.inr ⟨o1, e _ _ (ne_of_none h nb) h1⟩)
    · exact .inr h1
  · exact .inr h
/-- a loop over a written text's signs -/
theorem for_str {x : Str} {g : TG} {tb : TS} {D : Ends} {σ : L2.St} {H : Hp} (Pv : Nat → L2.St → Hp → Prop) (h0 : Pv 0 σ H)
    (hs : ∀ i c σ H, x.cps[i]? = some c → Pv i σ H → g (.str ⟨#[c]⟩) σ H fun σ2 H2 => tb { D with nx := Pv (i + 1), ct := Pv (i + 1), bk := D.nx } σ2 H2) (hd : ∀ σ H, Pv x.cps.size σ H → D.nx σ H) :
    ∃ W : Nat → Nat → L2.St → Hp → Prop, (∃ m, W 0 m σ H) ∧ ∀ i m σ H, W i m σ H →
      ((Its x).stop i H ∧ D.nx σ H) ∨ ((Its x).go i H ∧ ∃ N : L2.St → Hp → Prop, (∀ σ' H', N σ' H' → ∃ m', m' < m ∧ W (i + 1) m' σ' H') ∧ ∀ v H', (Its x).yld i H v H' → g v σ H' fun σ2 H2 => tb { D with nx := N, ct := N, bk := D.nx } σ2 H2) := by
  refine ⟨fun i m σ H => m = x.cps.size - i ∧ i ≤ x.cps.size ∧ Pv i σ H, ⟨x.cps.size, by simp, Nat.zero_le _, h0⟩, ?_⟩
  rintro i m σ H ⟨rfl, hi, p⟩
  by_cases hlt : i < x.cps.size
  · refine .inr ⟨hlt, Pv (i + 1), fun σ' H' p' => ⟨x.cps.size - (i + 1), by omega, rfl, hlt, p'⟩, fun v H' y => ?_⟩
    obtain ⟨e1, c, hc, e2⟩ := y
    subst e1 e2
    exact hs i c σ H' hc p
  · have e : i = x.cps.size := by omega
    subst e
    exact .inl ⟨Nat.le_refl _, hd σ H p⟩
/-! ### gone on -/
def fwdE (x y w look : Int) (r : Sh × Int) (rest : List (Sh × Int)) : PyData := eng (on (x, y) (tn w r.1)).1 (on (x, y) (tn w r.1)).2 (tn w r.1) look (rest ++ [r])
def bwdE (x y w look : Int) (r : Sh × Int) (init : List (Sh × Int)) : PyData := eng (on (x, y) ((w + 2) % 4)).1 (on (x, y) ((w + 2) % 4)).2 (tb w r.1) look (r :: init)
def spFwd (K : PySem.W.Frag) : Sp := fun vs H Q _ => ∃ (v : V) (x y w look : Int) (r : Sh × Int) (rest : List (Sh × Int)), vs = [v] ∧ DT K H v (eng x y w look (r :: rest)) ∧ rest.length ≤ 900 ∧ ∀ v' H', Same H H' → DT K H' v' (fwdE x y w look r rest) → Q v' H'
def spBwd (K : PySem.W.Frag) : Sp := fun vs H Q _ => ∃ (v : V) (x y w look : Int) (r : Sh × Int) (init : List (Sh × Int)), vs = [v] ∧ DT K H v (eng x y w look (init ++ [r])) ∧ init.length ≤ 900 ∧ ∀ v' H', Same H H' → DT K H' v' (bwdE x y w look r init) → Q v' H'
def spGone (K : PySem.W.Frag) : Sp := fun vs H Q _ => ∃ (v : V) (x y w look : Int) (rs : List (Sh × Int)), vs = [v] ∧ DT K H v (eng x y w look rs) ∧ rs ≠ [] ∧ rs.length ≤ 900 ∧
  ∀ v' H', Same H H' → (∀ r rest, rs = r :: rest → look = 1 → DT K H' v' (fwdE x y w look r rest)) → (∀ init r, rs = init ++ [r] → look ≠ 1 → DT K H' v' (bwdE x y w look r init)) → Q v' H'
def spHand (K : PySem.W.Frag) : Sp := fun vs H Q _ => ∃ (v : V) (x y w look : Int) (rs : List (Sh × Int)), vs = [v] ∧ DT K H v (eng x y w look rs) ∧ ∀ v' H', Same H H' → DT K H' v' (eng x y w (-look) rs) → Q v' H'
def spBack : Sp := fun vs H Q _ => ∃ (w : Int) (s : Sh), vs = [.int w, .str s.str] ∧ ∀ H', Same H H' → Q (.int (tb w s)) H'
theorem cut_1n (d : PyData) (ds : List PyData) : cutD (d :: ds) (some 1) none = ds := by
  have e1 : HT.sIx (d :: ds).length 0 (some 1) = 1 := by
    rw [show (some (1 : Int)) = some ((1 : Nat) : Int) from rfl, HT.sIx_nat, List.length_cons]
    omega
  unfold cutD
  rw [e1, HT.sIx_none, List.length_cons]
  show List.take (ds.length + 1 - 1) ds = ds
  rw [Nat.add_sub_cancel, List.take_length]
theorem cut_n1 (d : PyData) (ds : List PyData) : cutD (d :: ds) none (some 1) = [d] := by
  have e1 : HT.sIx (d :: ds).length (d :: ds).length (some 1) = 1 := by
    rw [show (some (1 : Int)) = some ((1 : Nat) : Int) from rfl, HT.sIx_nat, List.length_cons]
    omega
  unfold cutD
  rw [e1, HT.sIx_none]
  rfl
theorem six_m1 (n k : Nat) : HT.sIx (n + 1) k (some (-1)) = n := by
  show (if (-1 : Int) < 0 then ((-1 : Int) + ((n + 1 : Nat) : Int)).toNat else min (-1 : Int).toNat (n + 1)) = n
  rw [if_pos (by decide)]
  omega
theorem cut_l1 (d : PyData) (ds : List PyData) : cutD (ds ++ [d]) (some (-1)) none = [d] := by
  unfold cutD
  have e : (ds ++ [d]).length = ds.length + 1 := by
    rw [List.length_append]
    rfl
  rw [e, six_m1, HT.sIx_none, List.drop_left, Nat.add_sub_cancel_left]
  rfl
theorem cut_i1 (d : PyData) (ds : List PyData) : cutD (ds ++ [d]) none (some (-1)) = ds := by
  unfold cutD
  have e : (ds ++ [d]).length = ds.length + 1 := by
    rw [List.length_append]
    rfl
  rw [e, six_m1, HT.sIx_none, List.drop_zero, Nat.sub_zero, List.take_left]
theorem rail_at {K : PySem.W.Frag} {H : Hp} {v : V} {r : Sh × Int} (h : DT K H v (rail r)) : ∃ a, v = .ref a ∧ SqT K H a [.str r.1.str, .int r.2] := by
  obtain ⟨a, xs, rfl, hs, hx⟩ := h.tupOf
  obtain ⟨v1, v2, rfl, d1, d2⟩ := hx.two
  cases d1.strOf
  cases d2.intOf
  exact ⟨a, rfl, hs⟩
theorem iteNe {d e : PyData} {A B : Prop} (h : PyData.eqv d e = true) (k : B) : if (!PyData.eqv d e) = true then A else B := by
  rw [h]
  exact iteF k
theorem small12 {n : Nat} (h : n ≤ 12) : n < sizeLine := Nat.lt_of_le_of_lt h (by decide)
end OR

namespace K05
open PySem PySem.Spec PyProof.Rows L2 OR
/-! ### promises of calls that are made while no repr is under way -/
structure FnG (P : Program) (w : World) (K : PySem.W.Frag) (mg : Str → Option Value) (base : Heap) (k : Nat) (f : Addr) (fd : FuncData) (ps : List Str) (sp : Sp) : Prop where
  len : ∀ vs H Q E, sp vs H Q E → vs.length = ps.length
  run : ∀ (A : Around) (outer : List Env) (s : Shared) (H : Hp) (args : Args) (us : List Value) (vs : List V) (Q : VK) (E : XK), Room k A → A.guards = some [] → Env0 P w K mg base A outer s H →
    BindsTo s fd args (ps.zip us) → Vals vs us → sp vs H Q E → codeAny (model P w) A (.call (.ref f) args) (CR CX0 outer P w H s Q E) s
section
variable {P : Program} {w : World} {K : PySem.W.Frag} {mg : Str → Option Value} {base : Heap}
theorem okG {x qual : Str} {st : Stmt} {f : Addr} {fd : FuncData} {N ps : List Str} {k : Nat} {sp : Sp} (F : Fun K x qual st f fd) (S : FnScope N ps (defScope st)) (len : ∀ vs H Q E, sp vs H Q E → vs.length = ps.length)
    (walk : ∀ (cdv : Value) (A : Around) (outer : List Env) (s : Shared) (H : Hp) (vs : List V) (Q : VK) (E : XK), Room k (A.deeper (envOfC qual (defScope st) s.heap.objs.size f cdv)) → A.guards = some [] → sp vs H Q E →
      ∃ t, PSs (cxOf CX0 P w K mg base N qual (defScope st) f cdv A outer s H E).nox (defBody st) t ∧ t { nx := fun _ H' => Q .non H', rt := Q } (start N vs) H) : FnG P w K mg base (k + 1) f fd ps sp := by
  obtain ⟨_, _, _, _, _, _, cd, _, _, rfl, stands, coded⟩ := F.ex
  refine ⟨len, fun A outer s H args us vs Q E room free env bind rel pr => ?_⟩
  obtain ⟨t, steps, reading⟩ := walk cd A outer s H vs Q E (room.deeper _) free pr
  have here : K.In s.heap := env.mod.kin.keeps fun c o e => (env.bs c o e).1
  refine codeAny_call_function room.depth (here _ _ stands) rfl S.co S.gen rfl (PySem.W.codeRec_of here coded) (bind _ _ _ _ (wpAny_newFunctionEnv_cells S.kind (fun y hy => ?_) fun e1 he1 s1 entry => ?_))
  · exact (S.par y.1 (List.of_mem_zip (show (y.1, y.2) ∈ ps.zip us from hy)).1).elim .inl fun c => .inr ⟨c, PySem.W.cellsFrom_some _ _ _ (.inl c)⟩
  · cases he1
    refine ⟨(env.mod.nolimit.keeps fun c o e => (env.bs c o e).1).keeps entry.toInCall.keep, codeAny_func ?_⟩
    refine wpAny_mono (steps.nox.run [] s1 (start N vs) H _ (inv_start S room.hd env (len _ _ _ _ pr) rel entry) reading) (fun fl s2 ends => ?_) fun e s2 h => h
    match fl, ends with
    | .ret u, ⟨v, σ2, H2, J, rv, q⟩ => exact ⟨v, H2, J.os, J.bare, J.base, J.hok, rv, q⟩
    | .next, ⟨σ2, H2, J, q⟩ => exact ⟨.non, H2, J.os, J.bare, J.base, J.hok, rfl, q⟩
    | .brk, ⟨_, _, _, q⟩ => exact q.elim
    | .cont, ⟨_, _, _, q⟩ => exact q.elim
end
section
variable {X : Cx} {k : Nat} {f : Addr} {fd : FuncData} {ps : List Str} {sp : Sp} {x : Str} {p pos : Pos} {e : Expr} {es : List Expr} {t : TA} {E : XK}
theorem pe_callG (F : FnG X.prog X.w X.K X.mg X.base k f fd ps sp) (room : Room k X.A) (free : X.A.guards = some []) (gl : Gl X x) (at_ : X.mg x = some (.ref f)) (kp : PySem.W.keepIn X.K (.ref f) = true) (bn : Binds X.K fd ps []) (out : Passes CX0 X E)
    (ar : PA X (e :: es) t) (nodb : (x == ("__debug__" : Str)) = false := by decide) (star : starEach (e :: es) X.env = (false, eval e X.env) :: starEach es X.env := by rfl) (plain : (backTo pos (starEach es X.env)).any (·.1) = false := by rfl) :
    PE X (.Call (.Name x p) (e :: es) [] pos) (tCall sp [] E t) := by
  refine ⟨fun pins s σ H Q I h => wpAny_Call_Name_kw (ld_glob I gl at_ (PySem.W.callWith_K (h₀ := X.base) I.ok.mod.kin kp (thn (ar.run pos pins s σ H _ I h) fun us s1 ⟨vs, H1, J, r, q⟩ => ⟨J.kIn, ?_⟩) star plain) nodb)⟩
  have q1 : sp vs H1 Q E := by
    have q0 : sp (vs ++ []) H1 Q E := q
    rw [List.append_nil] at q0
    exact q0
  have b1 := bn s1 us J.kIn (by rw [List.append_nil, ← r.length]; exact F.len _ _ _ _ q1)
  rw [List.append_nil] at b1
  refine wpAny_call (codeAny_mono (F.run X.A X.stack s1 H1 ⟨us, []⟩ us vs Q E room free J.env0 b1 r q1) fun res s2 hq => ?_)
  match res, hq with
  | .error e, hq => exact out pins σ H1 s1 e s2 J hq
  | .ok (.ret u), hq => exact J.after hq
end
/-- repr of data: its text hangs on the data alone -/
theorem call_reprD {X : Cx} (free : X.A.guards = some []) (hu : X.A.units + 65 < cLine) : CallR X (.builtin "repr") (fun xs H Q => ∃ (a : Addr) (d : PyData), xs = [.ref a] ∧ Dp X.K H (.ref a) d ∧ d.showable = true ∧ d.hasDict = false ∧ d.depth + 1 ≤ 64 ∧ d.shown.length ≤ sizeLine ∧ Q (.str d.shown) H) := by
  intro pins s σ H xs us Q I r h
  obtain ⟨a, d, rfl, hd, hs, hn, hz, hl, q⟩ := h
  obtain ⟨u, rfl, ru⟩ := vals1 r
  cases ru
  obtain ⟨as, rd⟩ := Dp.reads I d (.ref a) (.ref a) hd rfl
  refine repr_of_reads' rd hs (fun z => by rw [hn] at z; cases z) free (by omega) (fun _ _ e => e) (fun h' u tk hk => ?_) hl
  exact ⟨.str d.shown, H, I.kept hk, ⟨_, rfl⟩, q⟩
/-! ### the law's own call, with nothing under way -/
section
variable {P : Program} {w : World} {K : PySem.W.Frag} {mg mb : Str → Option Value} {k : Nat} {fa a : Addr} {fd : FuncData} {x : Str} {sp : Sp} {s1 : Shared} {vs : List Value} {ns : List Int}
/-- what is tracked at the begin: the script alone, locked, or nothing where the top holds it -/
theorem first_heap (KX : K.In s1.heap) (ha : s1.heap.get? a = some { cls := .type "list", data := .seq vs.toArray }) (hi : IntsAre vs ns) (hl : ns.length ≤ sizeLine) :
    ∃ H : Hp, SqL K H a (ns.map V.int) ∧ HOk P w H s1.heap ∧ ∀ b, H b = none ∨ (b = a ∧ K.lookup a = none ∧ ∃ u, H a = some (.frz { cls := .type "list", data := .seq vs.toArray } u)) := by
  have rel := vals_ints hi
  have size := hi.length
  match top : K.lookup a with
  | some o =>
    have same := (KX a o top).symm.trans ha
    cases same
    exact ⟨fun _ => none, .inr ⟨_, vs.toArray, _, top, rfl, rfl, rfl, by rw [List.size_toArray, size]; exact hl, by simpa using rel⟩, fun b u z => (nomatch (show (none : Option HO) = some u from z)), fun b => .inl rfl⟩
  | none =>
    refine ⟨upd (fun _ => none) a (.frz { cls := .type "list", data := .seq vs.toArray } (.lst (ns.map V.int))), .inl (.inr ⟨_, upd_same⟩), fun b u z => ?_, fun b => ?_⟩
    · by_cases at_ : b = a
      · subst at_
        rw [upd_same] at z
        cases z
        exact ⟨ha, by rw [List.length_map]; exact hl, vs, _, rel, ha⟩
      · rw [upd_ne at_] at z
        cases z
    · by_cases at_ : b = a
      · exact .inr ⟨at_, rfl, _, upd_same⟩
      · exact .inl (upd_ne at_)
theorem law_callG (KX : K.In s1.heap) (hns : s1.heap.Ns mainGlobals mg) (hbn : s1.heap.Ns builtinsNs mb) (hbb : ∀ x : Str, x ≠ "__name__" → mb x = bootBuiltins x) (hlim : s1.heap.NoLimit) (hg : s1.gens = #[])
    (ha : s1.heap.get? a = some { cls := .type "list", data := .seq vs.toArray }) (hi : IntsAre vs ns) (hl : ns.length ≤ sizeLine) (room : Room k callerA)
    (F : ∀ base : Heap, FnG P w K mg base k fa fd [x] sp) (bind : ∀ (s : Shared) (u : Value), BindsTo s fd ⟨[u], []⟩ [(x, u)]) (hsp : ∀ H : Hp, SqL K H a (ns.map V.int) → sp [.ref a] H (fun v _ => v = .bl true) E0) :
    codeAny (model P w) callerA (.call (.ref fa) ⟨[.ref a], []⟩) (fun r s' => r = .ok (.ret (.bool true)) ∧ OldK s1.heap s'.heap ∧ s'.os = s1.os ∧ AllBare s'.gens) s1 := by
  obtain ⟨H, script, held, only⟩ := first_heap (P := P) (w := w) KX ha hi hl
  have free : ∀ {b : Addr} {o : Obj}, s1.heap.get? b = some o → (∀ it n, o.data ≠ .seq it n) → H b = none := fun {b o} e nl => (only b).elim id fun ⟨z, _⟩ => by
    subst z
    cases e.symm.trans ha
    exact absurd rfl (nl _ _)
  have spaces : ∀ {b : Addr} {m : Str → Option Value}, s1.heap.Ns b m → (hidT s1.heap H).Ns b m := fun ⟨o, es, ep, e, d, r⟩ => ⟨o, es, ep, hidT_get e (free e fun it n z => by rw [d] at z; cases z), d, r⟩
  have inBase : K.In (hidT s1.heap H) := fun b o e => hidT_get (KX b o e) ((only b).elim id fun ⟨z, no, _⟩ => by
    rw [z, no] at e
    cases e)
  have env : Env0 P w K mg (hidT s1.heap H) callerA [] s1 H :=
    { frames := rfl, mod := ⟨inBase, spaces hns, ⟨mb, spaces hbn, hbb⟩, hlim.elim fun mc h => ⟨mc, spaces h.1, h.2⟩⟩, bs := fun b o e => of_hidT e, bsz := Nat.le_of_eq (hidT_size _ _), funs := trivial, frf := fun b hb => (nomatch (show b ∈ ([] : List Addr) from hb)), hok := held, bare := .of_eq hg }
  refine codeAny_mono ((F _).run callerA [] s1 H ⟨[.ref a], []⟩ [.ref a] [.ref a] _ _ room rfl env (bind s1 (.ref a)) (.cons rfl .nil) (hsp H script)) fun r s2 ends => ?_
  match r, ends with
  | .ok (.ret u), ⟨v, H2, os, bare, un, held2, rv, (is : v = .bl true)⟩ =>
    subst is
    cases (show u = Value.bool true from rv)
    refine ⟨rfl, OldK.of_keep fun b o e => ?_, os, bare⟩
    match only b with
    | .inl n => exact un.keep b o e n (fun z => (nomatch (show b ∈ ([] : List Addr) from z))) (fun z => (nomatch (show b ∈ ([] : List Addr) from z)))
    | .inr ⟨z, _, u2, hz⟩ =>
      subst z
      have l1 := (held b _ hz).1
      have l2 := (held2 b _ (un.frzs b _ _ hz)).1
      exact (l2.trans (l1.symm.trans e))
end
theorem walk_ofG {l : PySem.W.OpenLaw} {n k : Nat} {q : Program} {loose : List Str} {XP : (Str → Option Value) → Heap → Prop} {YP : World → Heap → Prop} {d : DefRec} {K : Params → PySem.W.Frag} {sp : World → Sp} {x : Str} (hn : l.most = some n) (hn2 : n ≤ sizeLine) (hdf : d.params.defaults = []) (room : Room k callerA)
    (top : ∀ (w : World) (h : Heap), YP w h → (K w.params).In h)
    (F : ∀ (w : World) (mg : Str → Option Value) (fa : Addr) (h : Heap), (K w.params).In h → h.Ns mainGlobals mg → mg d.name = some (.ref fa) → ∃ fd : FuncData, (∀ (s : Shared) (u : Value), BindsTo s fd ⟨[u], []⟩ [(x, u)]) ∧ ∀ base : Heap, FnG l.prog w (K w.params) mg base k fa fd [x] (sp w))
    (hsp : ∀ (w : World) (H : Hp) (a : Addr) (ns : List Int), ns.length ≤ n → SqL (K w.params) H a (ns.map V.int) → sp w [.ref a] H (fun v _ => v = .bl true) E0) :
    PySem.W.WalkO q loose XP YP l.row.toRowW d [] (fun f vs => PySem.call f vs) :=
  Att.attach_call hn hdf fun w s0 s1 mg mb fa o pm cd doc a vs ns G Y ho hd hcd hmg hobj hints hlen hg => by
    obtain ⟨fd, hb, hF⟩ := F w mg fa _ (top w _ Y) G.T.g hmg
    exact law_callG (top w _ Y) G.T.g G.T.b G.T.builtins G.T.nolimit hg hobj hints (Nat.le_trans hlen hn2) room hF hb fun H hS => hsp w H a ns hlen hS
def topS (i : Nat) : Stmt := PySem.Challenge.pw_ownrail_k05_gone_on_and_turned.main.body.getD i (.Pass ⟨0, 0, 0, 0⟩)
abbrev s_way_on : Stmt := topS 3
abbrev N_way_on : List Str := ["way", "shape"]
theorem sc_way_on : FnScope N_way_on ["way", "shape"] (defScope s_way_on) := ⟨rfl, rfl, rfl, by decide +kernel, rfl, by decide +kernel, by decide +kernel⟩
abbrev s_way_behind : Stmt := topS 4
abbrev N_way_behind : List Str := ["way", "shape"]
theorem sc_way_behind : FnScope N_way_behind ["way", "shape"] (defScope s_way_behind) := ⟨rfl, rfl, rfl, by decide +kernel, rfl, by decide +kernel, by decide +kernel⟩
abbrev s_way_about : Stmt := topS 5
abbrev N_way_about : List Str := ["way"]
theorem sc_way_about : FnScope N_way_about ["way"] (defScope s_way_about) := ⟨rfl, rfl, rfl, by decide +kernel, rfl, by decide +kernel, by decide +kernel⟩
abbrev s_onward : Stmt := topS 6
abbrev N_onward : List Str := ["square", "way", "steps", "x", "y", "dx", "dy"]
theorem sc_onward : FnScope N_onward ["square", "way", "steps"] (defScope s_onward) := ⟨rfl, rfl, rfl, by decide +kernel, rfl, by decide +kernel, by decide +kernel⟩
abbrev s_gone_on : Stmt := topS 8
abbrev N_gone_on : List Str := ["engine", "x", "y", "way", "look", "rails"]
theorem sc_gone_on : FnScope N_gone_on ["engine"] (defScope s_gone_on) := ⟨rfl, rfl, rfl, by decide +kernel, rfl, by decide +kernel, by decide +kernel⟩
abbrev s_gone_forward : Stmt := topS 9
abbrev N_gone_forward : List Str := ["engine", "x", "y", "way", "look", "rails", "shape", "colour", "next_way", "next_x", "next_y"]
theorem sc_gone_forward : FnScope N_gone_forward ["engine"] (defScope s_gone_forward) := ⟨rfl, rfl, rfl, by decide +kernel, rfl, by decide +kernel, by decide +kernel⟩
abbrev s_gone_back : Stmt := topS 10
abbrev N_gone_back : List Str := ["engine", "x", "y", "way", "look", "rails", "shape", "colour", "next_x", "next_y"]
theorem sc_gone_back : FnScope N_gone_back ["engine"] (defScope s_gone_back) := ⟨rfl, rfl, rfl, by decide +kernel, rfl, by decide +kernel, by decide +kernel⟩
abbrev s_turned_by_hand : Stmt := topS 11
abbrev N_turned_by_hand : List Str := ["engine", "x", "y", "way", "look", "rails"]
theorem sc_turned_by_hand : FnScope N_turned_by_hand ["engine"] (defScope s_turned_by_hand) := ⟨rfl, rfl, rfl, by decide +kernel, rfl, by decide +kernel, by decide +kernel⟩
abbrev s_painted : Stmt := topS 12
abbrev N_painted : List Str := ["engine", "place", "colour", "x", "y", "way", "look", "rails", "shape", "elder"]
theorem sc_painted : FnScope N_painted ["engine", "place", "colour"] (defScope s_painted) := ⟨rfl, rfl, rfl, by decide +kernel, rfl, by decide +kernel, by decide +kernel⟩
abbrev s__law_box : Stmt := topS 14
abbrev N__law_box : List Str := ["_law_script", "_law_k", "_law_cell", "_law_seed"]
theorem sc__law_box : FnScope N__law_box ["_law_script", "_law_k"] (defScope s__law_box) := ⟨rfl, rfl, rfl, by decide +kernel, rfl, by decide +kernel, by decide +kernel⟩
abbrev s__law_take : Stmt := topS 15
abbrev N__law_take : List Str := ["_law_box_here", "_law_many", "_law_digit", "_law_one"]
theorem sc__law_take : FnScope N__law_take ["_law_box_here", "_law_many"] (defScope s__law_take) := ⟨rfl, rfl, rfl, by decide +kernel, rfl, by decide +kernel, by decide +kernel⟩
abbrev s__law_turned : Stmt := topS 16
abbrev N__law_turned : List Str := ["_law_way", "_law_shape"]
theorem sc__law_turned : FnScope N__law_turned ["_law_way", "_law_shape"] (defScope s__law_turned) := ⟨rfl, rfl, rfl, by decide +kernel, rfl, by decide +kernel, by decide +kernel⟩
abbrev s__law_on : Stmt := topS 17
abbrev N__law_on : List Str := ["_law_square", "_law_way", "_law_x", "_law_y"]
theorem sc__law_on : FnScope N__law_on ["_law_square", "_law_way"] (defScope s__law_on) := ⟨rfl, rfl, rfl, by decide +kernel, rfl, by decide +kernel, by decide +kernel⟩
abbrev s__law_engine : Stmt := topS 18
abbrev N__law_engine : List Str := ["_law_box_here", "_law_many", "_law_far", "_law_x", "_law_y", "_law_way", "_law_look", "_law_rails", "_law_squares", "_law_here", "_law_ahead", "_law_turn", "_law_shape", "_law_colour"]
theorem sc__law_engine : FnScope N__law_engine ["_law_box_here", "_law_many", "_law_far"] (defScope s__law_engine) := ⟨rfl, rfl, rfl, by decide +kernel, rfl, by decide +kernel, by decide +kernel⟩
abbrev s__law_alike : Stmt := topS 19
abbrev N__law_alike : List Str := ["_law_found", "_law_due", "_law_one", "_law_other"]
theorem sc__law_alike : FnScope N__law_alike ["_law_found", "_law_due"] (defScope s__law_alike) := ⟨rfl, rfl, rfl, by decide +kernel, rfl, by decide +kernel, by decide +kernel⟩
abbrev s__law_gone : Stmt := topS 20
abbrev N__law_gone : List Str := ["_law_engine_here", "_law_x", "_law_y", "_law_way", "_law_look", "_law_rails", "_law_ahead", "_law_shape", "_law_behind"]
theorem sc__law_gone : FnScope N__law_gone ["_law_engine_here"] (defScope s__law_gone) := ⟨rfl, rfl, rfl, by decide +kernel, rfl, by decide +kernel, by decide +kernel⟩
abbrev s__law_right : Stmt := topS 21
abbrev N__law_right : List Str := ["_law_box_here", "_law_engine_here", "_law_kept", "_law_found", "_law_at", "_law_shade", "_law_rails", "_law_due"]
theorem sc__law_right : FnScope N__law_right ["_law_box_here", "_law_engine_here"] (defScope s__law_right) := ⟨rfl, rfl, rfl, by decide +kernel, rfl, by decide +kernel, by decide +kernel⟩
abbrev s_law : Stmt := topS 22
abbrev N_law : List Str := ["_law_script", "_law_k", "_law_box_here", "_law_engine_here", "_law_one"]
theorem sc_law : FnScope N_law ["_law_script"] (defScope s_law) := ⟨rfl, rfl, rfl, by decide +kernel, rfl, by decide +kernel, by decide +kernel⟩
structure Txt (K : PySem.W.Frag) (w : World) (mg : Str → Option Value) where
  f_way_on : Addr
  fd_way_on : FuncData
  F_way_on : Fun K "way_on" "way_on" s_way_on f_way_on fd_way_on
  b_way_on : Binds K fd_way_on ["way", "shape"] []
  g_way_on : mg "way_on" = some (.ref f_way_on)
  f_way_behind : Addr
  fd_way_behind : FuncData
  F_way_behind : Fun K "way_behind" "way_behind" s_way_behind f_way_behind fd_way_behind
  b_way_behind : Binds K fd_way_behind ["way", "shape"] []
  g_way_behind : mg "way_behind" = some (.ref f_way_behind)
  f_way_about : Addr
  fd_way_about : FuncData
  F_way_about : Fun K "way_about" "way_about" s_way_about f_way_about fd_way_about
  b_way_about : Binds K fd_way_about ["way"] []
  g_way_about : mg "way_about" = some (.ref f_way_about)
  f_gone_on : Addr
  fd_gone_on : FuncData
  F_gone_on : Fun K "gone_on" "gone_on" s_gone_on f_gone_on fd_gone_on
  b_gone_on : Binds K fd_gone_on ["engine"] []
  g_gone_on : mg "gone_on" = some (.ref f_gone_on)
  f_gone_forward : Addr
  fd_gone_forward : FuncData
  F_gone_forward : Fun K "gone_forward" "gone_forward" s_gone_forward f_gone_forward fd_gone_forward
  b_gone_forward : Binds K fd_gone_forward ["engine"] []
  g_gone_forward : mg "gone_forward" = some (.ref f_gone_forward)
  f_gone_back : Addr
  fd_gone_back : FuncData
  F_gone_back : Fun K "gone_back" "gone_back" s_gone_back f_gone_back fd_gone_back
  b_gone_back : Binds K fd_gone_back ["engine"] []
  g_gone_back : mg "gone_back" = some (.ref f_gone_back)
  f_turned_by_hand : Addr
  fd_turned_by_hand : FuncData
  F_turned_by_hand : Fun K "turned_by_hand" "turned_by_hand" s_turned_by_hand f_turned_by_hand fd_turned_by_hand
  b_turned_by_hand : Binds K fd_turned_by_hand ["engine"] []
  g_turned_by_hand : mg "turned_by_hand" = some (.ref f_turned_by_hand)
  f_painted : Addr
  fd_painted : FuncData
  F_painted : Fun K "painted" "painted" s_painted f_painted fd_painted
  b_painted : Binds K fd_painted ["engine", "place", "colour"] []
  g_painted : mg "painted" = some (.ref f_painted)
  f__law_box : Addr
  fd__law_box : FuncData
  F__law_box : Fun K "_law_box" "_law_box" s__law_box f__law_box fd__law_box
  b__law_box : Binds K fd__law_box ["_law_script", "_law_k"] []
  g__law_box : mg "_law_box" = some (.ref f__law_box)
  f__law_take : Addr
  fd__law_take : FuncData
  F__law_take : Fun K "_law_take" "_law_take" s__law_take f__law_take fd__law_take
  b__law_take : Binds K fd__law_take ["_law_box_here", "_law_many"] []
  g__law_take : mg "_law_take" = some (.ref f__law_take)
  f__law_turned : Addr
  fd__law_turned : FuncData
  F__law_turned : Fun K "_law_turned" "_law_turned" s__law_turned f__law_turned fd__law_turned
  b__law_turned : Binds K fd__law_turned ["_law_way", "_law_shape"] []
  g__law_turned : mg "_law_turned" = some (.ref f__law_turned)
  f__law_on : Addr
  fd__law_on : FuncData
  F__law_on : Fun K "_law_on" "_law_on" s__law_on f__law_on fd__law_on
  b__law_on : Binds K fd__law_on ["_law_square", "_law_way"] []
  g__law_on : mg "_law_on" = some (.ref f__law_on)
  f__law_engine : Addr
  fd__law_engine : FuncData
  F__law_engine : Fun K "_law_engine" "_law_engine" s__law_engine f__law_engine fd__law_engine
  b__law_engine : Binds K fd__law_engine ["_law_box_here", "_law_many", "_law_far"] []
  g__law_engine : mg "_law_engine" = some (.ref f__law_engine)
  f__law_alike : Addr
  fd__law_alike : FuncData
  F__law_alike : Fun K "_law_alike" "_law_alike" s__law_alike f__law_alike fd__law_alike
  b__law_alike : Binds K fd__law_alike ["_law_found", "_law_due"] []
  g__law_alike : mg "_law_alike" = some (.ref f__law_alike)
  f__law_gone : Addr
  fd__law_gone : FuncData
  F__law_gone : Fun K "_law_gone" "_law_gone" s__law_gone f__law_gone fd__law_gone
  b__law_gone : Binds K fd__law_gone ["_law_engine_here"] []
  g__law_gone : mg "_law_gone" = some (.ref f__law_gone)
  f__law_right : Addr
  fd__law_right : FuncData
  F__law_right : Fun K "_law_right" "_law_right" s__law_right f__law_right fd__law_right
  b__law_right : Binds K fd__law_right ["_law_box_here", "_law_engine_here"] []
  g__law_right : mg "_law_right" = some (.ref f__law_right)
  m_all : mg "all" = none
  m_bool : mg "bool" = none
  m_dict : mg "dict" = none
  m_int : mg "int" = none
  m_isinstance : mg "isinstance" = none
  m_len : mg "len" = none
  m_list : mg "list" = none
  m_max : mg "max" = none
  m_min : mg "min" = none
  m_range : mg "range" = none
  m_repr : mg "repr" = none
  m_str : mg "str" = none
  m_tuple : mg "tuple" = none
  m_zip : mg "zip" = none
  a_TURNS : Addr
  g_TURNS : mg "TURNS" = some (.ref a_TURNS)
  TURNS : ∀ s : Sh, KDct K w a_TURNS s.str (.int s.t)
  a_STEPS : Addr
  g_STEPS : mg "STEPS" = some (.ref a_STEPS)
  STEPS : ∀ H, DT K H (.ref a_STEPS) (.tuple [sq (0, 1), sq (1, 0), sq (0, -1), sq (-1, 0)])
  f_onward : Addr
  fd_onward : FuncData
  F_onward : FunD K "onward" "onward" (defArgs s_onward) (defBody s_onward) (defScope s_onward) [] [("steps", .int 1)] f_onward fd_onward
  ds_onward : List Value
  v_onward : Vals [.int 1] ds_onward
  b_onward : Binds K fd_onward ["square", "way", "steps"] ds_onward
  g_onward : mg "onward" = some (.ref f_onward)
/-! ### the law's draws -/
section
variable {P : Program} {w : World} {K : PySem.W.Frag} {mg : Str → Option Value} {base : Heap}
theorem ok__law_take (T : Txt K w mg) : FnOk P w K mg base CX0 1 T.f__law_take T.fd__law_take ["_law_box_here", "_law_many"] spTake := by
  refine T.F__law_take.ok sc__law_take (fun vs H Q E h => ?_) (fun cdv A outer s H vs Q E hr h => ?_)
  · obtain ⟨b, m, rfl, _⟩ := h
    rfl
  · obtain ⟨b, m, rfl, ⟨i, s, c, hb⟩, hm, hm2, q⟩ := h
    refine ⟨_, (pss_cons (ps_if (pt_cmpR op_gt (pe_ix ix_list (pv 0) pe_int (fun _ _ => rfl)) pe_int (nomark _))
 (pss_cons (ps_set (i := 2) sc__law_take.nd rfl (.inl rfl) (pe_op op_mod (pe_ix ix_list (pv 0) pe_int (fun _ _ => rfl)) (pv 1)))
 (pss_cons (ps_asg (pe_op op_fdivW (pe_ix ix_list (pv 0) pe_int (fun _ _ => rfl)) (pv 1)) (pg_sub (pv 0) pe_int set_list))
 (pss_one (ps_ret (pv 2)))))
 pss_nil)
 (pss_cons (ps_asg (pe_op op_add (pe_ix ix_list (pv 0) pe_int (fun _ _ => rfl)) pe_int) (pg_sub (pv 0) pe_int set_list))
 (pss_cons (ps_set (i := 3) sc__law_take.nd rfl (.inl rfl) (pe_op op_mod (pe_op op_mul (pe_op op_add (pe_ix ix_list (pv 0) pe_int (fun _ _ => rfl)) (pe_op op_mul pe_int (pe_ix ix_list (pv 0) pe_int (fun _ _ => rfl)))) pe_int) pe_int))
 (pss_cons (ps_asg (pe_op op_add (pe_op op_mod (pe_op op_add (pe_op op_mul (pv 3) pe_int) pe_int) pe_int) pe_int) (pg_sub (pv 0) pe_int set_list))
 (pss_one (ps_ret (pe_op op_mod (pe_op op_fdivW (pe_op op_add (pe_op op_mul (pv 3) pe_int) (pe_ix ix_list (pv 0) pe_int (fun _ _ => rfl))) pe_int) (pv 1)))))))), ?_⟩
    refine ⟨.ref b, rfl, b, _, 0, .int i, rfl, rfl, SqL.of hb, rfl, i, 0, rfl, rfl, _, rfl, ite2 (fun _ => ?_) (fun _ => ?_)⟩
    · refine ⟨.ref b, rfl, b, _, 0, .int i, rfl, rfl, SqL.of hb, rfl, .int m, rfl, i, m, rfl, rfl, hm, ?_⟩
      refine ⟨.ref b, rfl, b, _, 0, .int i, rfl, rfl, SqL.of hb, rfl, .int m, rfl, i, m, rfl, rfl, div_ok hm hm2, ?_⟩
      refine ⟨.ref b, rfl, b, _, 0, 0, rfl, rfl, hb, rfl, ?_⟩
      exact ⟨.int (i % m), rfl, q _ _ (mod_in hm).1 (mod_in hm).2 but_set ⟨_, _, _, upd_same⟩⟩
    · refine ⟨.ref b, rfl, b, _, 2, .int c, rfl, rfl, SqL.of hb, rfl, c, 1, rfl, rfl, ?_⟩
      refine ⟨.ref b, rfl, b, _, 2, 2, rfl, rfl, hb, rfl, ?_⟩
      have h1 : (upd H b (.lst [.int i, .int s, .int (c + 1)])) b = some (.lst [.int i, .int s, .int (c + 1)]) := upd_same
      refine ⟨.ref b, rfl, b, _, 1, .int s, rfl, rfl, SqL.of h1, rfl, .ref b, rfl, b, _, 2, .int (c + 1), rfl, rfl, SqL.of h1, rfl, 104729, c + 1, rfl, rfl, .inl ⟨by decide, by decide⟩, _, _, rfl, rfl, _, 69623, rfl, rfl, .inr ⟨by decide, by decide⟩, _, 2147483647, rfl, rfl, by show (0 : Int) < 2147483647; decide, ?_⟩
      refine ⟨_, rfl, _, 48271, rfl, rfl, .inr ⟨by decide, by decide⟩, _, 30103, rfl, rfl, _, 2147483629, rfl, rfl, by show (0 : Int) < 2147483629; decide, _, 1, rfl, rfl, ?_⟩
      refine ⟨.ref b, rfl, b, _, 1, 1, rfl, rfl, h1, rfl, ?_⟩
      refine ⟨_, rfl, _, 2147483647, rfl, rfl, .inr ⟨by decide, by decide⟩, .ref b, rfl, b, _, 1, _, rfl, rfl, SqL.of upd_same, rfl, _, _, rfl, rfl, _, 8191, rfl, rfl, div_ok (by decide) (by decide), .int m, rfl, _, m, rfl, rfl, hm, ?_⟩
      exact q _ _ (mod_in hm).1 (mod_in hm).2 (but_set.trans but_set) ⟨_, _, _, upd_same⟩
theorem ok__law_box (T : Txt K w mg) : FnOk P w K mg base CX0 1 T.f__law_box T.fd__law_box ["_law_script", "_law_k"] (spBox K) := by
  refine T.F__law_box.ok sc__law_box (fun vs H Q E h => ?_) (fun cdv A outer s H vs Q E hr h => ?_)
  · obtain ⟨a, ns, k, rfl, _⟩ := h
    rfl
  · obtain ⟨a, ns, k, rfl, hS, h0, h6, q⟩ := h
    refine ⟨_, (pss_cons (ps_set (i := 2) sc__law_box.nd rfl (.inl rfl) (pe_op op_add (pe_op op_mul pe_int (pv 1)) pe_int))
 (Evl.pss_cut (ps_if (pt_cmpR op_lt (pv 1) (pe_callB call_len_seq (by rfl) T.m_len (by decide +kernel) (pa_cons (pv 0) pa_nil)) (nomark _))
 (pss_one (ps_set (i := 2) sc__law_box.nd rfl (.inl rfl) (pe_ix ix_list (pv 0) (pv 1) (fun _ _ => rfl))))
 (pss_one (ps_if (pt_cmpR op_gt (pe_callB call_len_seq (by rfl) T.m_len (by decide +kernel) (pa_cons (pv 0) pa_nil)) pe_int (nomark _))
 (pss_one (ps_set (i := 2) sc__law_box.nd rfl (.inl rfl) (pe_op op_add (pv 2) (pe_op op_mul (pe_op op_mod (pe_ix ix_list (pv 0) (pe_op op_mod (pv 1) (pe_callB call_len_seq (by rfl) T.m_len (by decide +kernel) (pa_cons (pv 0) pa_nil))) (fun _ _ => rfl)) pe_int) pe_int))))
 pss_nil)))
 (pss_cons (ps_set (i := 3) sc__law_box.nd rfl (.inl rfl) (pe_op op_add (pe_op op_mod (pe_op op_add (pe_op op_mul (pe_op op_mod (pv 2) pe_int) pe_int) (pe_op op_mul pe_int (pv 1))) pe_int) pe_int))
 (pss_one (ps_ret (pe_lst (pa_cons (pe_ix ix_list (pe_lst (pa_cons pe_int (pa_cons (pv 2) pa_nil))) (pe_callTy call_int1 (by rfl) T.m_int (by decide +kernel) (pa_cons (pe_cmpR op_ge (pv 2) (pe_op op_pow pe_int pe_int) (nomark _)) pa_nil)) (fun _ _ => rfl)) (pa_cons (pv 3) (pa_cons pe_int pa_nil))))))))), ?_⟩
    refine ⟨.int k, rfl, 6263, k, rfl, rfl, .inl ⟨by decide, by decide⟩, _, 31, rfl, rfl, ?_⟩
    refine ⟨fun σ H' => ∃ c : Int, σ = [some (.ref a), some (.int k), some (.int c), none] ∧ H' = H, ?_, ?_⟩
    · refine ⟨.int k, rfl, .ref a, rfl, a, _, rfl, .inl hS, k, _, rfl, rfl, _, rfl, ite2 (fun e => ?_) (fun e => ?_)⟩
      · have e1 := of_decide_eq_true e
        rw [List.length_map] at e1
        obtain ⟨z, hz⟩ := atI_ints h0 e1
        exact ⟨.ref a, rfl, .int k, rfl, a, _, k, .int z, rfl, rfl, hS, hz, z, rfl, rfl⟩
      · refine ⟨.ref a, rfl, a, _, rfl, .inl hS, _, 0, rfl, rfl, _, rfl, ite2 (fun e => ?_) (fun e => ?_)⟩
        · have e1 := of_decide_eq_true e
          have e2 : (0 : Int) < ((ns.map V.int).length : Int) := e1
          have m2 := mod_in (a := k) e2
          obtain ⟨z, hz⟩ := atI_ints (ns := ns) m2.1 (by have := m2.2; rw [List.length_map] at this; rw [List.length_map]; exact this)
          refine ⟨.int (6263 * k + 31), rfl, .ref a, rfl, .int k, rfl, .ref a, rfl, a, _, rfl, .inl hS, k, _, rfl, rfl, e1, a, _, _, .int z, rfl, rfl, hS, hz, z, 2147483629, rfl, rfl, by show (0 : Int) < 2147483629; decide, _, 69623, rfl, rfl, .inr ⟨by decide, by decide⟩, _, _, rfl, rfl, _, rfl, rfl⟩
        · exact ⟨_, rfl, rfl⟩
    · rintro σ H' ⟨c, rfl, rfl⟩
      refine ⟨.int c, rfl, c, 2147483629, rfl, rfl, by show (0 : Int) < 2147483629; decide, _, 48271, rfl, rfl, .inr ⟨by decide, by decide⟩, .int k, rfl, 40692, k, rfl, rfl, .inl ⟨by decide, by decide⟩, _, _, rfl, rfl, _, 2147483629, rfl, rfl, by show (0 : Int) < 2147483629; decide, _, 1, rfl, rfl, ?_⟩
      refine ⟨.int c, rfl, by show 2 ≤ sizeLine; decide, fun p np => ?_⟩
      refine ⟨.int c, rfl, 10, 18, rfl, rfl, ⟨by decide, by decide, by decide⟩, c, _, rfl, rfl, .inr ⟨_, rfl, ?_⟩⟩
      have hx : ∃ z : Int, atI [V.int 0, V.int c] (if (decide ((10 : Int) ^ (18 : Int).toNat ≤ c)) = true then 1 else 0) = some (.int z) := by
        by_cases h : (decide ((10 : Int) ^ (18 : Int).toNat ≤ c)) = true
        · rw [if_pos h]
          exact ⟨c, rfl⟩
        · rw [if_neg h]
          exact ⟨0, rfl⟩
      obtain ⟨z, hz⟩ := hx
      refine ⟨p, _, _, .int z, rfl, rfl, SqL.of upd_same, hz, _, rfl, by show 3 ≤ sizeLine; decide, fun b nb => ?_⟩
      refine q b _ ?_ ((same_new np).trans (same_new nb)) ⟨_, _, _, upd_same⟩
      exact (same_new np).free nb
theorem ok__law_turned (T : Txt K w mg) : FnOk P w K mg base CX0 1 T.f__law_turned T.fd__law_turned ["_law_way", "_law_shape"] spTurn := by
  refine T.F__law_turned.ok sc__law_turned (fun vs H Q E h => ?_) (fun cdv A outer s H vs Q E hr h => ?_)
  · obtain ⟨w, s, rfl, _⟩ := h
    rfl
  · obtain ⟨w, s, rfl, q⟩ := h
    refine ⟨_, (pss_one (ps_ret (pe_op op_mod (pe_op op_add (pv 0) (pe_dget (hu_of hr) (pe_disp (pps_cons pe_str pe_int (pps_cons pe_str pe_int (pps_cons pe_str pe_int pps_nil))) (by rfl) (by rfl) (fun z => by cases z) (by decide)) (pv 1) (fun _ _ => rfl))) pe_int))), ?_⟩
    refine ⟨.int w, rfl, fun p np => ?_⟩
    refine ⟨upd_same, [(Sum.inr "l", .int 3), (Sum.inr "s", .int 0), (Sum.inr "r", .int 1)], rfl, by decide, ?_⟩
    refine ⟨.str s.str, rfl, p, .int (t3 s), rfl, ?_, w, t3 s, rfl, rfl, _, 4, rfl, rfl, by show (0 : Int) < 4; decide, ?_⟩
    · cases s with
      | l => exact .inl ⟨_, Sum.inr "l", .inl upd_same, rfl, by decide +kernel⟩
      | s => exact .inl ⟨_, Sum.inr "s", .inl upd_same, rfl, by decide +kernel⟩
      | r => exact .inl ⟨_, Sum.inr "r", .inl upd_same, rfl, by decide +kernel⟩
    · show Q (.int ((w + t3 s) % 4)) _
      rw [t3_tn]
      exact q _ (by rw [upd_upd]; exact same_new np)
theorem ok__law_on (T : Txt K w mg) : FnOk P w K mg base CX0 1 T.f__law_on T.fd__law_on ["_law_square", "_law_way"] (spOn K) := by
  refine T.F__law_on.ok sc__law_on (fun vs H Q E h => ?_) (fun cdv A outer s H vs Q E hr h => ?_)
  · obtain ⟨v, p, w, rfl, _⟩ := h
    rfl
  · obtain ⟨v, p, w, rfl, hd, w0, w3, q⟩ := h
    obtain ⟨x, y⟩ := p
    obtain ⟨a, xs, rfl, hs, hxs⟩ := hd.tupOf
    obtain ⟨v1, v2, rfl, d1, d2⟩ := hxs.two
    cases d1.intOf
    cases d2.intOf
    refine ⟨_, (pss_cons (ps_asg (pv 0) (pg_tup rfl (pgs_cons (pg_name (i := 2) sc__law_on.nd rfl (.inl rfl)) (pgs_cons (pg_name (i := 3) sc__law_on.nd rfl (.inl rfl)) pgs_nil))))
 (pss_one (ps_ret (pe_ix ix_list (pe_lst (pa_cons (pe_tup (pa_cons (pv 2) (pa_cons (pe_op op_add (pv 3) pe_int) pa_nil))) (pa_cons (pe_tup (pa_cons (pe_op op_add (pv 2) pe_int) (pa_cons (pv 3) pa_nil))) (pa_cons (pe_tup (pa_cons (pv 2) (pa_cons (pe_op op_sub (pv 3) pe_int) pa_nil))) (pa_cons (pe_tup (pa_cons (pe_op op_sub (pv 2) pe_int) (pa_cons (pv 3) pa_nil))) pa_nil))))) (pv 1) (fun _ _ => rfl))))), ?_⟩
    refine ⟨.ref a, rfl, a, _, rfl, hs, rfl, _, _, rfl, _, _, rfl, rfl, ?_⟩
    refine ⟨.int x, rfl, .int y, rfl, y, 1, rfl, rfl, by show 2 ≤ sizeLine; decide, fun p1 n1 => ?_⟩
    refine ⟨.int x, rfl, x, 1, rfl, rfl, .int y, rfl, by show 2 ≤ sizeLine; decide, fun p2 n2 => ?_⟩
    refine ⟨.int x, rfl, .int y, rfl, y, 1, rfl, rfl, by show 2 ≤ sizeLine; decide, fun p3 n3 => ?_⟩
    refine ⟨.int x, rfl, x, 1, rfl, rfl, .int y, rfl, by show 2 ≤ sizeLine; decide, fun p4 n4 => ?_⟩
    refine ⟨by show 4 ≤ sizeLine; decide, fun p n => ?_⟩
    have sm := ((((same_new n1).trans (same_new n2)).trans (same_new n3)).trans (same_new n4)).trans (same_new (o := HO.lst [.ref p1, .ref p2, .ref p3, .ref p4]) n)
    have tn := tk_new (o := HO.lst [.ref p1, .ref p2, .ref p3, .ref p4]) n
    have e1 := (DT.new (K := K) (.cons (.int x) (.cons (.int (y + 1)) .nil)) n1).up ((((tk_new n2).trans (tk_new n3)).trans (tk_new n4)).trans tn)
    have e2 := (DT.new (K := K) (.cons (.int (x + 1)) (.cons (.int y) .nil)) n2).up (((tk_new n3).trans (tk_new n4)).trans tn)
    have e3 := (DT.new (K := K) (.cons (.int x) (.cons (.int (y - 1)) .nil)) n3).up ((tk_new n4).trans tn)
    have e4 := (DT.new (K := K) (.cons (.int (x - 1)) (.cons (.int y) .nil)) n4).up tn
    rcases way4 w0 w3 with rfl | rfl | rfl | rfl
    · exact ⟨.int 0, rfl, p, _, 0, .ref p1, rfl, rfl, SqL.of upd_same, rfl, q _ _ sm (by simpa [sq, on, dx, dy] using e1)⟩
    · exact ⟨.int 1, rfl, p, _, 1, .ref p2, rfl, rfl, SqL.of upd_same, rfl, q _ _ sm (by simpa [sq, on, dx, dy] using e2)⟩
    · exact ⟨.int 2, rfl, p, _, 2, .ref p3, rfl, rfl, SqL.of upd_same, rfl, q _ _ sm (by simpa [sq, on, dx, dy, Int.sub_eq_add_neg] using e3)⟩
    · exact ⟨.int 3, rfl, p, _, 3, .ref p4, rfl, rfl, SqL.of upd_same, rfl, q _ _ sm (by simpa [sq, on, dx, dy, Int.sub_eq_add_neg] using e4)⟩
theorem ok__law_engine (T : Txt K w mg) : FnOk P w K mg base CX0 2 T.f__law_engine T.fd__law_engine ["_law_box_here", "_law_many", "_law_far"] (spEngine K) := by
  refine T.F__law_engine.ok sc__law_engine (fun vs H Q E h => ?_) (fun cdv A outer s H vs Q E hr h => ?_)
  · obtain ⟨b, m, far, rfl, _⟩ := h
    rfl
  · obtain ⟨b, m, far, rfl, hb, m0, m12, f0, f9, q⟩ := h
    refine ⟨_, (pss_cons (ps_par3 (i := 3) (j := 4) (l := 5) (by rfl) sc__law_engine.nd rfl rfl rfl (by decide) (by decide) (by decide) rfl rfl rfl (pa_cons (pe_op op_sub (pe_call (ok__law_take T) (hr.mono (by decide)) (by rfl) T.g__law_take T.F__law_take.kp T.b__law_take .nil pass0 (pa_cons (pv 0) (pa_cons (pe_op op_add (pe_op op_mul pe_int (pv 2)) pe_int) pa_nil))) (pv 2)) (pa_cons (pe_op op_sub (pe_call (ok__law_take T) (hr.mono (by decide)) (by rfl) T.g__law_take T.F__law_take.kp T.b__law_take .nil pass0 (pa_cons (pv 0) (pa_cons (pe_op op_add (pe_op op_mul pe_int (pv 2)) pe_int) pa_nil))) (pv 2)) (pa_cons (pe_call (ok__law_take T) (hr.mono (by decide)) (by rfl) T.g__law_take T.F__law_take.kp T.b__law_take .nil pass0 (pa_cons (pv 0) (pa_cons pe_int pa_nil))) pa_nil))) (by rfl))
 (pss_cons (ps_asg (pe_tup (pa_cons (pe_op op_sub pe_int (pe_op op_mul pe_int (pe_call (ok__law_take T) (hr.mono (by decide)) (by rfl) T.g__law_take T.F__law_take.kp T.b__law_take .nil pass0 (pa_cons (pv 0) (pa_cons pe_int pa_nil))))) (pa_cons (pe_lst pa_nil) (pa_cons (pe_lst pa_nil) (pa_cons (pe_tup (pa_cons (pv 3) (pa_cons (pv 4) pa_nil))) (pa_cons (pv 5) pa_nil)))))) (pg_tup rfl (pgs_cons (pg_name (i := 6) sc__law_engine.nd rfl (.inl rfl)) (pgs_cons (pg_name (i := 7) sc__law_engine.nd rfl (.inl rfl)) (pgs_cons (pg_name (i := 8) sc__law_engine.nd rfl (.inl rfl)) (pgs_cons (pg_name (i := 9) sc__law_engine.nd rfl (.inl rfl)) (pgs_cons (pg_name (i := 10) sc__law_engine.nd rfl (.inl rfl)) pgs_nil)))))))
 (pss_cons (ps_for PassesOwn.never rfl (pi_range1 (by rfl) T.m_range (pa_cons (pe_op op_add pe_int (pe_call (ok__law_take T) (hr.mono (by decide)) (by rfl) T.g__law_take T.F__law_take.kp T.b__law_take .nil pass0 (pa_cons (pv 0) (pa_cons (pv 1) pa_nil)))) pa_nil)) (pg_name (i := 11) sc__law_engine.nd rfl (.inl rfl))
 (pss_cons (ps_par (i := 12) (j := 13) (by rfl) sc__law_engine.nd rfl rfl (by decide) rfl rfl (pa_cons (pe_ix ix_str pe_str (pe_call (ok__law_take T) (hr.mono (by decide)) (by rfl) T.g__law_take T.F__law_take.kp T.b__law_take .nil pass0 (pa_cons (pv 0) (pa_cons pe_int pa_nil))) (fun _ _ => rfl)) (pa_cons (pe_call (ok__law_take T) (hr.mono (by decide)) (by rfl) T.g__law_take T.F__law_take.kp T.b__law_take .nil pass0 (pa_cons (pv 0) (pa_cons pe_int pa_nil))) pa_nil)) (by rfl))
 (pss_one (ps_if (pt_cmpR (op_notInD (hu65 hr)) (pv 9) (pv 8) (by with_unfolding_all rfl))
 (pss_cons (ps_expr (pe_bm PySem.F.plainAttrs_list PySem.F.slot_list_append PySem.F.type_list_append mt_append (pv 7) (pa_cons (pe_tup (pa_cons (pv 12) (pa_cons (pv 13) pa_nil))) pa_nil)))
 (pss_cons (ps_expr (pe_bm PySem.F.plainAttrs_list PySem.F.slot_list_append PySem.F.type_list_append mt_append (pv 8) (pa_cons (pv 9) pa_nil)))
 (pss_cons (ps_set (i := 10) sc__law_engine.nd rfl (.inl rfl) (pe_call (ok__law_turned T) (hr.mono (by decide)) (by rfl) T.g__law_turned T.F__law_turned.kp T.b__law_turned .nil pass0 (pa_cons (pv 10) (pa_cons (pv 12) pa_nil))))
 (pss_one (ps_set (i := 9) sc__law_engine.nd rfl (.inl rfl) (pe_call (ok__law_on T) (hr.mono (by decide)) (by rfl) T.g__law_on T.F__law_on.kp T.b__law_on .nil pass0 (pa_cons (pv 9) (pa_cons (pv 10) pa_nil))))))))
 pss_nil))))
 (pss_one (ps_ret (pe_tup (pa_cons (pv 3) (pa_cons (pv 4) (pa_cons (pv 5) (pa_cons (pv 6) (pa_cons (pe_callTy call_tuple_of (by rfl) T.m_tuple (by decide +kernel) (pa_cons (pv 7) pa_nil)) pa_nil))))))))))), ?_⟩
    -- x, y, way
    refine ⟨.ref b, rfl, .int far, rfl, 2, far, rfl, rfl, .inl ⟨by decide, by decide⟩, _, 1, rfl, rfl, b, 2 * far + 1, rfl, hb, by omega, by omega, fun r1 H1 a1 a2 e1 hb1 => ?_⟩
    refine ⟨.int far, rfl, r1, far, rfl, rfl, ?_⟩
    refine ⟨.ref b, rfl, .int far, rfl, 2, far, rfl, rfl, .inl ⟨by decide, by decide⟩, _, 1, rfl, rfl, b, 2 * far + 1, rfl, hb1, by omega, by omega, fun r2 H2 a3 a4 e2 hb2 => ?_⟩
    refine ⟨.int far, rfl, r2, far, rfl, rfl, ?_⟩
    refine ⟨.ref b, rfl, b, 4, rfl, hb2, by decide, by decide, fun r3 H3 a5 a6 e3 hb3 => ?_⟩
    refine ⟨_, _, _, rfl, ?_⟩
    -- look, rails, squares, here, ahead
    refine ⟨.ref b, rfl, b, 2, rfl, hb3, by decide, by decide, fun r4 H4 a7 a8 e4 hb4 => ?_⟩
    refine ⟨2, r4, rfl, rfl, .inl ⟨by decide, by decide⟩, 1, _, rfl, rfl, ?_⟩
    refine ⟨Nat.zero_le _, fun p1 n1 => ⟨Nat.zero_le _, fun p2 n2 => ?_⟩⟩
    refine ⟨.int (r1 - far), rfl, .int (r2 - far), rfl, by show 2 ≤ sizeLine; decide, fun t nt => ?_⟩
    refine ⟨.int r3, rfl, by show 5 ≤ sizeLine; decide, fun u nu => ?_⟩
    refine ⟨u, _, rfl, SqT.of upd_same, rfl, _, _, rfl, _, _, rfl, _, _, rfl, _, _, rfl, _, _, rfl, rfl, ?_⟩
    have nb1 : p1 ≠ b := fun z => by
      obtain ⟨_, _, _, hb4⟩ := hb4
      rw [z, hb4] at n1
      cases n1
    have n21 : p2 ≠ p1 := fun z => by
      rw [z, upd_same] at n2
      cases n2
    have nb2 : p2 ≠ b := fun z => by
      obtain ⟨_, _, _, hb4⟩ := hb4
      rw [z, upd_ne nb1.symm, hb4] at n2
      cases n2
    have s4 : Same H4 (upd (upd (upd (upd H4 p1 (.lst [])) p2 (.lst [])) t (.tup [.int (r1 - far), .int (r2 - far)])) u (.tup [.int (1 - 2 * r4), .ref p1, .ref p2, .ref t, .int r3])) := (((same_new n1).trans (same_new n2)).trans (same_new nt)).trans (same_new nu)
    have s2 : Same (upd (upd H4 p1 (.lst [])) p2 (.lst [])) (upd (upd (upd (upd H4 p1 (.lst [])) p2 (.lst [])) t (.tup [.int (r1 - far), .int (r2 - far)])) u (.tup [.int (1 - 2 * r4), .ref p1, .ref p2, .ref t, .int r3])) := (same_new nt).trans (same_new nu)
    have hp1 := s2 p1 (.lst []) (by rw [upd_ne n21.symm, upd_same])
    have hp2 := s2 p2 (.lst []) upd_same
    have hdt : DT K (upd (upd (upd (upd H4 p1 (.lst [])) p2 (.lst [])) t (.tup [.int (r1 - far), .int (r2 - far)])) u (.tup [.int (1 - 2 * r4), .ref p1, .ref p2, .ref t, .int r3])) (.ref t) (sq (r1 - far, r2 - far)) := (DT.new (K := K) (.cons (.int (r1 - far)) (.cons (.int (r2 - far)) .nil)) nt).up (tk_new nu)
    have hb5 : Box (upd (upd (upd (upd H4 p1 (.lst [])) p2 (.lst [])) t (.tup [.int (r1 - far), .int (r2 - far)])) u (.tup [.int (1 - 2 * r4), .ref p1, .ref p2, .ref t, .int r3])) b := by
      obtain ⟨i, s, c, hb4⟩ := hb4
      exact ⟨i, s, c, s4 _ _ hb4⟩
    have eb5 := (((e1.trans e2).trans e3).trans e4).trans (but_same (b := b) s4)
    generalize (upd (upd (upd (upd H4 p1 (.lst [])) p2 (.lst [])) t (.tup [.int (r1 - far), .int (r2 - far)])) u (.tup [.int (1 - 2 * r4), .ref p1, .ref p2, .ref t, .int r3])) = H5 at hp1 hp2 hdt hb5 eb5
    -- the loop
    refine ⟨.ref b, rfl, .int m, rfl, b, m, rfl, hb5, m0, by omega, fun r5 H6 a9 a10 e6 hb6 => ?_⟩
    have f1 : H p1 = none := by
      cases z : H p1 with
      | none => rfl
      | some o =>
        have := (((e1.trans e2).trans e3).trans e4) p1 o nb1 z
        rw [n1] at this
        cases this
    have f2 : H p2 = none := by
      cases z : H p2 with
      | none => rfl
      | some o =>
        have := (((e1.trans e2).trans e3).trans e4) p2 o nb2 z
        rw [upd_ne n21] at n2
        rw [n2] at this
        cases this
    refine ⟨1, r5, rfl, rfl, 1 + r5, rfl, by omega, by omega, for_range (lo := 0) (n := (1 + r5).toNat) (fun i σ H' => ∃ rs qs here ahead vh xs ys y11 y12 y13,
      σ = [some (.ref b), some (.int m), some (.int far), some (.int (r1 - far)), some (.int (r2 - far)), some (.int r3), some (.int (1 - 2 * r4)), some (.ref p1), some (.ref p2), some vh, some (.int ahead), y11, y12, y13] ∧
      EngInv K b p1 p2 H H' (r1 - far) (r2 - far) r3 i rs qs here ahead vh xs ys) ?_ (fun i σ H' hi hP => ?_) (fun σ H' hP => ?_)⟩
    · refine ⟨[], [], (r1 - far, r2 - far), r3, .ref t, [], [], none, none, none, rfl, ?_⟩
      exact ⟨e6.up hb5 hdt, e6 _ _ nb1 hp1, .nil, e6 _ _ nb2 hp2, .nil, hb6, eb5.trans e6, Nat.le_refl _, fun z => by omega, fun _ => rfl, rfl, List.nodup_nil, fun r hr => (by cases hr), rfl⟩
    · obtain ⟨rs, qs, here, ahead, vh, xs, ys, y11, y12, y13, rfl, I⟩ := hP
      have hi12 : i < 12 := by omega
      refine ⟨.ref b, rfl, b, 4, rfl, I.bx, by decide, by decide, fun k1 H7 g1 g2 e7 hb7 => ?_⟩
      obtain ⟨c4, hc4, hs4⟩ := pick4 g1 g2
      refine ⟨_, k1, c4, rfl, rfl, by decide, hc4, ?_⟩
      rw [hs4]
      refine ⟨.ref b, rfl, b, 10, rfl, hb7, by decide, by decide, fun k2 H8 g3 g4 e8 hb8 => ?_⟩
      refine ⟨_, _, rfl, ?_⟩
      have J := (I.but e7 hb7 nb1 nb2).but e8 hb8 nb1 nb2
      refine ⟨vh, rfl, .ref p2, rfl, sq here, qs.map sq, J.dh.dp, .lst (SqL.of J.h2) J.d2.dp, shaped_sq here, shaped_sqs qs, _, rfl, ?_⟩
      rw [any_sq]
      refine ite2 (fun e => ?_) (fun e => ?_)
      · have hm : ¬ here ∈ qs := fun z => by
          rw [decide_eq_true z] at e
          cases e
        have lx : xs.length ≤ 12 := by
          have h1 := J.d1.length
          rw [List.length_map] at h1
          have h2 := J.ln
          omega
        have ly : ys.length ≤ 12 := by
          have h1 := J.d2.length
          rw [List.length_map, J.lq] at h1
          have h2 := J.ln
          omega
        refine ⟨.ref p1, rfl, .inl ⟨rfl, _, SqL.of J.h1⟩, .str (shOf k1).str, rfl, .int k2, rfl, by show 2 ≤ sizeLine; decide, fun t9 n9 => ?_⟩
        have t1 : p1 ≠ t9 := ne_of_none J.h1 n9
        have t2 : p2 ≠ t9 := ne_of_none J.h2 n9
        refine ⟨p1, xs, .ref t9, rfl, rfl, by rw [upd_ne t1]; exact J.h1, small12 lx, ?_⟩
        have hq2 : (upd (upd H8 t9 (.tup [.str (shOf k1).str, .int k2])) p1 (.lst (xs ++ [.ref t9]))) p2 = some (.lst ys) := by
          rw [upd_ne n21, upd_ne t2]
          exact J.h2
        refine ⟨.ref p2, rfl, .inl ⟨rfl, _, SqL.of hq2⟩, vh, rfl, p2, ys, vh, rfl, rfl, hq2, small12 ly, ?_⟩
        refine ⟨.int ahead, rfl, .str (shOf k1).str, rfl, ahead, shOf k1, rfl, fun H9 s9 => ?_⟩
        have tk9 : Tk H8 H9 := ((((tk_new n9).trans (tk_set (by rw [upd_ne t1]; exact J.h1))).trans (tk_set hq2)).trans (tk_same s9))
        refine ⟨vh, rfl, .int (tn ahead (shOf k1)), rfl, vh, here, tn ahead (shOf k1), rfl, J.dh.up tk9, tn_lo _ _, tn_hi _ _, fun v2 H10 s10 d10 => ?_⟩
        exact ⟨_, _, _, _, _, _, _, _, _, _, rfl, J.go hm n9 nb1 nb2 n21 f1 f2 g3 (by omega) (s9.trans s10) d10⟩
      · have hm : here ∈ qs := by
          by_cases z : here ∈ qs
          · exact z
          · rw [decide_eq_false z] at e
            exact absurd rfl e
        exact ⟨_, _, _, _, _, _, _, _, _, _, rfl, J.skip hm⟩
    · obtain ⟨rs, qs, here, ahead, vh, xs, ys, y11, y12, y13, rfl, I⟩ := hP
      refine ⟨.int (r1 - far), rfl, .int (r2 - far), rfl, .int r3, rfl, .int (1 - 2 * r4), rfl, .ref p1, rfl, p1, xs, rfl, .inl ⟨SqL.of I.h1, fun l nl => ?_⟩⟩
      refine ⟨by show 5 ≤ sizeLine; decide, fun u nu => ?_⟩
      have hd := (DT.new I.d1 nl)
      have hd2 := DT.new (.cons (.int (r1 - far)) (.cons (.int (r2 - far)) (.cons (.int r3) (.cons (.int (1 - 2 * r4)) (.cons hd .nil))))) nu
      have sm := (same_new (o := HO.tup xs) nl).trans (same_new (o := HO.tup [.int (r1 - far), .int (r2 - far), .int r3, .int (1 - 2 * r4), .ref l]) nu)
      have hb9 := I.bx
      refine q _ _ _ _ _ _ rs ⟨a5, by omega, by omega, I.ne (by omega), ?_, I.col, ?_⟩ (by omega) (by omega) (by omega) (by omega) ?_ (I.bt.trans (but_same sm)) ?_ hd2
      · have := I.ln
        omega
      · rw [I.ws]
        dsimp only
        rw [List.dropLast_concat]
        exact I.nd
      · have := I.ln
        omega
      · obtain ⟨i, s, c, h0⟩ := hb9
        exact ⟨i, s, c, sm _ _ h0⟩
end
section
variable {P : Program} {w : World} {K : PySem.W.Frag} {mg : Str → Option Value} {base : Heap}
theorem ok_way_on (T : Txt K w mg) : FnOk P w K mg base CX0 1 T.f_way_on T.fd_way_on ["way", "shape"] spTurn := by
  refine T.F_way_on.ok sc_way_on (fun vs H Q E h => ?_) (fun cdv A outer s H vs Q E hr h => ?_)
  · obtain ⟨w, s, rfl, _⟩ := h
    rfl
  · obtain ⟨w, s, rfl, q⟩ := h
    refine ⟨_, (pss_one (ps_ret (pe_op op_mod (pe_op op_add (pv 0) (pe_ix ix_kdict (pe_glob (v := .ref T.a_TURNS) (by rfl) T.g_TURNS rfl) (pv 1) (fun _ _ => rfl))) pe_int))), ?_⟩
    exact ⟨.int w, rfl, .str s.str, rfl, T.a_TURNS, s.str, .int s.t, rfl, rfl, T.TURNS s, w, s.t, rfl, rfl, _, 4, rfl, rfl, by show (0 : Int) < 4; decide, q _ (Same.refl H)⟩
theorem ok_way_behind (T : Txt K w mg) : FnOk P w K mg base CX0 1 T.f_way_behind T.fd_way_behind ["way", "shape"] spBack := by
  refine T.F_way_behind.ok sc_way_behind (fun vs H Q E h => ?_) (fun cdv A outer s H vs Q E hr h => ?_)
  · obtain ⟨w, s, rfl, _⟩ := h
    rfl
  · obtain ⟨w, s, rfl, q⟩ := h
    refine ⟨_, (pss_one (ps_ret (pe_op op_mod (pe_op op_sub (pv 0) (pe_ix ix_kdict (pe_glob (v := .ref T.a_TURNS) (by rfl) T.g_TURNS rfl) (pv 1) (fun _ _ => rfl))) pe_int))), ?_⟩
    exact ⟨.int w, rfl, .str s.str, rfl, T.a_TURNS, s.str, .int s.t, rfl, rfl, T.TURNS s, w, s.t, rfl, rfl, _, 4, rfl, rfl, by show (0 : Int) < 4; decide, q _ (Same.refl H)⟩
theorem ok_way_about (T : Txt K w mg) : FnOk P w K mg base CX0 1 T.f_way_about T.fd_way_about ["way"] spAbout := by
  refine T.F_way_about.ok sc_way_about (fun vs H Q E h => ?_) (fun cdv A outer s H vs Q E hr h => ?_)
  · obtain ⟨w, rfl, _⟩ := h
    rfl
  · obtain ⟨w, rfl, q⟩ := h
    refine ⟨_, (pss_one (ps_ret (pe_op op_mod (pe_op op_add (pv 0) pe_int) pe_int))), ?_⟩
    exact ⟨.int w, rfl, w, 2, rfl, rfl, _, 4, rfl, rfl, by show (0 : Int) < 4; decide, q⟩
theorem ok_onward (T : Txt K w mg) : FnOk P w K mg base CX0 1 T.f_onward T.fd_onward ["square", "way", "steps"] (spOnward K) := by
  refine FunD_ok0 T.F_onward sc_onward (fun vs H Q E h => ?_) (fun cdv A outer s H vs Q E hr h => ?_)
  · obtain ⟨v, p, w, n, rfl, _⟩ := h
    rfl
  · obtain ⟨v, p, w, n, rfl, hd, w0, w3, q⟩ := h
    obtain ⟨a, rfl, hs⟩ := sq_at hd
    obtain ⟨aS, xS, eS, hsS, dS⟩ := (T.STEPS H).tupOf
    cases eS
    obtain ⟨b, hb, hbs⟩ := step_at dS w0 w3
    refine ⟨_, (pss_cons (ps_asg (pv 0) (pg_tup rfl (pgs_cons (pg_name (i := 3) sc_onward.nd rfl (.inl rfl)) (pgs_cons (pg_name (i := 4) sc_onward.nd rfl (.inl rfl)) pgs_nil))))
 (pss_cons (ps_asg (pe_ix ix_tup (pe_glob (v := .ref T.a_STEPS) (by rfl) T.g_STEPS rfl) (pv 1) (fun _ _ => rfl)) (pg_tup rfl (pgs_cons (pg_name (i := 5) sc_onward.nd rfl (.inl rfl)) (pgs_cons (pg_name (i := 6) sc_onward.nd rfl (.inl rfl)) pgs_nil))))
 (pss_one (ps_ret (pe_tup (pa_cons (pe_op op_add (pv 3) (pe_op op_mul (pv 5) (pv 2))) (pa_cons (pe_op op_add (pv 4) (pe_op op_mul (pv 6) (pv 2))) pa_nil))))))), ?_⟩
    refine ⟨.ref a, rfl, a, _, rfl, hs, rfl, _, _, rfl, _, _, rfl, rfl, ?_⟩
    refine ⟨.int w, rfl, _, _, w, .ref b, rfl, rfl, hsS, hb, b, _, rfl, hbs, rfl, _, _, rfl, _, _, rfl, rfl, ?_⟩
    refine ⟨.int p.1, rfl, .int (dx w), rfl, .int n, rfl, dx w, n, rfl, rfl, dx_ok w n, p.1, _, rfl, rfl, .int p.2, rfl, .int (dy w), rfl, .int n, rfl, dy w, n, rfl, rfl, dy_ok w n, p.2, _, rfl, rfl, by show 2 ≤ sizeLine; decide, fun t nt => ?_⟩
    exact q _ _ (same_new nt) (DT.new (.cons (.int _) (.cons (.int _) .nil)) nt)
end
section
variable {P : Program} {w : World} {K : PySem.W.Frag} {mg : Str → Option Value} {base : Heap}
theorem ok_gone_forward (T : Txt K w mg) : FnOk P w K mg base CX0 2 T.f_gone_forward T.fd_gone_forward ["engine"] (spFwd K) := by
  refine T.F_gone_forward.ok sc_gone_forward (fun vs H Q E h => ?_) (fun cdv A outer s H vs Q E hr h => ?_)
  · obtain ⟨v, x, y, w, look, r, rest, rfl, _⟩ := h
    rfl
  · obtain ⟨v, x, y, w, look, r, rest, rfl, hd, hl, q⟩ := h
    obtain ⟨a, ra, xr, rfl, hs, hr1, hr2⟩ := eng_at hd
    obtain ⟨v0, hv0, d0⟩ := hr2.at (i := 0) (d := rail r) (atI_nat (j := 0) rfl)
    obtain ⟨a0, rfl, h0⟩ := rail_at d0
    refine ⟨_, (pss_cons (ps_asg (pv 0) (pg_tup rfl (pgs_cons (pg_name (i := 1) sc_gone_forward.nd rfl (.inl rfl)) (pgs_cons (pg_name (i := 2) sc_gone_forward.nd rfl (.inl rfl)) (pgs_cons (pg_name (i := 3) sc_gone_forward.nd rfl (.inl rfl)) (pgs_cons (pg_name (i := 4) sc_gone_forward.nd rfl (.inl rfl)) (pgs_cons (pg_name (i := 5) sc_gone_forward.nd rfl (.inl rfl)) pgs_nil)))))))
 (pss_cons (ps_asg (pe_ix ix_tup (pv 5) pe_int (fun _ _ => rfl)) (pg_tup rfl (pgs_cons (pg_name (i := 6) sc_gone_forward.nd rfl (.inl rfl)) (pgs_cons (pg_name (i := 7) sc_gone_forward.nd rfl (.inl rfl)) pgs_nil))))
 (pss_cons (ps_set (i := 8) sc_gone_forward.nd rfl (.inl rfl) (pe_call (ok_way_on T) (hr.mono (by decide)) (by rfl) T.g_way_on T.F_way_on.kp T.b_way_on .nil pass0 (pa_cons (pv 3) (pa_cons (pv 6) pa_nil))))
 (pss_cons (ps_asg (pe_call (ok_onward T) (hr.mono (by decide)) (by rfl) T.g_onward T.F_onward.kp T.b_onward T.v_onward pass0 (pa_cons (pe_tup (pa_cons (pv 1) (pa_cons (pv 2) pa_nil))) (pa_cons (pv 8) pa_nil))) (pg_tup rfl (pgs_cons (pg_name (i := 9) sc_gone_forward.nd rfl (.inl rfl)) (pgs_cons (pg_name (i := 10) sc_gone_forward.nd rfl (.inl rfl)) pgs_nil))))
 (pss_one (ps_ret (pe_tup (pa_cons (pv 9) (pa_cons (pv 10) (pa_cons (pv 8) (pa_cons (pv 4) (pa_cons (pe_op op_catA (pe_slice sl_tupA (pv 5) (po_some pe_int) po_none) (pe_slice sl_tupA (pv 5) po_none (po_some pe_int))) pa_nil)))))))))))), ?_⟩
    refine ⟨.ref a, rfl, a, _, rfl, hs, rfl, _, _, rfl, _, _, rfl, _, _, rfl, _, _, rfl, _, _, rfl, rfl, ?_⟩
    refine ⟨.ref ra, rfl, ra, xr, 0, .ref a0, rfl, rfl, hr1, hv0, a0, _, rfl, h0, rfl, _, _, rfl, _, _, rfl, rfl, ?_⟩
    refine ⟨.int w, rfl, .str r.1.str, rfl, w, r.1, rfl, fun H1 s1 => ?_⟩
    refine ⟨.int x, rfl, .int y, rfl, by show 2 ≤ sizeLine; decide, fun t nt => ?_⟩
    refine ⟨.int (tn w r.1), rfl, .ref t, (x, y), tn w r.1, 1, rfl, DT.new (.cons (.int x) (.cons (.int y) .nil)) nt, tn_lo _ _, tn_hi _ _, fun v2 H2 s2 d2 => ?_⟩
    rw [on_one] at d2
    obtain ⟨a2, rfl, h2⟩ := sq_at d2
    refine ⟨a2, _, rfl, h2, rfl, _, _, rfl, _, _, rfl, rfl, ?_⟩
    have s12 := (s1.trans (same_new nt)).trans s2
    have dr : DT K H2 (.ref ra) (.tuple (rail r :: rest.map rail)) := (DT.tup hr1 hr2).up (tk_same s12)
    refine ⟨_, rfl, _, rfl, _, rfl, _, rfl, .ref ra, rfl, 1, rfl, r_np (r_slA dr fun v3 H3 s3 d3 => ?_)⟩
    rw [cut_1n] at d3
    refine ⟨.ref ra, rfl, 1, rfl, r_slA (dr.up (tk_same s3)) fun v4 H4 s4 d4 => ?_⟩
    rw [cut_n1] at d4
    refine r_catA (d3.up (tk_same s4)) d4 (by rw [List.length_map]; show rest.length + 1 ≤ 1000; omega) fun v5 H5 s5 d5 => ⟨by show 5 ≤ sizeLine; decide, fun p np => ?_⟩
    refine q _ _ (((s12.trans s3).trans (s4.trans s5)).trans (same_new np)) ?_
    have d5' : DT K H5 v5 (.tuple ((rest ++ [r]).map rail)) := by
      rw [List.map_append]
      exact d5
    exact DT.new (.cons (.int _) (.cons (.int _) (.cons (.int _) (.cons (.int _) (.cons d5' .nil))))) np
theorem ok_gone_back (T : Txt K w mg) : FnOk P w K mg base CX0 2 T.f_gone_back T.fd_gone_back ["engine"] (spBwd K) := by
  refine T.F_gone_back.ok sc_gone_back (fun vs H Q E h => ?_) (fun cdv A outer s H vs Q E hr h => ?_)
  · obtain ⟨v, x, y, w, look, r, init, rfl, _⟩ := h
    rfl
  · obtain ⟨v, x, y, w, look, r, init, rfl, hd, hl, q⟩ := h
    obtain ⟨a, ra, xr, rfl, hs, hr1, hr2⟩ := eng_at hd
    rw [List.map_append] at hr2
    obtain ⟨us, u, rfl, hus, hu⟩ := hr2.last
    obtain ⟨a0, rfl, h0⟩ := rail_at hu
    refine ⟨_, (pss_cons (ps_asg (pv 0) (pg_tup rfl (pgs_cons (pg_name (i := 1) sc_gone_back.nd rfl (.inl rfl)) (pgs_cons (pg_name (i := 2) sc_gone_back.nd rfl (.inl rfl)) (pgs_cons (pg_name (i := 3) sc_gone_back.nd rfl (.inl rfl)) (pgs_cons (pg_name (i := 4) sc_gone_back.nd rfl (.inl rfl)) (pgs_cons (pg_name (i := 5) sc_gone_back.nd rfl (.inl rfl)) pgs_nil)))))))
 (pss_cons (ps_asg (pe_ix ix_tup (pv 5) (pe_un un_neg pe_int) (fun _ _ => rfl)) (pg_tup rfl (pgs_cons (pg_name (i := 6) sc_gone_back.nd rfl (.inl rfl)) (pgs_cons (pg_name (i := 7) sc_gone_back.nd rfl (.inl rfl)) pgs_nil))))
 (pss_cons (ps_asg (pe_call (ok_onward T) (hr.mono (by decide)) (by rfl) T.g_onward T.F_onward.kp T.b_onward T.v_onward pass0 (pa_cons (pe_tup (pa_cons (pv 1) (pa_cons (pv 2) pa_nil))) (pa_cons (pe_call (ok_way_about T) (hr.mono (by decide)) (by rfl) T.g_way_about T.F_way_about.kp T.b_way_about .nil pass0 (pa_cons (pv 3) pa_nil)) pa_nil))) (pg_tup rfl (pgs_cons (pg_name (i := 8) sc_gone_back.nd rfl (.inl rfl)) (pgs_cons (pg_name (i := 9) sc_gone_back.nd rfl (.inl rfl)) pgs_nil))))
 (pss_one (ps_ret (pe_tup (pa_cons (pv 8) (pa_cons (pv 9) (pa_cons (pe_call (ok_way_behind T) (hr.mono (by decide)) (by rfl) T.g_way_behind T.F_way_behind.kp T.b_way_behind .nil pass0 (pa_cons (pv 3) (pa_cons (pv 6) pa_nil))) (pa_cons (pv 4) (pa_cons (pe_op op_catA (pe_slice sl_tupA (pv 5) (po_some (pe_un un_neg pe_int)) po_none) (pe_slice sl_tupA (pv 5) po_none (po_some (pe_un un_neg pe_int)))) pa_nil))))))))))), ?_⟩
    refine ⟨.ref a, rfl, a, _, rfl, hs, rfl, _, _, rfl, _, _, rfl, _, _, rfl, _, _, rfl, _, _, rfl, rfl, ?_⟩
    refine ⟨.ref ra, rfl, 1, rfl, ra, _, -1, .ref a0, rfl, rfl, hr1, atI_last us _, a0, _, rfl, h0, rfl, _, _, rfl, _, _, rfl, rfl, ?_⟩
    refine ⟨.int x, rfl, .int y, rfl, by show 2 ≤ sizeLine; decide, fun t nt => ?_⟩
    have m4 := mod_in (a := w + 2) (m := 4) (by decide)
    refine ⟨.int w, rfl, w, rfl, .ref t, (x, y), (w + 2) % 4, 1, rfl, DT.new (.cons (.int x) (.cons (.int y) .nil)) nt, m4.1, by omega, fun v2 H2 s2 d2 => ?_⟩
    rw [on_one] at d2
    obtain ⟨a2, rfl, h2⟩ := sq_at d2
    refine ⟨a2, _, rfl, h2, rfl, _, _, rfl, _, _, rfl, rfl, ?_⟩
    refine ⟨_, rfl, _, rfl, .int w, rfl, .str r.1.str, rfl, w, r.1, rfl, fun H3 s3 => ?_⟩
    have s13 := ((same_new nt).trans s2).trans s3
    have dr : DT K H3 (.ref ra) (.tuple (init.map rail ++ [rail r])) := (DT.tup hr1 hr2).up (tk_same s13)
    refine ⟨_, rfl, .ref ra, rfl, 1, rfl, -1, rfl, r_np (r_slA dr fun v4 H4 s4 d4 => ?_)⟩
    rw [cut_l1] at d4
    refine ⟨.ref ra, rfl, 1, rfl, -1, rfl, r_slA (dr.up (tk_same s4)) fun v5 H5 s5 d5 => ?_⟩
    rw [cut_i1] at d5
    refine r_catA (d4.up (tk_same s5)) d5 (by rw [List.length_map]; show 1 + init.length ≤ 1000; omega) fun v6 H6 s6 d6 => ⟨by show 5 ≤ sizeLine; decide, fun p np => ?_⟩
    refine q _ _ (((s13.trans s4).trans (s5.trans s6)).trans (same_new np)) ?_
    exact DT.new (.cons (.int _) (.cons (.int _) (.cons (.int _) (.cons (.int _) (.cons d6 .nil))))) np
theorem ok_gone_on (T : Txt K w mg) : FnOk P w K mg base CX0 3 T.f_gone_on T.fd_gone_on ["engine"] (spGone K) := by
  refine T.F_gone_on.ok sc_gone_on (fun vs H Q E h => ?_) (fun cdv A outer s H vs Q E hr h => ?_)
  · obtain ⟨v, x, y, w, look, rs, rfl, _⟩ := h
    rfl
  · obtain ⟨v, x, y, w, look, rs, rfl, hd, hne, hl, q⟩ := h
    obtain ⟨a, ra, xr, rfl, hs, hr1, hr2⟩ := eng_at hd
    refine ⟨_, (pss_cons (ps_asg (pv 0) (pg_tup rfl (pgs_cons (pg_name (i := 1) sc_gone_on.nd rfl (.inl rfl)) (pgs_cons (pg_name (i := 2) sc_gone_on.nd rfl (.inl rfl)) (pgs_cons (pg_name (i := 3) sc_gone_on.nd rfl (.inl rfl)) (pgs_cons (pg_name (i := 4) sc_gone_on.nd rfl (.inl rfl)) (pgs_cons (pg_name (i := 5) sc_gone_on.nd rfl (.inl rfl)) pgs_nil)))))))
 (pss_cons (ps_if (pt_cmpR op_eq (pv 4) pe_int (nomark _))
 (pss_one (ps_ret (pe_call (ok_gone_forward T) (hr.mono (by decide)) (by rfl) T.g_gone_forward T.F_gone_forward.kp T.b_gone_forward .nil pass0 (pa_cons (pv 0) pa_nil))))
 pss_nil)
 (pss_one (ps_ret (pe_call (ok_gone_back T) (hr.mono (by decide)) (by rfl) T.g_gone_back T.F_gone_back.kp T.b_gone_back .nil pass0 (pa_cons (pv 0) pa_nil)))))), ?_⟩
    refine ⟨.ref a, rfl, a, _, rfl, hs, rfl, _, _, rfl, _, _, rfl, _, _, rfl, _, _, rfl, _, _, rfl, rfl, ?_⟩
    refine ⟨.int look, rfl, rfl, _, rfl, ite2 (fun e => ?_) (fun e => ?_)⟩
    · have el : look = 1 := V.int.inj (of_decide_eq_true e)
      obtain ⟨r, rest, rfl⟩ : ∃ r rest, rs = r :: rest := by
        cases rs with
        | nil => exact absurd rfl hne
        | cons r rest => exact ⟨r, rest, rfl⟩
      refine ⟨.ref a, rfl, .ref a, x, y, w, look, r, rest, rfl, hd, by rw [List.length_cons] at hl; omega, fun v' H' s' d' => q v' H' s' (fun r2 rest2 e2 _ => ?_) (fun _ _ _ z => absurd el z)⟩
      cases e2
      exact d'
    · have el : ¬ look = 1 := fun z => e (by rw [z]; exact decide_eq_true rfl)
      obtain ⟨init, r, rfl⟩ : ∃ init r, rs = init ++ [r] := by
        rcases List.eq_nil_or_concat rs with h | ⟨init, r, h⟩
        · exact absurd h hne
        · exact ⟨init, r, by rw [← List.concat_eq_append]; exact h⟩
      refine ⟨.ref a, rfl, .ref a, x, y, w, look, r, init, rfl, hd, by rw [List.length_append] at hl; omega, fun v' H' s' d' => q v' H' s' (fun _ _ _ z => absurd z el) (fun init2 r2 e2 _ => ?_)⟩
      obtain ⟨e3, e4⟩ := List.append_inj' e2 rfl
      cases e4
      rw [← e3]
      exact d'
theorem ok_turned_by_hand (T : Txt K w mg) : FnOk P w K mg base CX0 1 T.f_turned_by_hand T.fd_turned_by_hand ["engine"] (spHand K) := by
  refine T.F_turned_by_hand.ok sc_turned_by_hand (fun vs H Q E h => ?_) (fun cdv A outer s H vs Q E hr h => ?_)
  · obtain ⟨v, x, y, w, look, rs, rfl, _⟩ := h
    rfl
  · obtain ⟨v, x, y, w, look, rs, rfl, hd, q⟩ := h
    obtain ⟨a, ra, xr, rfl, hs, hr1, hr2⟩ := eng_at hd
    refine ⟨_, (pss_cons (ps_asg (pv 0) (pg_tup rfl (pgs_cons (pg_name (i := 1) sc_turned_by_hand.nd rfl (.inl rfl)) (pgs_cons (pg_name (i := 2) sc_turned_by_hand.nd rfl (.inl rfl)) (pgs_cons (pg_name (i := 3) sc_turned_by_hand.nd rfl (.inl rfl)) (pgs_cons (pg_name (i := 4) sc_turned_by_hand.nd rfl (.inl rfl)) (pgs_cons (pg_name (i := 5) sc_turned_by_hand.nd rfl (.inl rfl)) pgs_nil)))))))
 (pss_one (ps_ret (pe_tup (pa_cons (pv 1) (pa_cons (pv 2) (pa_cons (pv 3) (pa_cons (pe_un un_neg (pv 4)) (pa_cons (pv 5) pa_nil))))))))), ?_⟩
    refine ⟨.ref a, rfl, a, _, rfl, hs, rfl, _, _, rfl, _, _, rfl, _, _, rfl, _, _, rfl, _, _, rfl, rfl, ?_⟩
    refine ⟨_, rfl, _, rfl, _, rfl, .int look, rfl, look, rfl, .ref ra, rfl, by show 5 ≤ sizeLine; decide, fun p np => ?_⟩
    exact q _ _ (same_new np) (DT.new (.cons (.int _) (.cons (.int _) (.cons (.int _) (.cons (.int _) (.cons (.tup hr1 hr2) .nil))))) np)
end
section
variable {P : Program} {w : World} {K : PySem.W.Frag} {mg : Str → Option Value} {base : Heap}
theorem alike_step (T : Txt K w mg) {k n : Nat} {sp' : Sp} (ih : FnOk P w K mg base CX0 k T.f__law_alike T.fd__law_alike ["_law_found", "_law_due"] sp')
    (hsp : ∀ (v u : V) (d : PyData) (H : Hp) (Q : VK), DT K H v d → DT K H u d → okD d = true → d.depth + 1 ≤ n → (∀ H', Same H H' → Q (.bl true) H') → sp' [v, u] H Q E0) :
    FnOk P w K mg base CX0 (k + 1) T.f__law_alike T.fd__law_alike ["_law_found", "_law_due"] (spAlike K n) := by
  refine T.F__law_alike.ok sc__law_alike (fun vs H Q E h => ?_) (fun cdv A outer s H vs Q E hr h => ?_)
  · obtain ⟨v, u, d, rfl, _⟩ := h
    rfl
  · obtain ⟨v, u, d, rfl, hv, hu, ho, hn, q⟩ := h
    refine ⟨_, (pss_cons (ps_if (pt_val (pe_callB call_isiT (by rfl) T.m_isinstance (by decide +kernel) (pa_cons (pv 1) (pa_cons (pe_tup (pa_cons (pe_bltn (v := .ty "tuple") (by rfl) T.m_tuple (by decide +kernel) rfl) (pa_cons (pe_bltn (v := .ty "list") (by rfl) T.m_list (by decide +kernel) rfl) pa_nil))) pa_nil))))
 (pss_cons (ps_if (PW.pt (pw_or (pt_cmpR op_ne (pe_callB call_isi (by rfl) T.m_isinstance (by decide +kernel) (pa_cons (pv 0) (pa_cons (pe_bltn (v := .ty "tuple") (by rfl) T.m_tuple (by decide +kernel) rfl) pa_nil))) (pe_callB call_isi (by rfl) T.m_isinstance (by decide +kernel) (pa_cons (pv 1) (pa_cons (pe_bltn (v := .ty "tuple") (by rfl) T.m_tuple (by decide +kernel) rfl) pa_nil))) (nomark _)) (pw_or1 (pt_cmpR op_ne (pe_callB call_isi (by rfl) T.m_isinstance (by decide +kernel) (pa_cons (pv 0) (pa_cons (pe_bltn (v := .ty "list") (by rfl) T.m_list (by decide +kernel) rfl) pa_nil))) (pe_callB call_isi (by rfl) T.m_isinstance (by decide +kernel) (pa_cons (pv 1) (pa_cons (pe_bltn (v := .ty "list") (by rfl) T.m_list (by decide +kernel) rfl) pa_nil))) (nomark _)))))
 (pss_one (ps_ret pe_bl))
 pss_nil)
 (pss_one (ps_ret (pe_and (pe_cmpR op_eq (pe_callB call_len_seq (by rfl) T.m_len (by decide +kernel) (pa_cons (pv 0) pa_nil)) (pe_callB call_len_seq (by rfl) T.m_len (by decide +kernel) (pa_cons (pv 1) pa_nil)) (nomark _)) (pe_one (pe_callB (cr_all rfl) (by rfl) T.m_all (by decide +kernel) (pa_cons (pe_lc (own := [("_law_one", 2), ("_law_other", 3)]) (g := gTup K 2 (gCons (gName 2) (gCons (gName 3) gNil))) (by rfl) sc__law_alike.nd (RZ.pi_zipA (by rfl) T.m_zip (pa_cons (pv 0) (pa_cons (pv 1) pa_nil))) (blkOk_by (own := [("_law_one", 2), ("_law_other", 3)]) (N := N__law_alike) (sc := defScope s__law_alike) (by decide +kernel)) (fun _ _ _ _ _ => pg_tup (n := 2) rfl (pgs_cons (pg_name (i := 2) sc__law_alike.nd rfl (.inl rfl) (.inr rfl)) (pgs_cons (pg_name (i := 3) sc__law_alike.nd rfl (.inl rfl) (.inr rfl)) pgs_nil))) (fun _ _ _ _ _ => pts_nil) (fun _ _ _ _ _ => (pe_call ih hr (by rfl) T.g__law_alike T.F__law_alike.kp T.b__law_alike .nil pass0 (pa_cons (pv 2) (pa_cons (pv 3) pa_nil))))) pa_nil)))))))
 pss_nil)
 (pss_cons (ps_if (PW.pt (pw_or (pt_cmpR op_ne (pe_callB call_isi (by rfl) T.m_isinstance (by decide +kernel) (pa_cons (pv 0) (pa_cons (pe_bltn (v := .ty "bool") (by rfl) T.m_bool (by decide +kernel) rfl) pa_nil))) (pe_callB call_isi (by rfl) T.m_isinstance (by decide +kernel) (pa_cons (pv 1) (pa_cons (pe_bltn (v := .ty "bool") (by rfl) T.m_bool (by decide +kernel) rfl) pa_nil))) (nomark _)) (pw_or1 (pt_cmpR op_ne (pe_callB call_isi (by rfl) T.m_isinstance (by decide +kernel) (pa_cons (pv 0) (pa_cons (pe_bltn (v := .ty "str") (by rfl) T.m_str (by decide +kernel) rfl) pa_nil))) (pe_callB call_isi (by rfl) T.m_isinstance (by decide +kernel) (pa_cons (pv 1) (pa_cons (pe_bltn (v := .ty "str") (by rfl) T.m_str (by decide +kernel) rfl) pa_nil))) (nomark _)))))
 (pss_one (ps_ret pe_bl))
 pss_nil)
 (pss_one (ps_ret (pe_and (pe_not (pe_callB call_isiT (by rfl) T.m_isinstance (by decide +kernel) (pa_cons (pv 0) (pa_cons (pe_tup (pa_cons (pe_bltn (v := .ty "tuple") (by rfl) T.m_tuple (by decide +kernel) rfl) (pa_cons (pe_bltn (v := .ty "list") (by rfl) T.m_list (by decide +kernel) rfl) (pa_cons (pe_bltn (v := .ty "dict") (by rfl) T.m_dict (by decide +kernel) rfl) pa_nil)))) pa_nil)))) (pe_one (pe_cmpR (op_eqD hr.units) (pv 0) (pv 1) (nomark _)))))))), ?_⟩
    refine ⟨u, rfl, by show 2 ≤ sizeLine; decide, fun tp np => ?_⟩
    have s1 := same_new (o := HO.tup [.ty "tuple", .ty "list"]) np
    have hv1 := hv.up (tk_same s1)
    have hu1 := hu.up (tk_same s1)
    refine ⟨u, tp, _, _, _, _, rfl, upd_same, .cons (.ty _) (.cons (.ty _) .nil), hu1.ty, kTL hu1, _, rfl, ?_⟩
    cases hd : isT d with
    | true =>
      refine iteT ?_
      refine ⟨v, rfl, v, .ty "tuple", _, _, _, rfl, .ty _, hv1.ty, kT hv1, u, rfl, u, .ty "tuple", _, _, _, rfl, .ty _, hu1.ty, kT hu1, rfl, _, rfl, iteNS rfl ?_⟩
      refine ⟨v, rfl, v, .ty "list", _, _, _, rfl, .ty _, hv1.ty, kL hv1, u, rfl, u, .ty "list", _, _, _, rfl, .ty _, hu1.ty, kL hu1, rfl, _, rfl, iteNS rfl ?_⟩
      obtain ⟨ds, rfl⟩ : ∃ ds, d = .tuple ds := by
        cases d <;> first | exact ⟨_, rfl⟩ | cases hd
      obtain ⟨a, xs, rfl, hsa, hxs⟩ := hv1.tupOf
      obtain ⟨b, ys, rfl, hsb, hys⟩ := hu1.tupOf
      refine ⟨.ref a, rfl, a, xs, rfl, .inr hsa, .ref b, rfl, b, ys, rfl, .inr hsb, rfl, _, rfl, iteEq (by rw [hxs.length, hys.length]) ?_⟩
      rw [okD, Bool.and_eq_true] at ho
      have hl := of_decide_eq_true ho.1
      refine ⟨.ref a, rfl, .ref b, rfl, a, b, xs, ys, rfl, .inr ⟨hsa, hsb, fun D nD => ?_⟩⟩
      generalize hH1 : upd H tp (HO.tup [.ty "tuple", .ty "list"]) = H1 at *
      refine lc_zipT (hxs.length.trans hys.length.symm) (fun i H' => Same H1 H' ∧ H' D = some (.lst (List.replicate i (.bl true)))) ⟨same_new nD, upd_same⟩ (fun i H' hP => ⟨tk_seq (tk_same hP.1) hsa, tk_seq (tk_same hP.1) hsb⟩) (fun i x y t H' hx hy hP nt => ?_) (fun H' hP => ?_)
      · obtain ⟨e, he, dx1⟩ := hxs.getV hx
        obtain ⟨e2, he2, dy1⟩ := hys.getV hy
        have ee : e2 = e := Option.some.inj (he2.symm.trans he)
        subst ee
        have s2 : Same H1 (upd H' t (.tup [x, y])) := hP.1.trans (same_new nt)
        refine ⟨t, _, rfl, SqT.of upd_same, rfl, _, _, rfl, _, _, rfl, rfl, rfl, ?_⟩
        refine ⟨x, rfl, y, rfl, ?_⟩
        refine hsp x y e2 _ _ (dx1.up (tk_same s2)) (dy1.up (tk_same s2)) (okAll_get ho.2 he) ?_ (fun H2 s3 => ?_)
        · have h1 := dep_get he
          rw [PyData.depth] at hn
          omega
        · refine ⟨_, s3 _ _ ((same_new nt) _ _ hP.2), ?_, ?_, ?_⟩
          · rw [List.length_replicate]
            have h1 : i < xs.length := (List.getElem?_eq_some_iff.mp hx).1
            rw [hxs.length] at h1
            exact small1000 (by omega)
          · intro c o h
            rw [upd_ne (ne_of_none h nD)]
            exact s3 _ _ (s2 _ _ h)
          · rw [upd_same, ← List.replicate_succ']
      · refine ⟨D, List.replicate xs.length true, rfl, SqL.of (by rw [List.map_replicate]; exact hP.2), ?_⟩
        have e : (List.replicate xs.length true).all id = true := by
          rw [List.all_eq_true]
          intro z hz
          rw [List.eq_of_mem_replicate hz]
          rfl
        rw [e]
        exact q _ (s1.trans hP.1)
    | false =>
      refine iteF ?_
      refine ⟨v, rfl, v, .ty "bool", _, _, _, rfl, .ty _, hv1.ty, kB hv1, u, rfl, u, .ty "bool", _, _, _, rfl, .ty _, hu1.ty, kB hu1, rfl, _, rfl, iteNS rfl ?_⟩
      refine ⟨v, rfl, v, .ty "str", _, _, _, rfl, .ty _, hv1.ty, kS hv1, u, rfl, u, .ty "str", _, _, _, rfl, .ty _, hu1.ty, kS hu1, rfl, _, rfl, iteNS rfl ?_⟩
      refine ⟨v, rfl, by show 3 ≤ sizeLine; decide, fun tq nq => ?_⟩
      have s2 := same_new (o := HO.tup [.ty "tuple", .ty "list", .ty "dict"]) nq
      have hv2 := hv1.up (tk_same s2)
      have hu2 := hu1.up (tk_same s2)
      refine ⟨v, tq, _, _, _, _, rfl, upd_same, .cons (.ty _) (.cons (.ty _) (.cons (.ty _) .nil)), hv2.ty, kTLD hv2, _, rfl, _, rfl, ?_⟩
      rw [hd]
      refine iteT ?_
      have sh : SeqAt.shaped d = true := by
        unfold SeqAt.shaped
        rw [lay_ok d ho]
        cases d <;> first | rfl | (cases hd)
        all_goals (rw [okD] at ho; cases ho)
      refine ⟨v, rfl, u, rfl, d, d, hv2.dp, hu2.dp, sh, sh, ?_⟩
      rw [SeqAt.eqv_refl d (lay_ok d ho)]
      exact q _ (s1.trans s2)
theorem ok__law_alike (T : Txt K w mg) : ∀ n : Nat, FnOk P w K mg base CX0 (n + 1) T.f__law_alike T.fd__law_alike ["_law_found", "_law_due"] (spAlike K n)
  | 0 => alike_step T (sp' := fun _ _ _ _ => False) ⟨fun _ _ _ _ h => h.elim, fun _ _ _ _ _ _ _ _ _ _ _ _ _ h => h.elim⟩ (fun _ _ _ _ _ _ _ _ h _ => by omega)
  | n + 1 => alike_step T (ok__law_alike T n) (fun v u d H Q h1 h2 h3 h4 q => ⟨v, u, d, rfl, h1, h2, h3, by omega, q⟩)
end
theorem cut_to (l1 l2 : List PyData) : OR.cutD (l1 ++ l2) none (some (l1.length : Int)) = l1 := by
  unfold OR.cutD
  rw [HT.sIx_none, HT.sIx_nat, List.length_append, Nat.min_eq_left (Nat.le_add_right _ _), List.drop_zero, Nat.sub_zero, List.take_left]
theorem cut_from (l1 l2 : List PyData) (d : PyData) : OR.cutD (l1 ++ d :: l2) (some ((l1.length : Int) + 1)) none = l2 := by
  have e : ((l1.length : Int) + 1) = ((l1.length + 1 : Nat) : Int) := by omega
  have e2 : l1 ++ d :: l2 = (l1 ++ [d]) ++ l2 := by rw [List.append_assoc]; rfl
  have e3 : (l1 ++ d :: l2).length = l1.length + 1 + l2.length := by
    rw [List.length_append, List.length_cons]
    omega
  unfold OR.cutD
  rw [e, HT.sIx_none, HT.sIx_nat, e3, Nat.min_eq_left (Nat.le_add_right _ _)]
  rw [e2, show l1.length + 1 = (l1 ++ [d]).length by rw [List.length_append]; rfl, List.drop_left, Nat.add_sub_cancel_left, List.take_length]
def spPaint (K : PySem.W.Frag) : Sp := fun vs H Q _ => ∃ (v : V) (x y w look c : Int) (l1 l2 : List (Sh × Int)) (r : Sh × Int), vs = [v, .int (l1.length : Int), .int c] ∧ DT K H v (eng x y w look (l1 ++ r :: l2)) ∧ l1.length + l2.length ≤ 900 ∧ ∀ v' H', Same H H' → DT K H' v' (eng x y w look (l1 ++ (r.1, c) :: l2)) → Q v' H'
def goneE (x y w look : Int) (rs : List (Sh × Int)) (d : PyData) : Prop := (∀ r rest, rs = r :: rest → look = 1 → d = fwdE x y w look r rest) ∧ (∀ init r, rs = init ++ [r] → look ≠ 1 → d = bwdE x y w look r init)
def spLGone (K : PySem.W.Frag) : Sp := fun vs H Q _ => ∃ (v : V) (x y w look : Int) (rs : List (Sh × Int)), vs = [v] ∧ DT K H v (eng x y w look rs) ∧ rs ≠ [] ∧ rs.length ≤ 900 ∧ 0 ≤ w ∧ w ≤ 3 ∧ (look = 1 ∨ look = -1) ∧
  ∀ v' H', Same H H' → (∀ r rest, rs = r :: rest → look = 1 → DT K H' v' (fwdE x y w look r rest)) → (∀ init r, rs = init ++ [r] → look ≠ 1 → DT K H' v' (bwdE x y w look r init)) → Q v' H'
theorem strOk_sh (s : Sh) : PyData.strOk s.str = true := by
  cases s <;> decide +kernel
theorem okAll_rails : ∀ rs : List (Sh × Int), okAll (rs.map rail) = true
  | [] => rfl
  | r :: rs => by
    rw [List.map_cons, okAll, okAll_rails rs]
    have h : okD (rail r) = true := by
      unfold rail
      rw [okD, okAll, okAll, okAll, okD, okD, strOk_sh]
      rfl
    rw [h]
    rfl
theorem ok_eng (x y w look : Int) (rs : List (Sh × Int)) (h : rs.length ≤ 1000) : okD (eng x y w look rs) = true := by
  unfold eng
  have h2 : okD (.tuple (rs.map rail)) = true := by
    rw [okD, okAll_rails, List.length_map, decide_eq_true h]
    rfl
  rw [okD, okAll, okAll, okAll, okAll, okAll, okAll, okD, okD, okD, okD, h2]
  rfl
theorem dep_rails : ∀ rs : List (Sh × Int), PyData.depthAll (rs.map rail) ≤ 1
  | [] => by simp [PyData.depthAll]
  | r :: rs => by
    have h := dep_rails rs
    rw [List.map_cons, PyData.depthAll]
    have h2 : (rail r).depth ≤ 1 := by simp [rail, PyData.depth, PyData.depthAll]
    omega
theorem dep_eng (x y w look : Int) (rs : List (Sh × Int)) : (eng x y w look rs).depth ≤ 3 := by
  have h := dep_rails rs
  unfold eng
  rw [PyData.depth, PyData.depthAll, PyData.depthAll, PyData.depthAll, PyData.depthAll, PyData.depthAll, PyData.depthAll, PyData.depth, PyData.depth, PyData.depth, PyData.depth, PyData.depth]
  omega
/-! ### an engine's repr -/
theorem log_small {i : Int} (h : i.natAbs < 10 ^ 12) : i.natAbs.log2 < 1920 := by
  by_cases z : i.natAbs = 0
  · rw [z]
    decide
  · have h1 := (Nat.log2_lt z (k := 40)).mpr (Nat.lt_of_lt_of_le h (by decide))
    omega
theorem short_int {i : Int} (h : i.natAbs < 10 ^ 12) : PyData.intsShort 13 (.int i) = true := by
  rw [PyData.intsShort]
  exact decide_eq_true (PyData.shown_int_le h)
theorem show_int {i : Int} (h : i.natAbs < 10 ^ 12) : PyData.showable (.int i) = true := by
  rw [PyData.showable]
  exact decide_eq_true (log_small h)
theorem rails_show : ∀ rs : List (Sh × Int), (∀ r ∈ rs, r.2.natAbs < 10 ^ 12) → PyData.showableAll (rs.map rail) = true ∧ PyData.hasDictAll (rs.map rail) = false ∧ PyData.intsShortAll 13 (rs.map rail) = true ∧ PyData.bulkAll (rs.map rail) ≤ 10 * rs.length
  | [], _ => ⟨rfl, rfl, rfl, by simp [PyData.bulkAll]⟩
  | r :: rs, h => by
    obtain ⟨h1, h2, h3, h4⟩ := rails_show rs fun q hq => h q (List.mem_cons_of_mem _ hq)
    have hr := h r List.mem_cons_self
    have b1 : r.1.str.cps.size ≤ 1 := by cases r.1 <;> decide +kernel
    refine ⟨?_, ?_, ?_, ?_⟩
    · rw [List.map_cons, PyData.showableAll, h1, rail, PyData.showable, PyData.showableAll, PyData.showableAll, PyData.showableAll, PyData.showable, show_int hr]
      rfl
    · rw [List.map_cons, PyData.hasDictAll, h2, rail, PyData.hasDict, PyData.hasDictAll, PyData.hasDictAll, PyData.hasDictAll, PyData.hasDict, PyData.hasDict]
      rfl
    · rw [List.map_cons, PyData.intsShortAll, h3, rail, PyData.intsShort, PyData.intsShortAll, PyData.intsShortAll, PyData.intsShortAll, PyData.intsShort, short_int hr]
      rfl
    · rw [List.map_cons, PyData.bulkAll, rail, PyData.bulk, PyData.bulkAll, PyData.bulkAll, PyData.bulkAll, PyData.bulk, PyData.bulk, List.length_cons]
      omega
theorem eng_show {x y w look : Int} {rs : List (Sh × Int)} (hx : x.natAbs < 10 ^ 12) (hy : y.natAbs < 10 ^ 12) (hw : w.natAbs < 10 ^ 12) (hl : look.natAbs < 10 ^ 12) (hr : ∀ r ∈ rs, r.2.natAbs < 10 ^ 12) (ln : rs.length ≤ 900) :
    (eng x y w look rs).showable = true ∧ (eng x y w look rs).hasDict = false ∧ (eng x y w look rs).shown.length ≤ sizeLine := by
  obtain ⟨h1, h2, h3, h4⟩ := rails_show rs hr
  refine ⟨?_, ?_, ?_⟩
  · unfold eng
    rw [PyData.showable, PyData.showableAll, PyData.showableAll, PyData.showableAll, PyData.showableAll, PyData.showableAll, PyData.showableAll, show_int hx, show_int hy, show_int hw, show_int hl, PyData.showable, h1]
    rfl
  · unfold eng
    rw [PyData.hasDict, PyData.hasDictAll, PyData.hasDictAll, PyData.hasDictAll, PyData.hasDictAll, PyData.hasDictAll, PyData.hasDictAll, PyData.hasDict, PyData.hasDict, PyData.hasDict, PyData.hasDict, PyData.hasDict, h2]
    rfl
  · refine PyData.shown_fits_bulk (B := 13) (by decide) (by decide) (PyData.leavesShort_of_canLay0 13 _ (lay_ok _ (ok_eng x y w look rs (by omega))) ?_) ?_
    · unfold eng
      rw [PyData.intsShort, PyData.intsShortAll, PyData.intsShortAll, PyData.intsShortAll, PyData.intsShortAll, PyData.intsShortAll, PyData.intsShortAll, short_int hx, short_int hy, short_int hw, short_int hl, PyData.intsShort, h3]
      rfl
    · unfold eng
      rw [PyData.bulk, PyData.bulkAll, PyData.bulkAll, PyData.bulkAll, PyData.bulkAll, PyData.bulkAll, PyData.bulkAll, PyData.bulk, PyData.bulk, PyData.bulk, PyData.bulk, PyData.bulk]
      omega
theorem on_ab (q : Int × Int) {w : Int} (w0 : 0 ≤ w) (w3 : w ≤ 3) : on (on q ((w + 2) % 4)) w = q := by
  obtain ⟨x, y⟩ := q
  rcases way4 w0 w3 with rfl | rfl | rfl | rfl
  · simp [on, dx, dy]
    omega
  · simp [on, dx, dy]
    omega
  · simp [on, dx, dy]
    omega
  · simp [on, dx, dy]
    omega
theorem on_ab2 (q : Int × Int) {w : Int} (w0 : 0 ≤ w) (w3 : w ≤ 3) : on (on q w) ((w + 2) % 4) = q := by
  obtain ⟨x, y⟩ := q
  rcases way4 w0 w3 with rfl | rfl | rfl | rfl
  · simp [on, dx, dy]
    omega
  · simp [on, dx, dy]
    omega
  · simp [on, dx, dy]
    omega
  · simp [on, dx, dy]
    omega
theorem tn_tb1 {w : Int} (w0 : 0 ≤ w) (w3 : w ≤ 3) (s : Sh) : tn (tb w s) s = w := by
  rcases way4 w0 w3 with rfl | rfl | rfl | rfl <;> cases s <;> decide
theorem tb_tn1 {w : Int} (w0 : 0 ≤ w) (w3 : w ≤ 3) (s : Sh) : tb (tn w s) s = w := by
  rcases way4 w0 w3 with rfl | rfl | rfl | rfl <;> cases s <;> decide
theorem behind_eq (x y w : Int) (w0 : 0 ≤ w) (w3 : w ≤ 3) : pick4D w (.tuple [.int x, .int (y - 1)]) (.tuple [.int (x - 1), .int y]) (.tuple [.int x, .int (y + 1)]) (.tuple [.int (x + 1), .int y]) = sq (on (x, y) ((w + 2) % 4)) := by
  rcases way4 w0 w3 with rfl | rfl | rfl | rfl
  · simp [pick4D, sq, on, dx, dy, Int.sub_eq_add_neg]
  · simp [pick4D, sq, on, dx, dy, Int.sub_eq_add_neg]
  · simp [pick4D, sq, on, dx, dy]
  · simp [pick4D, sq, on, dx, dy]
theorem only_way (s : Sh) {w : Int} (w0 : 0 ≤ w) (w3 : w ≤ 3) : ((List.range 4).filter fun (k : Nat) => decide (tn (k : Int) s = w)).map (fun (k : Nat) => V.int (k : Int)) = [V.int (tb w s)] := by
  rcases way4 w0 w3 with rfl | rfl | rfl | rfl <;> cases s <;> decide
section
variable {P : Program} {w : World} {K : PySem.W.Frag} {mg : Str → Option Value} {base : Heap}
theorem ok_painted (T : Txt K w mg) : FnOk P w K mg base CX0 1 T.f_painted T.fd_painted ["engine", "place", "colour"] (spPaint K) := by
  refine T.F_painted.ok sc_painted (fun vs H Q E h => ?_) (fun cdv A outer s H vs Q E hr h => ?_)
  · obtain ⟨v, x, y, w, look, c, l1, l2, r, rfl, _⟩ := h
    rfl
  · obtain ⟨v, x, y, w, look, c, l1, l2, r, rfl, hd, hl, q⟩ := h
    obtain ⟨a, ra, xr, rfl, hs, hr1, hr2⟩ := eng_at hd
    rw [List.map_append, List.map_cons] at hr2
    obtain ⟨v0, hv0, d0⟩ := hr2.get (i := l1.length) (d := rail r) (by rw [List.getElem?_append_right (by rw [List.length_map]; exact Nat.le_refl _), List.length_map, Nat.sub_self]; rfl)
    obtain ⟨a0, rfl, h0⟩ := rail_at d0
    have dr : DT K H (.ref ra) (.tuple (l1.map rail ++ rail r :: l2.map rail)) := .tup hr1 hr2
    refine ⟨_, (pss_cons (ps_asg (pv 0) (pg_tup rfl (pgs_cons (pg_name (i := 3) sc_painted.nd rfl (.inl rfl)) (pgs_cons (pg_name (i := 4) sc_painted.nd rfl (.inl rfl)) (pgs_cons (pg_name (i := 5) sc_painted.nd rfl (.inl rfl)) (pgs_cons (pg_name (i := 6) sc_painted.nd rfl (.inl rfl)) (pgs_cons (pg_name (i := 7) sc_painted.nd rfl (.inl rfl)) pgs_nil)))))))
 (pss_cons (ps_asg (pe_ix ix_tup (pv 7) (pv 1) (fun _ _ => rfl)) (pg_tup rfl (pgs_cons (pg_name (i := 8) sc_painted.nd rfl (.inl rfl)) (pgs_cons (pg_name (i := 9) sc_painted.nd rfl (.inl rfl)) pgs_nil))))
 (pss_one (ps_ret (pe_tup (pa_cons (pv 3) (pa_cons (pv 4) (pa_cons (pv 5) (pa_cons (pv 6) (pa_cons (pe_op op_catA (pe_op op_catA (pe_slice sl_tupA (pv 7) po_none (po_some (pv 1))) (pe_tup (pa_cons (pe_tup (pa_cons (pv 8) (pa_cons (pv 2) pa_nil))) pa_nil))) (pe_slice sl_tupA (pv 7) (po_some (pe_op op_add (pv 1) pe_int)) po_none)) pa_nil)))))))))), ?_⟩
    refine ⟨.ref a, rfl, a, _, rfl, hs, rfl, _, _, rfl, _, _, rfl, _, _, rfl, _, _, rfl, _, _, rfl, rfl, ?_⟩
    refine ⟨.ref ra, rfl, .int (l1.length : Int), rfl, ra, xr, _, .ref a0, rfl, rfl, hr1, atI_nat hv0, a0, _, rfl, h0, rfl, _, _, rfl, _, _, rfl, rfl, ?_⟩
    refine ⟨_, rfl, _, rfl, _, rfl, _, rfl, .ref ra, rfl, .int (l1.length : Int), rfl, (l1.length : Int), rfl, r_slA dr fun v1 H1 s1 d1 => ?_⟩
    have e1 := cut_to (l1.map rail) (rail r :: l2.map rail)
    rw [List.length_map] at e1
    rw [e1] at d1
    refine ⟨.str r.1.str, rfl, .int c, rfl, by show 2 ≤ sizeLine; decide, fun t nt => ⟨by show 1 ≤ sizeLine; decide, fun t2 nt2 => ?_⟩⟩
    have dt : DT K (upd (upd H1 t (.tup [.str r.1.str, .int c])) t2 (.tup [.ref t])) (.ref t2) (.tuple [rail (r.1, c)]) := DT.new (.cons (DT.new (.cons (.str _) (.cons (.int c) .nil)) nt) .nil) nt2
    have s2 := (same_new (o := HO.tup [.str r.1.str, .int c]) nt).trans (same_new (o := HO.tup [.ref t]) nt2)
    refine r_catA (d1.up (tk_same s2)) dt (by rw [List.length_map]; show l1.length + 1 ≤ 1000; omega) fun v3 H3 s3 d3 => ?_
    have s13 := (s1.trans s2).trans s3
    refine ⟨.ref ra, rfl, .int (l1.length : Int), rfl, (l1.length : Int), 1, rfl, rfl, _, rfl, r_np (r_slA (dr.up (tk_same s13)) fun v4 H4 s4 d4 => ?_)⟩
    have e2 := cut_from (l1.map rail) (l2.map rail) (rail r)
    rw [List.length_map] at e2
    rw [e2] at d4
    refine r_catA (d3.up (tk_same s4)) d4 (by rw [List.length_append, List.length_map, List.length_map]; show l1.length + 1 + l2.length ≤ 1000; omega) fun v5 H5 s5 d5 => ⟨by show 5 ≤ sizeLine; decide, fun p np => ?_⟩
    refine q _ _ ((s13.trans (s4.trans s5)).trans (same_new np)) ?_
    have d5' : DT K H5 v5 (.tuple ((l1 ++ (r.1, c) :: l2).map rail)) := by
      rw [List.map_append, List.map_cons]
      rw [List.append_assoc] at d5
      exact d5
    exact DT.new (.cons (.int _) (.cons (.int _) (.cons (.int _) (.cons (.int _) (.cons d5' .nil))))) np
theorem ok__law_gone (T : Txt K w mg) : FnOk P w K mg base CX0 2 T.f__law_gone T.fd__law_gone ["_law_engine_here"] (spLGone K) := by
  refine T.F__law_gone.ok sc__law_gone (fun vs H Q E h => ?_) (fun cdv A outer s H vs Q E hr h => ?_)
  · obtain ⟨v, x, y, w, look, rs, rfl, _⟩ := h
    rfl
  · obtain ⟨v, x, y, w, look, rs, rfl, hd, hne, hl, w0, w3, hk, q⟩ := h
    obtain ⟨a, ra, xr, rfl, hs, hr1, hr2⟩ := eng_at hd
    refine ⟨_, (pss_cons (ps_asg (pv 0) (pg_tup rfl (pgs_cons (pg_name (i := 1) sc__law_gone.nd rfl (.inl rfl)) (pgs_cons (pg_name (i := 2) sc__law_gone.nd rfl (.inl rfl)) (pgs_cons (pg_name (i := 3) sc__law_gone.nd rfl (.inl rfl)) (pgs_cons (pg_name (i := 4) sc__law_gone.nd rfl (.inl rfl)) (pgs_cons (pg_name (i := 5) sc__law_gone.nd rfl (.inl rfl)) pgs_nil)))))))
 (pss_cons (ps_if (pt_cmpR op_eq (pv 4) pe_int (nomark _))
 (pss_cons (ps_set (i := 6) sc__law_gone.nd rfl (.inl rfl) (pe_call (ok__law_turned T) (hr.mono (by decide)) (by rfl) T.g__law_turned T.F__law_turned.kp T.b__law_turned .nil pass0 (pa_cons (pv 3) (pa_cons (pe_ix ix_tup (pe_ix ix_tup (pv 5) pe_int (fun _ _ => rfl)) pe_int (fun _ _ => rfl)) pa_nil))))
 (pss_one (ps_ret (pe_op op_catA (pe_call (ok__law_on T) (hr.mono (by decide)) (by rfl) T.g__law_on T.F__law_on.kp T.b__law_on .nil pass0 (pa_cons (pe_tup (pa_cons (pv 1) (pa_cons (pv 2) pa_nil))) (pa_cons (pv 6) pa_nil))) (pe_tup (pa_cons (pv 6) (pa_cons pe_int (pa_cons (pe_op op_catA (pe_slice sl_tupA (pv 5) (po_some pe_int) po_none) (pe_tup (pa_cons (pe_ix ix_tup (pv 5) pe_int (fun _ _ => rfl)) pa_nil))) pa_nil))))))))
 pss_nil)
 (pss_cons (ps_set (i := 7) sc__law_gone.nd rfl (.inr rfl) (pe_ix ix_tup (pe_ix ix_tup (pv 5) (pe_un un_neg pe_int) (fun _ _ => rfl)) pe_int (fun _ _ => rfl)))
 (pss_cons (ps_set (i := 8) sc__law_gone.nd rfl (.inl rfl) (pe_ix ix_list (pe_lc (own := [("_law_way", 3)]) (g := gName 3) (by rfl) sc__law_gone.nd (pi_range1 (by rfl) T.m_range (pa_cons pe_int pa_nil)) (blkOk_by (own := [("_law_way", 3)]) (N := N__law_gone) (sc := defScope s__law_gone) (by decide +kernel)) (fun _ _ _ _ _ => pg_name (i := 3) sc__law_gone.nd rfl (.inl rfl) (.inr rfl)) (fun _ _ _ _ _ => (pts_one (pt_cmpR op_eq (pe_call (ok__law_turned T) (hr.mono (by decide)) (by rfl) T.g__law_turned T.F__law_turned.kp T.b__law_turned .nil pass0 (pa_cons (pv 3) (pa_cons (pv 7) pa_nil))) (pe_ix (r := rIxT K) ix_tup (pv 0) pe_int (fun _ _ => rfl)) (nomark _)))) (fun _ _ _ _ _ => (pv 3))) pe_int (fun _ _ => rfl)))
 (pss_cons (ps_asg (pe_dget (hu_of hr) (pe_disp (pps_cons pe_int (pe_tup (pa_cons (pv 1) (pa_cons (pe_op op_sub (pv 2) pe_int) pa_nil))) (pps_cons pe_int (pe_tup (pa_cons (pe_op op_sub (pv 1) pe_int) (pa_cons (pv 2) pa_nil))) (pps_cons pe_int (pe_tup (pa_cons (pv 1) (pa_cons (pe_op op_add (pv 2) pe_int) pa_nil))) (pps_cons pe_int (pe_tup (pa_cons (pe_op op_add (pv 1) pe_int) (pa_cons (pv 2) pa_nil))) pps_nil)))) (by rfl) (by rfl) (fun z => by cases z) (by decide)) (pv 3) (fun _ _ => rfl)) (pg_tup rfl (pgs_cons (pg_name (i := 1) sc__law_gone.nd rfl (.inl rfl)) (pgs_cons (pg_name (i := 2) sc__law_gone.nd rfl (.inl rfl)) pgs_nil))))
 (pss_one (ps_ret (pe_tup (pa_cons (pv 1) (pa_cons (pv 2) (pa_cons (pv 8) (pa_cons (pe_op op_sub pe_int pe_int) (pa_cons (pe_op op_catA (pe_tup (pa_cons (pe_ix ix_tup (pv 5) (pe_un un_neg pe_int) (fun _ _ => rfl)) pa_nil)) (pe_slice sl_tupA (pv 5) po_none (po_some (pe_un un_neg pe_int)))) pa_nil))))))))))))), ?_⟩
    refine ⟨.ref a, rfl, a, _, rfl, hs, rfl, _, _, rfl, _, _, rfl, _, _, rfl, _, _, rfl, _, _, rfl, rfl, ?_⟩
    refine ⟨.int look, rfl, rfl, _, rfl, ite2 (fun e => ?_) (fun e => ?_)⟩
    · have el : look = 1 := V.int.inj (of_decide_eq_true e)
      subst el
      obtain ⟨r, rest, rfl⟩ : ∃ r rest, rs = r :: rest := by
        cases rs with
        | nil => exact absurd rfl hne
        | cons r rest => exact ⟨r, rest, rfl⟩
      obtain ⟨v0, hv0, d0⟩ := hr2.at (i := 0) (d := rail r) (atI_nat (j := 0) rfl)
      obtain ⟨a0, rfl, h0⟩ := rail_at d0
      have dr : DT K H (.ref ra) (.tuple (rail r :: rest.map rail)) := .tup hr1 hr2
      refine ⟨.int w, rfl, .ref ra, rfl, ra, xr, 0, .ref a0, rfl, rfl, hr1, hv0, a0, _, 0, .str r.1.str, rfl, rfl, h0, rfl, w, r.1, rfl, fun H1 s1 => ?_⟩
      refine ⟨.int x, rfl, .int y, rfl, by show 2 ≤ sizeLine; decide, fun t nt => ?_⟩
      refine ⟨.int (tn w r.1), rfl, .ref t, (x, y), tn w r.1, rfl, DT.new (.cons (.int x) (.cons (.int y) .nil)) nt, tn_lo _ _, tn_hi _ _, fun v2 H2 s2 d2 => ?_⟩
      have s12 := (s1.trans (same_new nt)).trans s2
      have dr2 := dr.up (tk_same s12)
      refine ⟨.int (tn w r.1), rfl, .ref ra, rfl, 1, rfl, r_np (r_slA dr2 fun v3 H3 s3 d3 => ?_)⟩
      rw [cut_1n] at d3
      have s13 := s12.trans s3
      refine ⟨.ref ra, rfl, ra, xr, 0, .ref a0, rfl, rfl, tk_seq (tk_same s13) hr1, hv0, by show 1 ≤ sizeLine; decide, fun t2 nt2 => ?_⟩
      have dt2 : DT K (upd H3 t2 (.tup [.ref a0])) (.ref t2) (.tuple [rail r]) := DT.new (.cons (d0.up (tk_same s13)) .nil) nt2
      refine r_catA (d3.up (tk_new nt2)) dt2 (by rw [List.length_map]; rw [List.length_cons] at hl; show rest.length + 1 ≤ 1000; omega) fun v4 H4 s4 d4 => ⟨by show 3 ≤ sizeLine; decide, fun t3 nt3 => ?_⟩
      have d4' : DT K H4 v4 (.tuple ((rest ++ [r]).map rail)) := by
        rw [List.map_append]
        exact d4
      have dt3 : DT K (upd H4 t3 (.tup [.int (tn w r.1), .int 1, v4])) (.ref t3) (.tuple [.int (tn w r.1), .int 1, .tuple ((rest ++ [r]).map rail)]) := DT.new (.cons (.int _) (.cons (.int _) (.cons d4' .nil))) nt3
      have s24 := (s3.trans (same_new (o := HO.tup [.ref a0]) nt2)).trans (s4.trans (same_new (o := HO.tup [.int (tn w r.1), .int 1, v4]) nt3))
      have d2' : DT K (upd H4 t3 (.tup [.int (tn w r.1), .int 1, v4])) v2 (.tuple [.int (on (x, y) (tn w r.1)).1, .int (on (x, y) (tn w r.1)).2]) := d2.up (tk_same s24)
      refine r_catA d2' dt3 (by show 2 + 3 ≤ 1000; decide) fun v5 H5 s5 d5 => ?_
      refine q _ _ ((s12.trans s24).trans s5) (fun r2 rest2 e2 _ => ?_) (fun _ _ _ z => absurd rfl z)
      cases e2
      exact d5
    · have el : ¬ look = 1 := fun z => e (by rw [z]; exact decide_eq_true rfl)
      have elk : look = -1 := by omega
      obtain ⟨init, r, rfl⟩ : ∃ init r, rs = init ++ [r] := by
        rcases List.eq_nil_or_concat rs with h | ⟨init, r, h⟩
        · exact absurd h hne
        · exact ⟨init, r, by rw [← List.concat_eq_append]; exact h⟩
      rw [List.map_append] at hr2
      obtain ⟨us, u, rfl, hus, hu⟩ := hr2.last
      obtain ⟨a0, rfl, h0⟩ := rail_at hu
      have dr : DT K H (.ref ra) (.tuple (init.map rail ++ [rail r])) := .tup hr1 hr2
      refine ⟨.ref ra, rfl, 1, rfl, ra, _, -1, .ref a0, rfl, rfl, hr1, atI_last us _, a0, _, 0, .str r.1.str, rfl, rfl, h0, rfl, ?_⟩
      -- the one way
      refine ⟨4, rfl, by decide, by decide, fun D nD => lc_range (lo := 0) (n := 4) (fun i H' => Same H H' ∧ H' D = some (.lst (((List.range i).filter fun (k : Nat) => decide (tn (k : Int) r.1 = w)).map (fun (k : Nat) => V.int (k : Int))))) ⟨same_new nD, upd_same⟩ (fun i H1 hi hP => ?_) (fun H1 hP => ?_)⟩
      · obtain ⟨s1, hD⟩ := hP
        refine ⟨rfl, ?_⟩
        rw [Int.zero_add]
        refine ⟨.int (i : Int), rfl, .str r.1.str, rfl, (i : Int), r.1, rfl, fun H2 s2 => ?_⟩
        refine ⟨.ref a, rfl, a, _, 2, .int w, rfl, rfl, tk_seq (tk_same (s1.trans s2)) hs, rfl, rfl, _, rfl, ite2 (fun z => ?_) (fun z => ?_)⟩
        · have z1 : tn (i : Int) r.1 = w := V.int.inj (of_decide_eq_true z)
          refine ⟨.int (i : Int), rfl, _, s2 _ _ hD, ?_, fun c o h => ?_, ?_⟩
          · rw [List.length_map]
            have h1 := List.length_filter_le (fun (k : Nat) => decide (tn (k : Int) r.1 = w)) (List.range i)
            rw [List.length_range] at h1
            exact small1000 (by omega)
          · rw [upd_ne (ne_of_none h nD)]
            exact s2 _ _ (s1 _ _ h)
          · rw [upd_same, List.range_succ, List.filter_append, List.map_append, List.filter_cons, if_pos (decide_eq_true z1)]
            rfl
        · have z1 : ¬ tn (i : Int) r.1 = w := fun zz => z (decide_eq_true (by rw [zz]))
          refine ⟨s1.trans s2, ?_⟩
          rw [List.range_succ, List.filter_append, List.filter_cons, if_neg (by rw [decide_eq_false z1]; decide), List.filter_nil, List.append_nil]
          exact s2 _ _ hD
      · obtain ⟨s1, hD⟩ := hP
        rw [only_way r.1 w0 w3] at hD
        refine ⟨D, _, 0, .int (tb w r.1), rfl, rfl, SqL.of hD, rfl, ?_⟩
        refine r_nm ?_
        try dsimp only
        refine r_seq (r_asg ?_)
        refine r_disp4 (K := K) (evd_2 (evi_v rfl) (evi_0 (evi_v rfl) evi_c)) (evd_2 (evi_0 (evi_v rfl) evi_c) (evi_v rfl)) (evd_2 (evi_v rfl) (evi_0 (evi_v rfl) evi_c)) (evd_2 (evi_0 (evi_v rfl) evi_c) (evi_v rfl)) rfl w0 w3 fun v2 H2 s2 d2 => ?_
        try dsimp only at d2
        rw [behind_eq x y w w0 w3] at d2
        obtain ⟨a2, rfl, h2⟩ := sq_at d2
        refine ⟨a2, _, rfl, h2, rfl, _, _, rfl, _, _, rfl, rfl, ?_⟩
        have s12 := s1.trans s2
        refine ⟨_, rfl, _, rfl, .int (tb w r.1), rfl, 0, 1, rfl, rfl, .ref ra, rfl, 1, rfl, ra, _, -1, .ref a0, rfl, rfl, tk_seq (tk_same s12) hr1, atI_last us _, by show 1 ≤ sizeLine; decide, fun t nt => ?_⟩
        have dt : DT K (upd H2 t (.tup [.ref a0])) (.ref t) (.tuple [rail r]) := DT.new (.cons (hu.up (tk_same s12)) .nil) nt
        refine ⟨.ref ra, rfl, 1, rfl, -1, rfl, r_slA ((dr.up (tk_same s12)).up (tk_new nt)) fun v3 H3 s3 d3 => ?_⟩
        rw [cut_i1] at d3
        refine r_catA (dt.up (tk_same s3)) d3 (by rw [List.length_map]; rw [List.length_append] at hl; show 1 + init.length ≤ 1000; omega) fun v4 H4 s4 d4 => ⟨by show 5 ≤ sizeLine; decide, fun p np => ?_⟩
        refine q _ _ ((s12.trans (same_new nt)).trans ((s3.trans s4).trans (same_new np))) (fun _ _ _ z => absurd z el) (fun init2 r2 e2 _ => ?_)
        obtain ⟨e3, e4⟩ := List.append_inj' e2 rfl
        cases e4
        rw [← e3, elk]
        exact DT.new (.cons (.int _) (.cons (.int _) (.cons (.int _) (.cons (.int _) (.cons d4 .nil))))) np
end
def spRight5 (K : PySem.W.Frag) : Sp := fun vs H Q _ => ∃ (b : Addr) (v : V) (x y w look : Int) (rs : List (Sh × Int)), vs = [.ref b, v] ∧ Box H b ∧ DT K H v (eng x y w look rs) ∧ 0 ≤ w ∧ w ≤ 3 ∧ (look = 1 ∨ look = -1) ∧ rs ≠ [] ∧ rs.length ≤ 12 ∧ (∀ r ∈ rs, 0 ≤ r.2 ∧ r.2 ≤ 9) ∧ x.natAbs < 10 ^ 12 ∧ y.natAbs < 10 ^ 12 ∧
  ∀ H', But b H H' → Box H' b → Q (.bl true) H'
theorem split_at {α : Type} {l : List α} {i : Nat} (h : i < l.length) : ∃ l1 r l2, l = l1 ++ r :: l2 ∧ l1.length = i := ⟨l.take i, l[i], l.drop (i + 1), by rw [← List.drop_eq_getElem_cons h, List.take_append_drop], by rw [List.length_take]; omega⟩
theorem gone_both {K : PySem.W.Frag} {H1 H2 : Hp} {v1 v2 : V} {x y w look : Int} {rs : List (Sh × Int)} (hk : look = 1 ∨ look = -1) (hne : rs ≠ []) (w0 : 0 ≤ w) (w3 : w ≤ 3)
    (f1 : ∀ r rest, rs = r :: rest → look = 1 → DT K H1 v1 (fwdE x y w look r rest)) (g1 : ∀ init r, rs = init ++ [r] → look ≠ 1 → DT K H1 v1 (bwdE x y w look r init))
    (f2 : ∀ r rest, rs = r :: rest → look = 1 → DT K H2 v2 (fwdE x y w look r rest)) (g2 : ∀ init r, rs = init ++ [r] → look ≠ 1 → DT K H2 v2 (bwdE x y w look r init)) :
    ∃ (x' y' w' : Int) (rs' : List (Sh × Int)), DT K H1 v1 (eng x' y' w' look rs') ∧ DT K H2 v2 (eng x' y' w' look rs') ∧ rs'.length = rs.length ∧ rs' ≠ [] ∧
      ∀ (H : Hp) (v : V), (∀ r rest, rs' = r :: rest → -look = 1 → DT K H v (fwdE x' y' w' (-look) r rest)) → (∀ init r, rs' = init ++ [r] → -look ≠ 1 → DT K H v (bwdE x' y' w' (-look) r init)) → DT K H v (eng x y w (-look) rs) := by
  rcases hk with rfl | rfl
  · obtain ⟨r, rest, rfl⟩ : ∃ r rest, rs = r :: rest := by
      cases rs with
      | nil => exact absurd rfl hne
      | cons r rest => exact ⟨r, rest, rfl⟩
    refine ⟨_, _, _, _, f1 r rest rfl rfl, f2 r rest rfl rfl, by rw [List.length_append, List.length_cons]; rfl, by simp, fun H v _ g => ?_⟩
    have h := g rest r rfl (by decide)
    unfold bwdE at h
    rw [on_ab2 (x, y) (tn_lo _ _) (tn_hi _ _), tb_tn1 w0 w3] at h
    exact h
  · obtain ⟨init, r, rfl⟩ : ∃ init r, rs = init ++ [r] := by
      rcases List.eq_nil_or_concat rs with h | ⟨init, r, h⟩
      · exact absurd h hne
      · exact ⟨init, r, by rw [← List.concat_eq_append]; exact h⟩
    refine ⟨_, _, _, _, g1 init r rfl (by decide), g2 init r rfl (by decide), by rw [List.length_append, List.length_cons]; rfl, by simp, fun H v f _ => ?_⟩
    have h := f r init rfl (by decide)
    unfold fwdE at h
    rw [tn_tb1 w0 w3, on_ab (x, y) w0 w3] at h
    exact h
section
variable {P : Program} {w : World} {K : PySem.W.Frag} {mg : Str → Option Value} {base : Heap}
theorem ok__law_right (T : Txt K w mg) : FnG P w K mg base 8 T.f__law_right T.fd__law_right ["_law_box_here", "_law_engine_here"] (spRight5 K) := by
  have GA : FnOk P w K mg base CX0 7 T.f__law_alike T.fd__law_alike ["_law_found", "_law_due"] (spAlike K 6) := ok__law_alike T 6
  refine okG T.F__law_right sc__law_right (fun vs H Q E h => ?_) (fun cdv A outer s H vs Q E hr free h => ?_)
  · obtain ⟨b, v, x, y, w, look, rs, rfl, _⟩ := h
    rfl
  · obtain ⟨b, v, x, y, w, look, rs, rfl, hb, hd, w0, w3, hk, hne, hl, hc, hx, hy, q⟩ := h
    have gd : (A.deeper (envOfC "_law_right" (defScope s__law_right) s.heap.objs.size T.f__law_right cdv)).guards = some [] := free
    obtain ⟨sh1, sh2, sh3⟩ := eng_show (look := look) hx hy (w := w) (by omega) (by omega) (fun r hr => by have := hc r hr; omega) (by omega : rs.length ≤ 900)
    have dep := dep_eng x y w look rs
    have l9 : rs.length ≤ 900 := by omega
    obtain ⟨av, rv, xv, rfl, hsv, hrv, hxv⟩ := eng_at hd
    refine ⟨_, (pss_cons (ps_set (i := 2) sc__law_right.nd rfl (.inl rfl) (pe_callB (call_reprD gd (hu65 hr)) (by rfl) T.m_repr (by decide +kernel) (pa_cons (pv 1) pa_nil)))
 (pss_cons (ps_set (i := 3) sc__law_right.nd rfl (.inl rfl) (pe_call (ok_gone_on T) (hr.mono (by decide)) (by rfl) T.g_gone_on T.F_gone_on.kp T.b_gone_on .nil pass0 (pa_cons (pv 1) pa_nil)))
 (pss_cons (ps_if (pt_not (pt_val (pe_call GA hr (by rfl) T.g__law_alike T.F__law_alike.kp T.b__law_alike .nil pass0 (pa_cons (pv 3) (pa_cons (pe_call (ok__law_gone T) (hr.mono (by decide)) (by rfl) T.g__law_gone T.F__law_gone.kp T.b__law_gone .nil pass0 (pa_cons (pv 1) pa_nil)) pa_nil)))))
 (pss_one (ps_ret pe_bl))
 pss_nil)
 (pss_cons (ps_if (pt_not (pt_val (pe_call GA hr (by rfl) T.g__law_alike T.F__law_alike.kp T.b__law_alike .nil pass0 (pa_cons (pe_call (ok_turned_by_hand T) (hr.mono (by decide)) (by rfl) T.g_turned_by_hand T.F_turned_by_hand.kp T.b_turned_by_hand .nil pass0 (pa_cons (pe_call (ok_gone_on T) (hr.mono (by decide)) (by rfl) T.g_gone_on T.F_gone_on.kp T.b_gone_on .nil pass0 (pa_cons (pe_call (ok_turned_by_hand T) (hr.mono (by decide)) (by rfl) T.g_turned_by_hand T.F_turned_by_hand.kp T.b_turned_by_hand .nil pass0 (pa_cons (pv 3) pa_nil)) pa_nil)) pa_nil)) (pa_cons (pv 1) pa_nil)))))
 (pss_one (ps_ret pe_bl))
 pss_nil)
 (pss_cons (ps_if (pt_not (pt_val (pe_call GA hr (by rfl) T.g__law_alike T.F__law_alike.kp T.b__law_alike .nil pass0 (pa_cons (pe_call (ok_turned_by_hand T) (hr.mono (by decide)) (by rfl) T.g_turned_by_hand T.F_turned_by_hand.kp T.b_turned_by_hand .nil pass0 (pa_cons (pv 1) pa_nil)) (pa_cons (pe_op op_catA (pe_slice sl_tupA (pv 1) po_none (po_some pe_int)) (pe_tup (pa_cons (pe_op op_sub pe_int (pe_ix ix_tup (pv 1) pe_int (fun _ _ => rfl))) (pa_cons (pe_ix ix_tup (pv 1) pe_int (fun _ _ => rfl)) pa_nil)))) pa_nil)))))
 (pss_one (ps_ret pe_bl))
 pss_nil)
 (pss_cons (ps_par3 (i := 4) (j := 5) (l := 6) (by rfl) sc__law_right.nd rfl rfl rfl (by decide) (by decide) (by decide) rfl rfl rfl (pa_cons (pe_call (ok__law_take T) (hr.mono (by decide)) (by rfl) T.g__law_take T.F__law_take.kp T.b__law_take .nil pass0 (pa_cons (pv 0) (pa_cons (pe_callB call_len_seq (by rfl) T.m_len (by decide +kernel) (pa_cons (pe_ix ix_tup (pv 1) pe_int (fun _ _ => rfl)) pa_nil)) pa_nil))) (pa_cons (pe_call (ok__law_take T) (hr.mono (by decide)) (by rfl) T.g__law_take T.F__law_take.kp T.b__law_take .nil pass0 (pa_cons (pv 0) (pa_cons pe_int pa_nil))) (pa_cons (pe_ix ix_tup (pv 1) pe_int (fun _ _ => rfl)) pa_nil))) (by rfl))
 (pss_cons (ps_set (i := 7) sc__law_right.nd rfl (.inl rfl) (pe_op op_catA (pe_slice sl_tupA (pv 1) po_none (po_some pe_int)) (pe_tup (pa_cons (pe_op op_catA (pe_op op_catA (pe_slice sl_tupA (pv 6) po_none (po_some (pv 4))) (pe_tup (pa_cons (pe_tup (pa_cons (pe_ix ix_tup (pe_ix ix_tup (pv 6) (pv 4) (fun _ _ => rfl)) pe_int (fun _ _ => rfl)) (pa_cons (pv 5) pa_nil))) pa_nil))) (pe_slice sl_tupA (pv 6) (po_some (pe_op op_add (pv 4) pe_int)) po_none)) pa_nil))))
 (pss_cons (ps_if (pt_not (pt_val (pe_call GA hr (by rfl) T.g__law_alike T.F__law_alike.kp T.b__law_alike .nil pass0 (pa_cons (pe_call (ok_painted T) (hr.mono (by decide)) (by rfl) T.g_painted T.F_painted.kp T.b_painted .nil pass0 (pa_cons (pv 1) (pa_cons (pv 4) (pa_cons (pv 5) pa_nil)))) (pa_cons (pv 7) pa_nil)))))
 (pss_one (ps_ret pe_bl))
 pss_nil)
 (pss_one (ps_ret (pe_cmpR op_eq (pe_callB (call_reprD gd (hu65 hr)) (by rfl) T.m_repr (by decide +kernel) (pa_cons (pv 1) pa_nil)) (pv 2) (nomark _)))))))))))), ?_⟩
    -- kept
    refine ⟨.ref av, rfl, av, _, rfl, hd.dp, sh1, sh2, by omega, sh3, ?_⟩
    -- gone on
    refine ⟨.ref av, rfl, .ref av, x, y, w, look, rs, rfl, hd, hne, l9, fun v1 H1 s1 f1 g1 => ?_⟩
    have hd1 := hd.up (tk_same s1)
    refine ⟨v1, rfl, .ref av, rfl, .ref av, x, y, w, look, rs, rfl, hd1, hne, l9, w0, w3, hk, fun v2 H2 s2 f2 g2 => ?_⟩
    obtain ⟨x', y', w', rs', hg1, hg2, ln', ne', inv⟩ := gone_both hk hne w0 w3 f1 g1 f2 g2
    refine ⟨v1, v2, _, rfl, hg1.up (tk_same s2), hg2, ok_eng _ _ _ _ _ (by omega), Nat.le_trans (dep_eng _ _ _ _ _) (by decide), fun H3 s3 => ⟨true, rfl, iteF ?_⟩⟩
    have s13 := (s1.trans s2).trans s3
    -- there and back
    refine ⟨v1, rfl, v1, x', y', w', look, rs', rfl, hg1.up (tk_same (s2.trans s3)), fun v4 H4 s4 d4 => ?_⟩
    refine ⟨v4, x', y', w', -look, rs', rfl, d4, ne', by omega, fun v5 H5 s5 f5 g5 => ?_⟩
    refine ⟨v5, x, y, w, -look, rs, rfl, inv H5 v5 f5 g5, fun v6 H6 s6 d6 => ?_⟩
    rw [Int.neg_neg] at d6
    have s16 := s13.trans ((s4.trans s5).trans s6)
    refine ⟨.ref av, rfl, v6, .ref av, _, rfl, d6, hd.up (tk_same s16), ok_eng _ _ _ _ _ (by omega), Nat.le_trans (dep_eng _ _ _ _ _) (by decide), fun H7 s7 => ⟨true, rfl, iteF ?_⟩⟩
    have s17 := s16.trans s7
    -- turned by hand
    refine ⟨.ref av, rfl, .ref av, x, y, w, look, rs, rfl, hd.up (tk_same s17), fun v8 H8 s8 d8 => ?_⟩
    have s18 := s17.trans s8
    have hd8 : DT K H8 (.ref av) (.tuple [.int x, .int y, .int w, .int look, .tuple (rs.map rail)]) := hd.up (tk_same s18)
    refine ⟨.ref av, rfl, 3, rfl, r_slA hd8 fun v9 H9 s9 d9 => ?_⟩
    rw [eng_cut] at d9
    have s19 := s18.trans s9
    refine ⟨.ref av, rfl, av, _, 3, .int look, rfl, rfl, tk_seq (tk_same s19) hsv, rfl, 0, look, rfl, rfl, .ref av, rfl, av, _, 4, .ref rv, rfl, rfl, tk_seq (tk_same s19) hsv, rfl, by show 2 ≤ sizeLine; decide, fun t nt => ?_⟩
    have drv : DT K H (.ref rv) (.tuple (rs.map rail)) := .tup hrv hxv
    have dt : DT K (upd H9 t (.tup [.int (0 - look), .ref rv])) (.ref t) (.tuple [.int (0 - look), .tuple (rs.map rail)]) := DT.new (.cons (.int _) (.cons (drv.up (tk_same s19)) .nil)) nt
    refine r_catA (d9.up (tk_new nt)) dt (by show 3 + 2 ≤ 1000; decide) fun v10 H10 s10 d10 => ?_
    have s20 := (s19.trans (same_new (o := HO.tup [.int (0 - look), .ref rv]) nt)).trans s10
    have d10' : DT K H10 v10 (eng x y w (-look) rs) := by
      rw [← Int.zero_sub]
      exact d10
    refine ⟨v8, v10, _, rfl, d8.up (tk_same ((s9.trans (same_new (o := HO.tup [.int (0 - look), .ref rv]) nt)).trans s10)), d10', ok_eng _ _ _ _ _ (by omega), Nat.le_trans (dep_eng _ _ _ _ _) (by decide), fun H11 s11 => ⟨true, rfl, iteF ?_⟩⟩
    have s21 := s20.trans s11
    -- painted
    have hb11 := hb.same s21
    have lv : xv.length = rs.length := by rw [hxv.length, List.length_map]
    have hn0 : 0 < rs.length := List.length_pos_iff.mpr hne
    refine ⟨.ref b, rfl, .ref av, rfl, av, _, 4, .ref rv, rfl, rfl, tk_seq (tk_same s21) hsv, rfl, rv, xv, rfl, .inr (tk_seq (tk_same s21) hrv), b, _, rfl, hb11, by omega, by omega, fun r1 H12 a1 a2 e12 hb12 => ?_⟩
    refine ⟨.ref b, rfl, b, 10, rfl, hb12, by decide, by decide, fun r2 H13 a3 a4 e13 hb13 => ?_⟩
    have up13 : ∀ {v : V} {d : PyData}, DT K H v d → DT K H13 v d := fun h => e13.up hb12 (e12.up hb11 (h.up (tk_same s21)))
    obtain ⟨avx, rvx, xvx, evx, hsvx, hrvx, hxvx⟩ := eng_at (up13 hd)
    cases evx
    refine ⟨.ref av, rfl, av, _, 4, .ref rvx, rfl, rfl, hsvx, rfl, _, _, _, rfl, ?_⟩
    obtain ⟨l1, r, l2, ers, el1⟩ := split_at (l := rs) (i := r1.toNat) (by omega)
    have er1 : r1 = (l1.length : Int) := by omega
    subst er1
    have lens : l1.length + l2.length + 1 = rs.length := by
      rw [ers, List.length_append, List.length_cons]
      omega
    have dr13 : DT K H13 (.ref rvx) (.tuple (l1.map rail ++ rail r :: l2.map rail)) := by
      have h : DT K H13 (.ref rvx) (.tuple (rs.map rail)) := .tup hrvx hxvx
      rw [ers, List.map_append, List.map_cons] at h
      exact h
    have hd13 : DT K H13 (.ref av) (.tuple [.int x, .int y, .int w, .int look, .tuple (rs.map rail)]) := up13 hd
    refine ⟨.ref av, rfl, 4, rfl, r_slA hd13 fun v14 H14 s14 d14 => ?_⟩
    rw [show OR.cutD [.int x, .int y, .int w, .int look, .tuple (rs.map rail)] none (some 4) = [.int x, .int y, .int w, .int look] from rfl] at d14
    refine ⟨.ref rvx, rfl, .int (l1.length : Int), rfl, (l1.length : Int), rfl, r_slA (dr13.up (tk_same s14)) fun v15 H15 s15 d15 => ?_⟩
    have c1 := cut_to (l1.map rail) (rail r :: l2.map rail)
    rw [List.length_map] at c1
    rw [c1] at d15
    have s1315 := s14.trans s15
    obtain ⟨rvy, xvy, evy, hrvy, hxvy⟩ := (dr13.up (tk_same s1315)).tupOf
    cases evy
    obtain ⟨v0, hv0, d0⟩ := hxvy.get (i := l1.length) (d := rail r) (by rw [List.getElem?_append_right (by rw [List.length_map]; exact Nat.le_refl _), List.length_map, Nat.sub_self]; rfl)
    obtain ⟨a0, rfl, h0⟩ := rail_at d0
    refine ⟨.ref rvx, rfl, .int (l1.length : Int), rfl, rvx, xvy, _, .ref a0, rfl, rfl, hrvy, atI_nat hv0, a0, _, 0, .str r.1.str, rfl, rfl, h0, rfl, .int r2, rfl, by show 2 ≤ sizeLine; decide, fun t16 n16 => ⟨by show 1 ≤ sizeLine; decide, fun t17 n17 => ?_⟩⟩
    have dt17 : DT K (upd (upd H15 t16 (.tup [.str r.1.str, .int r2])) t17 (.tup [.ref t16])) (.ref t17) (.tuple [rail (r.1, r2)]) := DT.new (.cons (DT.new (.cons (.str _) (.cons (.int r2) .nil)) n16) .nil) n17
    have s17b := (same_new (o := HO.tup [.str r.1.str, .int r2]) n16).trans (same_new (o := HO.tup [.ref t16]) n17)
    refine r_catA (d15.up (tk_same s17b)) dt17 (by rw [List.length_map]; show l1.length + 1 ≤ 1000; omega) fun v18 H18 s18b d18 => ?_
    have s1318 := (s1315.trans s17b).trans s18b
    refine ⟨.ref rvx, rfl, .int (l1.length : Int), rfl, (l1.length : Int), 1, rfl, rfl, _, rfl, r_np (r_slA (dr13.up (tk_same s1318)) fun v19 H19 s19b d19 => ?_)⟩
    have c2 := cut_from (l1.map rail) (l2.map rail) (rail r)
    rw [List.length_map] at c2
    rw [c2] at d19
    refine r_catA (d18.up (tk_same s19b)) d19 (by rw [List.length_append, List.length_map, List.length_map]; show l1.length + 1 + l2.length ≤ 1000; omega) fun v20 H20 s20b d20 => ⟨by show 1 ≤ sizeLine; decide, fun t21 n21 => ?_⟩
    have d20' : DT K H20 v20 (.tuple ((l1 ++ (r.1, r2) :: l2).map rail)) := by
      rw [List.map_append, List.map_cons]
      rw [List.append_assoc] at d20
      exact d20
    have dt21 : DT K (upd H20 t21 (.tup [v20])) (.ref t21) (.tuple [.tuple ((l1 ++ (r.1, r2) :: l2).map rail)]) := DT.new (.cons d20' .nil) n21
    have s1421 := ((s15.trans s17b).trans s18b).trans ((s19b.trans s20b).trans (same_new (o := HO.tup [v20]) n21))
    refine r_catA (d14.up (tk_same s1421)) dt21 (by show 4 + 1 ≤ 1000; decide) fun v22 H22 s22 d22 => ?_
    have d22' : DT K H22 v22 (eng x y w look (l1 ++ (r.1, r2) :: l2)) := d22
    have s1322 := (s14.trans s1421).trans s22
    have hdl : DT K H22 (.ref av) (eng x y w look (l1 ++ r :: l2)) := by
      have h := hd13.up (tk_same s1322)
      rw [ers] at h
      exact h
    refine ⟨.ref av, rfl, .int (l1.length : Int), rfl, .int r2, rfl, .ref av, x, y, w, look, r2, l1, l2, r, rfl, hdl, by omega, fun v23 H23 s23 d23 => ?_⟩
    refine ⟨v22, rfl, v23, v22, _, rfl, d23, d22'.up (tk_same s23), ok_eng _ _ _ _ _ (by rw [List.length_append, List.length_cons]; omega), Nat.le_trans (dep_eng _ _ _ _ _) (by decide), fun H24 s24 => ⟨true, rfl, iteF ?_⟩⟩
    have sE := s1322.trans (s23.trans s24)
    have hdE : DT K H24 (.ref av) (eng x y w look rs) := hd13.up (tk_same sE)
    refine ⟨.ref av, rfl, av, _, rfl, hdE.dp, sh1, sh2, by omega, sh3, .str (eng x y w look rs).shown, rfl, rfl, ?_⟩
    rw [decide_eq_true rfl]
    exact q _ ((((but_same s21).trans e12).trans e13).trans (but_same sE)) (hb13.same sE)
theorem ok_law (T : Txt K w mg) {f : Addr} {fd : FuncData} (F : Fun K "law" "law" s_law f fd) : FnG P w K mg base 9 f fd ["_law_script"] (spLaw K) := by
  refine okG F sc_law (fun vs H Q E h => ?_) (fun cdv A outer s H vs Q E hr free h => ?_)
  · obtain ⟨a, ns, rfl, _⟩ := h
    rfl
  · obtain ⟨a, ns, rfl, hS, hlen, q⟩ := h
    have gd : (A.deeper (envOfC "law" (defScope s_law) s.heap.objs.size f cdv)).guards = some [] := free
    refine ⟨_, (pss_cons (ps_for PassesOwn.never rfl (pi_range1 (by rfl) T.m_range (pa_cons (pe_callB (call_max2 rfl) (by rfl) T.m_max (by decide +kernel) (pa_cons pe_int (pa_cons (pe_callB (call_min2 rfl) (by rfl) T.m_min (by decide +kernel) (pa_cons pe_int (pa_cons (pe_callB call_len_seq (by rfl) T.m_len (by decide +kernel) (pa_cons (pv 0) pa_nil)) pa_nil))) pa_nil))) pa_nil)) (pg_name (i := 1) sc_law.nd rfl (.inl rfl))
 (pss_cons (ps_set (i := 2) sc_law.nd rfl (.inl rfl) (pe_call (ok__law_box T) (hr.mono (by decide)) (by rfl) T.g__law_box T.F__law_box.kp T.b__law_box .nil pass0 (pa_cons (pv 0) (pa_cons (pv 1) pa_nil))))
 (pss_cons (ps_set (i := 3) sc_law.nd rfl (.inl rfl) (pe_call (ok__law_engine T) (hr.mono (by decide)) (by rfl) T.g__law_engine T.F__law_engine.kp T.b__law_engine .nil pass0 (pa_cons (pv 2) (pa_cons pe_int (pa_cons (pe_ix ix_list (pe_lst (pa_cons pe_int (pa_cons pe_int pa_nil))) (pe_call (ok__law_take T) (hr.mono (by decide)) (by rfl) T.g__law_take T.F__law_take.kp T.b__law_take .nil pass0 (pa_cons (pv 2) (pa_cons pe_int pa_nil))) (fun _ _ => rfl)) pa_nil)))))
 (pss_one (ps_for PassesOwn.never rfl (pi_tup (pe_tup (pa_cons (pv 3) (pa_cons (pe_op op_catA (pe_slice sl_tupA (pv 3) po_none (po_some pe_int)) (pe_tup (pa_cons (pe_op op_sub pe_int (pe_ix ix_tup (pv 3) pe_int (fun _ _ => rfl))) (pa_cons (pe_ix ix_tup (pv 3) pe_int (fun _ _ => rfl)) pa_nil)))) pa_nil)))) (pg_name (i := 4) sc_law.nd rfl (.inl rfl))
 (pss_one (ps_if (pt_not (pt_val (pe_callG (ok__law_right T) (hr.mono (by decide)) gd (by rfl) T.g__law_right T.F__law_right.kp T.b__law_right pass0 (pa_cons (pv 2) (pa_cons (pv 4) pa_nil)))))
 (pss_one (ps_ret pe_bl))
 pss_nil)))))))
 (pss_one (ps_ret pe_bl))), ?_⟩
    have hr0 := lawRange (n := (ns.map V.int).length) 8 (by decide) (by decide)
    refine ⟨.ref a, rfl, a, _, rfl, .inl hS, 8, _, rfl, 2, _, rfl, _, rfl, by omega, by omega, for_range (lo := 0) (fun i σ H' => ∃ y1 y2 y3 y4, σ = [some (.ref a), y1, y2, y3, y4] ∧ SqL K H' a (ns.map V.int)) ⟨none, none, none, none, rfl, hS⟩ (fun i σ H' hi hP => ?_) (fun σ H' hP => q H')⟩
    obtain ⟨y1, y2, y3, y4, rfl, hS'⟩ := hP
    refine ⟨.ref a, rfl, .int (0 + (i : Int)), rfl, a, ns, _, rfl, hS', by omega, by omega, fun b H1 nb s1 hb1 => ?_⟩
    have keep := script_keep hS' nb
    have hS1 := s1.seq hS'
    refine ⟨.ref b, rfl, by show 2 ≤ sizeLine; decide, fun pl npl => ?_⟩
    have hb2 := hb1.same (same_new (o := HO.lst [.int 6, .int 1000000000]) npl)
    refine ⟨.ref b, rfl, b, 2, rfl, hb2, by decide, by decide, fun r1 H2 a1 a2 e2 hb3 => ?_⟩
    have npb : pl ≠ b := fun z => by
      obtain ⟨i1, i2, i3, h0⟩ := hb1
      rw [z, h0] at npl
      cases npl
    have hpl : H2 pl = some (.lst [.int 6, .int 1000000000]) := e2 _ _ npb upd_same
    have hz : ∃ z : Int, atI [V.int 6, V.int 1000000000] r1 = some (.int z) ∧ 0 ≤ z ∧ z ≤ 1000000000 := by
      have h : r1 = 0 ∨ r1 = 1 := by omega
      rcases h with rfl | rfl
      · exact ⟨6, rfl, by decide, by decide⟩
      · exact ⟨1000000000, rfl, by decide, by decide⟩
    obtain ⟨z, hz, z0, z9⟩ := hz
    refine ⟨pl, _, r1, .int z, rfl, rfl, SqL.of hpl, hz, ?_⟩
    refine ⟨b, 12, z, rfl, hb3, by decide, by decide, z0, z9, fun v H3 x y w look rs D x0 x1 y0 y1 _ e3 hb4 hd => ?_⟩
    have hS3 : SqL K H3 a (ns.map V.int) := keep _ _ e3 (keep _ _ e2 ((same_new (o := HO.lst [.int 6, .int 1000000000]) npl).seq hS1))
    obtain ⟨av, rv, xv, rfl, hsv, hrv, hxv⟩ := eng_at hd
    have hd' : DT K H3 (.ref av) (.tuple [.int x, .int y, .int w, .int look, .tuple (rs.map rail)]) := hd
    have drv : DT K H3 (.ref rv) (.tuple (rs.map rail)) := .tup hrv hxv
    refine ⟨.ref av, rfl, .ref av, rfl, 3, rfl, r_slA hd' fun v9 H9 s9 d9 => ?_⟩
    rw [eng_cut] at d9
    refine ⟨.ref av, rfl, av, _, 3, .int look, rfl, rfl, tk_seq (tk_same s9) hsv, rfl, 0, look, rfl, rfl, .ref av, rfl, av, _, 4, .ref rv, rfl, rfl, tk_seq (tk_same s9) hsv, rfl, by show 2 ≤ sizeLine; decide, fun t nt => ?_⟩
    have dt : DT K (upd H9 t (.tup [.int (0 - look), .ref rv])) (.ref t) (.tuple [.int (0 - look), .tuple (rs.map rail)]) := DT.new (.cons (.int _) (.cons (drv.up (tk_same s9)) .nil)) nt
    refine r_catA (d9.up (tk_new nt)) dt (by show 3 + 2 ≤ 1000; decide) fun v10 H10 s10 d10 => ?_
    have s310 := (s9.trans (same_new (o := HO.tup [.int (0 - look), .ref rv]) nt)).trans s10
    have d10' : DT K H10 v10 (eng x y w (0 - look) rs) := d10
    refine ⟨by show 2 ≤ sizeLine; decide, fun t3 nt3 => ⟨t3, rfl, ⟨_, SqT.of upd_same⟩, for_tup (xs := [.ref av, v10]) (fun j σ H' => ∃ y4, σ = [some (.ref a), some (.int (0 + (i : Int))), some (.ref b), some (.ref av), y4] ∧ SqL K H' a (ns.map V.int) ∧ Box H' b ∧ Tk (upd H10 t3 (.tup [.ref av, v10])) H') ?_ (fun j σ H' _ hP => ?_) (fun j one σ H' hone hP => ?_) (fun σ H' hP => ?_)⟩⟩
    · exact ⟨_, rfl, (s310.trans (same_new nt3)).seq hS3, hb4.same (s310.trans (same_new nt3)), Tk.refl _⟩
    · obtain ⟨y4, rfl, _, _, tk⟩ := hP
      exact tk_seq tk (SqT.of upd_same)
    · obtain ⟨y4, rfl, hS4, hb5, tk⟩ := hP
      have tk5 : Tk H10 H' := (tk_new nt3).trans tk
      have hone' : ∃ l, DT K H' one (eng x y w l rs) ∧ (l = 1 ∨ l = -1) := by
        have hk := D.lk
        rcases j with _ | _ | j
        · cases hone
          exact ⟨look, (hd.up (tk_same s310)).up tk5, hk⟩
        · cases hone
          exact ⟨0 - look, d10'.up tk5, by omega⟩
        · simp at hone
      obtain ⟨l, ho, hl1⟩ := hone'
      refine ⟨.ref b, rfl, one, rfl, b, one, x, y, w, l, rs, rfl, hb5, ho, D.w0, D.w3, hl1, D.ne, D.ln, D.col, by omega, by omega, fun H6 e6 hb6 => ⟨true, rfl, iteF ?_⟩⟩
      obtain ⟨i1, i2, i3, h0⟩ := hb5
      exact ⟨_, rfl, keep _ _ e6 hS4, hb6, tk.trans (tk_but h0 e6)⟩
    · obtain ⟨y4, rfl, hS4, hb5, tk⟩ := hP
      exact ⟨_, _, _, _, rfl, hS4⟩
end
theorem all_mk {l : PySem.W.OpenLaw} {w : World} {K : PySem.W.Frag} {h : Heap} {mg : Str → Option Value} {fa : Addr} (X : K.In h) (G : h.Ns mainGlobals mg) (hfa : mg "law" = some (.ref fa))
    {od0 an0 : Option Addr} {sl0 : Array (Option Value)} {oc0 kV0 dc0 pm0 cd0 ct0 : Value} {f0 : Addr}
    {od1 an1 : Option Addr} {sl1 : Array (Option Value)} {oc1 kV1 dc1 pm1 cd1 ct1 : Value} {f1 : Addr}
    {od2 an2 : Option Addr} {sl2 : Array (Option Value)} {oc2 kV2 dc2 pm2 cd2 ct2 : Value} {f2 : Addr}
    {od4 an4 : Option Addr} {sl4 : Array (Option Value)} {oc4 kV4 dc4 pm4 cd4 ct4 : Value} {f4 : Addr}
    {od5 an5 : Option Addr} {sl5 : Array (Option Value)} {oc5 kV5 dc5 pm5 cd5 ct5 : Value} {f5 : Addr}
    {od6 an6 : Option Addr} {sl6 : Array (Option Value)} {oc6 kV6 dc6 pm6 cd6 ct6 : Value} {f6 : Addr}
    {od7 an7 : Option Addr} {sl7 : Array (Option Value)} {oc7 kV7 dc7 pm7 cd7 ct7 : Value} {f7 : Addr}
    {od8 an8 : Option Addr} {sl8 : Array (Option Value)} {oc8 kV8 dc8 pm8 cd8 ct8 : Value} {f8 : Addr}
    {od9 an9 : Option Addr} {sl9 : Array (Option Value)} {oc9 kV9 dc9 pm9 cd9 ct9 : Value} {f9 : Addr}
    {od10 an10 : Option Addr} {sl10 : Array (Option Value)} {oc10 kV10 dc10 pm10 cd10 ct10 : Value} {f10 : Addr}
    {od11 an11 : Option Addr} {sl11 : Array (Option Value)} {oc11 kV11 dc11 pm11 cd11 ct11 : Value} {f11 : Addr}
    {od12 an12 : Option Addr} {sl12 : Array (Option Value)} {oc12 kV12 dc12 pm12 cd12 ct12 : Value} {f12 : Addr}
    {od13 an13 : Option Addr} {sl13 : Array (Option Value)} {oc13 kV13 dc13 pm13 cd13 ct13 : Value} {f13 : Addr}
    {od14 an14 : Option Addr} {sl14 : Array (Option Value)} {oc14 kV14 dc14 pm14 cd14 ct14 : Value} {f14 : Addr}
    {od15 an15 : Option Addr} {sl15 : Array (Option Value)} {oc15 kV15 dc15 pm15 cd15 ct15 : Value} {f15 : Addr}
    {od16 an16 : Option Addr} {sl16 : Array (Option Value)} {oc16 kV16 dc16 pm16 cd16 ct16 : Value} {f16 : Addr}
    {od17 an17 : Option Addr} {sl17 : Array (Option Value)} {oc17 kV17 dc17 pm17 cd17 ct17 : Value} {f17 : Addr}
    {tA : Addr} {tes : Array DictEntry} {tnn : Nat} {tt1 tt2 tt3 : Tok}
    {sA sB0 sB1 sB2 sB3 : Addr} {sd sd0 sd1 sd2 sd3 : Option Addr} {sn sn0 sn1 sn2 sn3 : Nat} {ss ss0 ss1 ss2 ss3 : Array (Option Value)} {su0 su1 su2 su3 sv0 sv1 sv2 sv3 : Tok}
    {oF oD : Addr} {ooc odc opm ocd oct : Value} {ood oan : Option Addr} {osl : Array (Option Value)} {otk : Tok}
    (a0 : PySem.W.nsIn K mainGlobals "way_on" = some (some (.ref f0)))
    (l0 : K.lookup f0 = some ⟨oc0, od0, .func (PySem.W.fnOf "way_on" "way_on" (defArgs s_way_on) (defBody s_way_on) (defScope s_way_on) .none kV0 dc0 pm0 an0 cd0 ct0), sl0⟩)
    (c0 : PySem.W.codeIn K cd0 "way_on" = true)
    (k0 : PySem.W.keepIn K (.ref f0) = true)
    (a1 : PySem.W.nsIn K mainGlobals "way_behind" = some (some (.ref f1)))
    (l1 : K.lookup f1 = some ⟨oc1, od1, .func (PySem.W.fnOf "way_behind" "way_behind" (defArgs s_way_behind) (defBody s_way_behind) (defScope s_way_behind) .none kV1 dc1 pm1 an1 cd1 ct1), sl1⟩)
    (c1 : PySem.W.codeIn K cd1 "way_behind" = true)
    (k1 : PySem.W.keepIn K (.ref f1) = true)
    (a2 : PySem.W.nsIn K mainGlobals "way_about" = some (some (.ref f2)))
    (l2 : K.lookup f2 = some ⟨oc2, od2, .func (PySem.W.fnOf "way_about" "way_about" (defArgs s_way_about) (defBody s_way_about) (defScope s_way_about) .none kV2 dc2 pm2 an2 cd2 ct2), sl2⟩)
    (c2 : PySem.W.codeIn K cd2 "way_about" = true)
    (k2 : PySem.W.keepIn K (.ref f2) = true)
    (a4 : PySem.W.nsIn K mainGlobals "gone_on" = some (some (.ref f4)))
    (l4 : K.lookup f4 = some ⟨oc4, od4, .func (PySem.W.fnOf "gone_on" "gone_on" (defArgs s_gone_on) (defBody s_gone_on) (defScope s_gone_on) .none kV4 dc4 pm4 an4 cd4 ct4), sl4⟩)
    (c4 : PySem.W.codeIn K cd4 "gone_on" = true)
    (k4 : PySem.W.keepIn K (.ref f4) = true)
    (a5 : PySem.W.nsIn K mainGlobals "gone_forward" = some (some (.ref f5)))
    (l5 : K.lookup f5 = some ⟨oc5, od5, .func (PySem.W.fnOf "gone_forward" "gone_forward" (defArgs s_gone_forward) (defBody s_gone_forward) (defScope s_gone_forward) .none kV5 dc5 pm5 an5 cd5 ct5), sl5⟩)
    (c5 : PySem.W.codeIn K cd5 "gone_forward" = true)
    (k5 : PySem.W.keepIn K (.ref f5) = true)
    (a6 : PySem.W.nsIn K mainGlobals "gone_back" = some (some (.ref f6)))
    (l6 : K.lookup f6 = some ⟨oc6, od6, .func (PySem.W.fnOf "gone_back" "gone_back" (defArgs s_gone_back) (defBody s_gone_back) (defScope s_gone_back) .none kV6 dc6 pm6 an6 cd6 ct6), sl6⟩)
    (c6 : PySem.W.codeIn K cd6 "gone_back" = true)
    (k6 : PySem.W.keepIn K (.ref f6) = true)
    (a7 : PySem.W.nsIn K mainGlobals "turned_by_hand" = some (some (.ref f7)))
    (l7 : K.lookup f7 = some ⟨oc7, od7, .func (PySem.W.fnOf "turned_by_hand" "turned_by_hand" (defArgs s_turned_by_hand) (defBody s_turned_by_hand) (defScope s_turned_by_hand) .none kV7 dc7 pm7 an7 cd7 ct7), sl7⟩)
    (c7 : PySem.W.codeIn K cd7 "turned_by_hand" = true)
    (k7 : PySem.W.keepIn K (.ref f7) = true)
    (a8 : PySem.W.nsIn K mainGlobals "painted" = some (some (.ref f8)))
    (l8 : K.lookup f8 = some ⟨oc8, od8, .func (PySem.W.fnOf "painted" "painted" (defArgs s_painted) (defBody s_painted) (defScope s_painted) .none kV8 dc8 pm8 an8 cd8 ct8), sl8⟩)
    (c8 : PySem.W.codeIn K cd8 "painted" = true)
    (k8 : PySem.W.keepIn K (.ref f8) = true)
    (a9 : PySem.W.nsIn K mainGlobals "_law_box" = some (some (.ref f9)))
    (l9 : K.lookup f9 = some ⟨oc9, od9, .func (PySem.W.fnOf "_law_box" "_law_box" (defArgs s__law_box) (defBody s__law_box) (defScope s__law_box) .none kV9 dc9 pm9 an9 cd9 ct9), sl9⟩)
    (c9 : PySem.W.codeIn K cd9 "_law_box" = true)
    (k9 : PySem.W.keepIn K (.ref f9) = true)
    (a10 : PySem.W.nsIn K mainGlobals "_law_take" = some (some (.ref f10)))
    (l10 : K.lookup f10 = some ⟨oc10, od10, .func (PySem.W.fnOf "_law_take" "_law_take" (defArgs s__law_take) (defBody s__law_take) (defScope s__law_take) .none kV10 dc10 pm10 an10 cd10 ct10), sl10⟩)
    (c10 : PySem.W.codeIn K cd10 "_law_take" = true)
    (k10 : PySem.W.keepIn K (.ref f10) = true)
    (a11 : PySem.W.nsIn K mainGlobals "_law_turned" = some (some (.ref f11)))
    (l11 : K.lookup f11 = some ⟨oc11, od11, .func (PySem.W.fnOf "_law_turned" "_law_turned" (defArgs s__law_turned) (defBody s__law_turned) (defScope s__law_turned) .none kV11 dc11 pm11 an11 cd11 ct11), sl11⟩)
    (c11 : PySem.W.codeIn K cd11 "_law_turned" = true)
    (k11 : PySem.W.keepIn K (.ref f11) = true)
    (a12 : PySem.W.nsIn K mainGlobals "_law_on" = some (some (.ref f12)))
    (l12 : K.lookup f12 = some ⟨oc12, od12, .func (PySem.W.fnOf "_law_on" "_law_on" (defArgs s__law_on) (defBody s__law_on) (defScope s__law_on) .none kV12 dc12 pm12 an12 cd12 ct12), sl12⟩)
    (c12 : PySem.W.codeIn K cd12 "_law_on" = true)
    (k12 : PySem.W.keepIn K (.ref f12) = true)
    (a13 : PySem.W.nsIn K mainGlobals "_law_engine" = some (some (.ref f13)))
    (l13 : K.lookup f13 = some ⟨oc13, od13, .func (PySem.W.fnOf "_law_engine" "_law_engine" (defArgs s__law_engine) (defBody s__law_engine) (defScope s__law_engine) .none kV13 dc13 pm13 an13 cd13 ct13), sl13⟩)
    (c13 : PySem.W.codeIn K cd13 "_law_engine" = true)
    (k13 : PySem.W.keepIn K (.ref f13) = true)
    (a14 : PySem.W.nsIn K mainGlobals "_law_alike" = some (some (.ref f14)))
    (l14 : K.lookup f14 = some ⟨oc14, od14, .func (PySem.W.fnOf "_law_alike" "_law_alike" (defArgs s__law_alike) (defBody s__law_alike) (defScope s__law_alike) .none kV14 dc14 pm14 an14 cd14 ct14), sl14⟩)
    (c14 : PySem.W.codeIn K cd14 "_law_alike" = true)
    (k14 : PySem.W.keepIn K (.ref f14) = true)
    (a15 : PySem.W.nsIn K mainGlobals "_law_gone" = some (some (.ref f15)))
    (l15 : K.lookup f15 = some ⟨oc15, od15, .func (PySem.W.fnOf "_law_gone" "_law_gone" (defArgs s__law_gone) (defBody s__law_gone) (defScope s__law_gone) .none kV15 dc15 pm15 an15 cd15 ct15), sl15⟩)
    (c15 : PySem.W.codeIn K cd15 "_law_gone" = true)
    (k15 : PySem.W.keepIn K (.ref f15) = true)
    (a16 : PySem.W.nsIn K mainGlobals "_law_right" = some (some (.ref f16)))
    (l16 : K.lookup f16 = some ⟨oc16, od16, .func (PySem.W.fnOf "_law_right" "_law_right" (defArgs s__law_right) (defBody s__law_right) (defScope s__law_right) .none kV16 dc16 pm16 an16 cd16 ct16), sl16⟩)
    (c16 : PySem.W.codeIn K cd16 "_law_right" = true)
    (k16 : PySem.W.keepIn K (.ref f16) = true)
    (a17 : PySem.W.nsIn K mainGlobals "law" = some (some (.ref f17)))
    (l17 : K.lookup f17 = some ⟨oc17, od17, .func (PySem.W.fnOf "law" "law" (defArgs s_law) (defBody s_law) (defScope s_law) .none kV17 dc17 pm17 an17 cd17 ct17), sl17⟩)
    (c17 : PySem.W.codeIn K cd17 "law" = true)
    (k17 : PySem.W.keepIn K (.ref f17) = true)
    (z0 : PySem.W.nsIn K mainGlobals "all" = some none)
    (z1 : PySem.W.nsIn K mainGlobals "bool" = some none)
    (z2 : PySem.W.nsIn K mainGlobals "dict" = some none)
    (z3 : PySem.W.nsIn K mainGlobals "int" = some none)
    (z4 : PySem.W.nsIn K mainGlobals "isinstance" = some none)
    (z5 : PySem.W.nsIn K mainGlobals "len" = some none)
    (z6 : PySem.W.nsIn K mainGlobals "list" = some none)
    (z7 : PySem.W.nsIn K mainGlobals "max" = some none)
    (z8 : PySem.W.nsIn K mainGlobals "min" = some none)
    (z9 : PySem.W.nsIn K mainGlobals "range" = some none)
    (z10 : PySem.W.nsIn K mainGlobals "repr" = some none)
    (z11 : PySem.W.nsIn K mainGlobals "str" = some none)
    (z12 : PySem.W.nsIn K mainGlobals "tuple" = some none)
    (z13 : PySem.W.nsIn K mainGlobals "zip" = some none)
    (ta : PySem.W.nsIn K mainGlobals "TURNS" = some (some (.ref tA)))
    (tl : K.lookup tA = some ⟨.type "dict", none, .dict tes tnn, #[]⟩)
    (tk : PySem.W.KeysLit w.params tes.toList)
    (t1 : PySem.W.nsIn K tA "l" = some (some (.int (-1) tt1)))
    (t2 : PySem.W.nsIn K tA "s" = some (some (.int 0 tt2)))
    (t3 : PySem.W.nsIn K tA "r" = some (some (.int 1 tt3)))
    (sa : PySem.W.nsIn K mainGlobals "STEPS" = some (some (.ref sA)))
    (sl : K.lookup sA = some ⟨.type "tuple", sd, .seq #[.ref sB0, .ref sB1, .ref sB2, .ref sB3] sn, ss⟩)
    (s0 : K.lookup sB0 = some ⟨.type "tuple", sd0, .seq #[.int (0) su0, .int (1) sv0] sn0, ss0⟩)
    (s1 : K.lookup sB1 = some ⟨.type "tuple", sd1, .seq #[.int (1) su1, .int (0) sv1] sn1, ss1⟩)
    (s2 : K.lookup sB2 = some ⟨.type "tuple", sd2, .seq #[.int (0) su2, .int (-1) sv2] sn2, ss2⟩)
    (s3 : K.lookup sB3 = some ⟨.type "tuple", sd3, .seq #[.int (-1) su3, .int (0) sv3] sn3, ss3⟩)
    (oa : PySem.W.nsIn K mainGlobals "onward" = some (some (.ref oF)))
    (ol : K.lookup oF = some ⟨ooc, ood, .func (PySem.W.fnOf "onward" "onward" (defArgs s_onward) (defBody s_onward) (defScope s_onward) .none (.ref oD) odc opm oan ocd oct), osl⟩)
    (oc : PySem.W.codeIn K ocd "onward" = true)
    (ok : PySem.W.keepIn K (.ref oF) = true)
    (od : PySem.W.nsIn K oD "steps" = some (some (.int 1 otk)))
    : ∃ fd : FuncData, (∀ (s : Shared) (v : Value), BindsTo s fd ⟨[v], []⟩ [("_law_script", v)]) ∧ ∀ base : Heap, FnG l.prog w K mg base 9 fa fd ["_law_script"] (spLaw K) := by
  have e := hfa.symm.trans (PySem.W.mg_of X G a17)
  cases e
  have FO : FunD K "onward" "onward" (defArgs s_onward) (defBody s_onward) (defScope s_onward) [] [("steps", .int 1)] oF (PySem.W.fnOf "onward" "onward" (defArgs s_onward) (defBody s_onward) (defScope s_onward) .none (.ref oD) odc opm oan ocd oct) :=
    ⟨⟨_, _, _, _, _, _, _, _, _, _, rfl, ol, oc, .inl ⟨rfl, rfl⟩, .inr ⟨oD, rfl, fun q hq => by
      cases List.mem_singleton.mp hq
      exact ⟨_, od, ⟨_, rfl⟩⟩⟩⟩, ok⟩
  obtain ⟨ods, ovs, obs⟩ := FO.binds0 (ps := ["square", "way", "steps"]) 2 (by simp) rfl (fun D doc pm an cdv ct us ks h1 h2 => match us, ks, h1, h2 with
    | [_, _], [_], _, _ => ⟨_, _, _, _, _, _, rfl, rfl, rfl⟩)

  have T : Txt K w mg := { f_way_on := f0, fd_way_on := _, F_way_on := fun_mk (st := s_way_on) l0 c0 k0, b_way_on := (fun_mk (st := s_way_on) l0 c0 k0).binds (ps := ["way", "shape"]) (fun _ _ _ _ _ _ us hl => match us, hl with | [_, _], _ => rfl), g_way_on := PySem.W.mg_of X G a0, f_way_behind := f1, fd_way_behind := _, F_way_behind := fun_mk (st := s_way_behind) l1 c1 k1, b_way_behind := (fun_mk (st := s_way_behind) l1 c1 k1).binds (ps := ["way", "shape"]) (fun _ _ _ _ _ _ us hl => match us, hl with | [_, _], _ => rfl), g_way_behind := PySem.W.mg_of X G a1, f_way_about := f2, fd_way_about := _, F_way_about := fun_mk (st := s_way_about) l2 c2 k2, b_way_about := (fun_mk (st := s_way_about) l2 c2 k2).binds (ps := ["way"]) (fun _ _ _ _ _ _ us hl => match us, hl with | [_], _ => rfl), g_way_about := PySem.W.mg_of X G a2, f_gone_on := f4, fd_gone_on := _, F_gone_on := fun_mk (st := s_gone_on) l4 c4 k4, b_gone_on := (fun_mk (st := s_gone_on) l4 c4 k4).binds (ps := ["engine"]) (fun _ _ _ _ _ _ us hl => match us, hl with | [_], _ => rfl), g_gone_on := PySem.W.mg_of X G a4, f_gone_forward := f5, fd_gone_forward := _, F_gone_forward := fun_mk (st := s_gone_forward) l5 c5 k5, b_gone_forward := (fun_mk (st := s_gone_forward) l5 c5 k5).binds (ps := ["engine"]) (fun _ _ _ _ _ _ us hl => match us, hl with | [_], _ => rfl), g_gone_forward := PySem.W.mg_of X G a5, f_gone_back := f6, fd_gone_back := _, F_gone_back := fun_mk (st := s_gone_back) l6 c6 k6, b_gone_back := (fun_mk (st := s_gone_back) l6 c6 k6).binds (ps := ["engine"]) (fun _ _ _ _ _ _ us hl => match us, hl with | [_], _ => rfl), g_gone_back := PySem.W.mg_of X G a6, f_turned_by_hand := f7, fd_turned_by_hand := _, F_turned_by_hand := fun_mk (st := s_turned_by_hand) l7 c7 k7, b_turned_by_hand := (fun_mk (st := s_turned_by_hand) l7 c7 k7).binds (ps := ["engine"]) (fun _ _ _ _ _ _ us hl => match us, hl with | [_], _ => rfl), g_turned_by_hand := PySem.W.mg_of X G a7, f_painted := f8, fd_painted := _, F_painted := fun_mk (st := s_painted) l8 c8 k8, b_painted := (fun_mk (st := s_painted) l8 c8 k8).binds (ps := ["engine", "place", "colour"]) (fun _ _ _ _ _ _ us hl => match us, hl with | [_, _, _], _ => rfl), g_painted := PySem.W.mg_of X G a8, f__law_box := f9, fd__law_box := _, F__law_box := fun_mk (st := s__law_box) l9 c9 k9, b__law_box := (fun_mk (st := s__law_box) l9 c9 k9).binds (ps := ["_law_script", "_law_k"]) (fun _ _ _ _ _ _ us hl => match us, hl with | [_, _], _ => rfl), g__law_box := PySem.W.mg_of X G a9, f__law_take := f10, fd__law_take := _, F__law_take := fun_mk (st := s__law_take) l10 c10 k10, b__law_take := (fun_mk (st := s__law_take) l10 c10 k10).binds (ps := ["_law_box_here", "_law_many"]) (fun _ _ _ _ _ _ us hl => match us, hl with | [_, _], _ => rfl), g__law_take := PySem.W.mg_of X G a10, f__law_turned := f11, fd__law_turned := _, F__law_turned := fun_mk (st := s__law_turned) l11 c11 k11, b__law_turned := (fun_mk (st := s__law_turned) l11 c11 k11).binds (ps := ["_law_way", "_law_shape"]) (fun _ _ _ _ _ _ us hl => match us, hl with | [_, _], _ => rfl), g__law_turned := PySem.W.mg_of X G a11, f__law_on := f12, fd__law_on := _, F__law_on := fun_mk (st := s__law_on) l12 c12 k12, b__law_on := (fun_mk (st := s__law_on) l12 c12 k12).binds (ps := ["_law_square", "_law_way"]) (fun _ _ _ _ _ _ us hl => match us, hl with | [_, _], _ => rfl), g__law_on := PySem.W.mg_of X G a12, f__law_engine := f13, fd__law_engine := _, F__law_engine := fun_mk (st := s__law_engine) l13 c13 k13, b__law_engine := (fun_mk (st := s__law_engine) l13 c13 k13).binds (ps := ["_law_box_here", "_law_many", "_law_far"]) (fun _ _ _ _ _ _ us hl => match us, hl with | [_, _, _], _ => rfl), g__law_engine := PySem.W.mg_of X G a13, f__law_alike := f14, fd__law_alike := _, F__law_alike := fun_mk (st := s__law_alike) l14 c14 k14, b__law_alike := (fun_mk (st := s__law_alike) l14 c14 k14).binds (ps := ["_law_found", "_law_due"]) (fun _ _ _ _ _ _ us hl => match us, hl with | [_, _], _ => rfl), g__law_alike := PySem.W.mg_of X G a14, f__law_gone := f15, fd__law_gone := _, F__law_gone := fun_mk (st := s__law_gone) l15 c15 k15, b__law_gone := (fun_mk (st := s__law_gone) l15 c15 k15).binds (ps := ["_law_engine_here"]) (fun _ _ _ _ _ _ us hl => match us, hl with | [_], _ => rfl), g__law_gone := PySem.W.mg_of X G a15, f__law_right := f16, fd__law_right := _, F__law_right := fun_mk (st := s__law_right) l16 c16 k16, b__law_right := (fun_mk (st := s__law_right) l16 c16 k16).binds (ps := ["_law_box_here", "_law_engine_here"]) (fun _ _ _ _ _ _ us hl => match us, hl with | [_, _], _ => rfl), g__law_right := PySem.W.mg_of X G a16, m_all := PySem.W.mg_none_of X G z0, m_bool := PySem.W.mg_none_of X G z1, m_dict := PySem.W.mg_none_of X G z2, m_int := PySem.W.mg_none_of X G z3, m_isinstance := PySem.W.mg_none_of X G z4, m_len := PySem.W.mg_none_of X G z5, m_list := PySem.W.mg_none_of X G z6, m_max := PySem.W.mg_none_of X G z7, m_min := PySem.W.mg_none_of X G z8, m_range := PySem.W.mg_none_of X G z9, m_repr := PySem.W.mg_none_of X G z10, m_str := PySem.W.mg_none_of X G z11, m_tuple := PySem.W.mg_none_of X G z12, m_zip := PySem.W.mg_none_of X G z13, a_TURNS := tA, g_TURNS := PySem.W.mg_of X G ta, TURNS := fun s => match s with | .l => ⟨tes, tnn, _, tl, tk, t1, ⟨_, rfl⟩⟩ | .s => ⟨tes, tnn, _, tl, tk, t2, ⟨_, rfl⟩⟩ | .r => ⟨tes, tnn, _, tl, tk, t3, ⟨_, rfl⟩⟩, a_STEPS := sA, g_STEPS := PySem.W.mg_of X G sa, STEPS := fun H => .tup (xs := [.ref sB0, .ref sB1, .ref sB2, .ref sB3]) (.inr ⟨_, _, _, sl, rfl, rfl, (show 4 ≤ sizeLine by decide), .cons rfl (.cons rfl (.cons rfl (.cons rfl .nil)))⟩) (.cons (.tup (xs := [.int (0), .int (1)]) (.inr ⟨_, _, _, s0, rfl, rfl, (show 2 ≤ sizeLine by decide), .cons ⟨_, rfl⟩ (.cons ⟨_, rfl⟩ .nil)⟩) (.cons (.int (0)) (.cons (.int (1)) .nil))) (.cons (.tup (xs := [.int (1), .int (0)]) (.inr ⟨_, _, _, s1, rfl, rfl, (show 2 ≤ sizeLine by decide), .cons ⟨_, rfl⟩ (.cons ⟨_, rfl⟩ .nil)⟩) (.cons (.int (1)) (.cons (.int (0)) .nil))) (.cons (.tup (xs := [.int (0), .int (-1)]) (.inr ⟨_, _, _, s2, rfl, rfl, (show 2 ≤ sizeLine by decide), .cons ⟨_, rfl⟩ (.cons ⟨_, rfl⟩ .nil)⟩) (.cons (.int (0)) (.cons (.int (-1)) .nil))) (.cons (.tup (xs := [.int (-1), .int (0)]) (.inr ⟨_, _, _, s3, rfl, rfl, (show 2 ≤ sizeLine by decide), .cons ⟨_, rfl⟩ (.cons ⟨_, rfl⟩ .nil)⟩) (.cons (.int (-1)) (.cons (.int (0)) .nil))) .nil)))), f_onward := oF, fd_onward := _, F_onward := FO, ds_onward := ods, v_onward := ovs, b_onward := obs, g_onward := PySem.W.mg_of X G oa }
  exact ⟨PySem.W.fnOf "law" "law" (defArgs s_law) (defBody s_law) (defScope s_law) .none kV17 dc17 pm17 an17 cd17 ct17, fun s v => .of_eq rfl, fun base => ok_law T (fun_mk (st := s_law) l17 c17 k17)⟩
end K05
open PySem PySem.W PyProof.Rows
set_option maxHeartbeats 0 in
theorem PySem.Challenge.cw_ownrail_k05_gone_on_and_turned_holds : PySem.Challenge.rw_ownrail_k05_gone_on_and_turned.Holds := by
  w_on; o_law; k_head; (case hw => w_witness2)
  k_fill
  refine K05.walk_ofG (l := PySem.Challenge.rw_ownrail_k05_gone_on_and_turned) (n := 63) (k := 9) (x := "_law_script") (sp := fun w => OR.spLaw _) rfl (by decide) rfl ⟨rfl, by decide, by decide⟩ (fun w h Y => PySem.W.kIn_of Y) ?F (fun _ _ a ns hl hS => ⟨a, ns, rfl, hS, hl, fun _ => rfl⟩)
  case F =>
    intro w mg fa h KX G hmg
    refine' K05.all_mk KX G hmg ?a0 ?l0 ?c0 ?k0 ?a1 ?l1 ?c1 ?k1 ?a2 ?l2 ?c2 ?k2 ?a4 ?l4 ?c4 ?k4 ?a5 ?l5 ?c5 ?k5 ?a6 ?l6 ?c6 ?k6 ?a7 ?l7 ?c7 ?k7 ?a8 ?l8 ?c8 ?k8 ?a9 ?l9 ?c9 ?k9 ?a10 ?l10 ?c10 ?k10 ?a11 ?l11 ?c11 ?k11 ?a12 ?l12 ?c12 ?k12 ?a13 ?l13 ?c13 ?k13 ?a14 ?l14 ?c14 ?k14 ?a15 ?l15 ?c15 ?k15 ?a16 ?l16 ?c16 ?k16 ?a17 ?l17 ?c17 ?k17 ?z0 ?z1 ?z2 ?z3 ?z4 ?z5 ?z6 ?z7 ?z8 ?z9 ?z10 ?z11 ?z12 ?z13 ?ta ?tl ?tk ?t1 ?t2 ?t3 ?sa ?sl ?s0 ?s1 ?s2 ?s3 ?oa ?ol ?oc ?ok ?od
    (case a0 => k_is)
    (case l0 => k_is)
    (case c0 => k_is)
    (case k0 => k_is)
    (case a1 => k_is)
    (case l1 => k_is)
    (case c1 => k_is)
    (case k1 => k_is)
    (case a2 => k_is)
    (case l2 => k_is)
    (case c2 => k_is)
    (case k2 => k_is)
    (case a4 => k_is)
    (case l4 => k_is)
    (case c4 => k_is)
    (case k4 => k_is)
    (case a5 => k_is)
    (case l5 => k_is)
    (case c5 => k_is)
    (case k5 => k_is)
    (case a6 => k_is)
    (case l6 => k_is)
    (case c6 => k_is)
    (case k6 => k_is)
    (case a7 => k_is)
    (case l7 => k_is)
    (case c7 => k_is)
    (case k7 => k_is)
    (case a8 => k_is)
    (case l8 => k_is)
    (case c8 => k_is)
    (case k8 => k_is)
    (case a9 => k_is)
    (case l9 => k_is)
    (case c9 => k_is)
    (case k9 => k_is)
    (case a10 => k_is)
    (case l10 => k_is)
    (case c10 => k_is)
    (case k10 => k_is)
    (case a11 => k_is)
    (case l11 => k_is)
    (case c11 => k_is)
    (case k11 => k_is)
    (case a12 => k_is)
    (case l12 => k_is)
    (case c12 => k_is)
    (case k12 => k_is)
    (case a13 => k_is)
    (case l13 => k_is)
    (case c13 => k_is)
    (case k13 => k_is)
    (case a14 => k_is)
    (case l14 => k_is)
    (case c14 => k_is)
    (case k14 => k_is)
    (case a15 => k_is)
    (case l15 => k_is)
    (case c15 => k_is)
    (case k15 => k_is)
    (case a16 => k_is)
    (case l16 => k_is)
    (case c16 => k_is)
    (case k16 => k_is)
    (case a17 => k_is)
    (case l17 => k_is)
    (case c17 => k_is)
    (case k17 => k_is)
    (case z0 => k_is)
    (case z1 => k_is)
    (case z2 => k_is)
    (case z3 => k_is)
    (case z4 => k_is)
    (case z5 => k_is)
    (case z6 => k_is)
    (case z7 => k_is)
    (case z8 => k_is)
    (case z9 => k_is)
    (case z10 => k_is)
    (case z11 => k_is)
    (case z12 => k_is)
    (case z13 => k_is)
    (case ta => k_is)
    (case tl => k_is)
    (case tk => k_keys)
    (case t1 => k_is)
    (case t2 => k_is)
    (case t3 => k_is)
    (case sa => k_is)
    (case sl => k_is)
    (case s0 => k_is)
    (case s1 => k_is)
    (case s2 => k_is)
    (case s3 => k_is)
    (case oa => k_is)
    (case ol => k_is)
    (case oc => k_is)
    (case ok => k_is)
    (case od => k_is)
