import PyProof.Rows.All
import Wide.All
import OpenK.AllK
import Wide.FinOn
import HandS.Iter
import HandS.Comp
import HandS.Text
import HandS.Codes
import HandS.Call
import HandS.Walk
import PyProof.EnumMake
import KE.GoesMore
import KE.GoesEnum
import KE.GoesNew
import KE.KDictZip
import HandS.Dict
import HandS.List
import HandS.Words
import HandS.Replace
import HandS.ForMost
import HandS.IsInst
import HandS.Zip
import OpenK.KMore
import HandS.Ends
import PySem.Challenge.RW_ownfill_k03_turns_done_one_after_the_oth
set_option Elab.async false
set_option linter.all false
set_option maxRecDepth 100000
set_option maxHeartbeats 4000000
namespace Own
open PySem PySem.Spec PyProof.Rows L2

/-! ### walks that give a new tuple at each turn -/
/-- what an iterator of new tuples gives, in the library's words (GoesN), is a turn of the hand layer: at turn i the tuple's items are some vs with R i vs -/
theorem turn_tuples {P : Program} {w : World} {K : PySem.W.Frag} {tg : Expr} {I : Addr} {fp wr : List Addr} {n : Nat} {St : Nat → Heap → Prop}
    {Y : Nat → Heap → Value → Heap → Prop} {R : Nat → List V → Prop} {J : It} (W : ∀ A : Around, A.handled = none → GoesN P w A tg I fp wr n Y St)
    (hY : ∀ i h0 u h, Y i h0 u h → ∃ T vs us, u = .ref T ∧ h0.objs.size ≤ T ∧ vs.length ≤ sizeLine ∧ R i vs ∧ Vals vs us ∧ h.IsTuple T us.toArray)
    (mem : I ∈ fp) (obj : ∀ i h, St i h → ∀ b ∈ fp, ∃ o, h.get? b = some o ∧ ∀ v, o.data ≠ .cell v)
    (self : ∀ (A : Around) (i : Nat) (s : Shared) (Q : Value → Shared → Prop) (E : Value → Shared → Prop), St i s.heap → Q (.ref I) s → wpAny (model P w) A (pyIter (.ref I)) Q E s)
    (go : ∀ i H, J.go i H → i < n) (stop : ∀ i H, J.stop i H → i = n) (yld : ∀ i H T vs, H T = none → R i vs → J.yld i H (.ref T) (upd H T (.tup vs))) :
    Turn P w K tg J fp I St := by
  refine ⟨mem, obj, fun i h h' st k => (W callerA rfl).frame i h h' st k, ?_, ?_, self⟩
  · rintro X rfl rfl rfl calm i pins s σ H E I0 off st hg
    have G := W X.A (I0.ok.hd calm)
    refine G.goes i s (fun u s2 => ∃ x H', Inv X pins σ H' s2 ∧ RelV x u ∧ J.yld i H x H' ∧ St (i + 1) s2.heap ∧ ∀ b ∈ fp, H' b = none) E (go i H hg) st fun u h tk y st' rest _ => ?_
    obtain ⟨T, vs, us, rfl, young, len, r, rel, tup⟩ := hY _ _ _ _ y
    refine ⟨.ref T, upd H T (.tup vs), ?_, rfl, yld i H T vs (I0.hok.fresh young) r, st', fun b hb => ?_⟩
    · refine I0.turnedNew (t' := tk) (ch := fp) (fun b o nb q => rest b o (fun m => nb (G.sub b m)) q) off young ?_
      obtain ⟨o, e1, e2, e3⟩ := tup
      exact ⟨len, us, rel, o, e1, e2, e3⟩
    · obtain ⟨o, ho, _⟩ := obj i s.heap st b hb
      rw [upd_ne (Nat.ne_of_lt (Nat.lt_of_lt_of_le (Heap.lt_size ho) young))]
      exact (off b hb).1
  · rintro X rfl rfl rfl calm i pins s σ H E I0 off st hg
    have G := W X.A (I0.ok.hd calm)
    rw [stop i H hg] at st
    exact G.stops s (fun s1 => Inv X pins σ H s1) E st fun h tk rest _ => I0.turnedL (t' := tk) (ch := fp) (fun b o nb q => rest b o (fun m => nb (G.sub b m)) q) off

/-! ### a text's signs numbered -/
def ItE (z : Str) : It :=
  ⟨fun i _ => i < z.cps.size,
   fun i H v H' => ∃ T c, v = .ref T ∧ H T = none ∧ z.cps[i]? = some c ∧
     H' = upd H T (.tup [.int (i : Nat), .str ⟨#[c]⟩]),
   fun i _ => i = z.cps.size⟩

theorem turnE {P : Program} {w : World} {K : PySem.W.Frag} {elts : List Expr} {kk : Nat} {tpos : Pos} (z : Str) (t : Tok) (e it : Addr) (ne : e ≠ it) :
    Turn P w K (.Tuple elts kk tpos) (ItE z) [e, it] e
      (fun i h => (∃ old, IsEnum h e it (0 + (i : Int)) old) ∧ h.IsStrIter it (strIterType z) z t i) := by
  refine turn_tuples (R := fun i vs => ∃ c, z.cps[i]? = some c ∧ vs = [.int (i : Nat), .str ⟨#[c]⟩])
    (fun A hh => GoesN.enumFrom (elts := elts) (x1 := kk) (pos := tpos) 0 (Draws.text (prog := P) (w := w) (A := A.in1) hh it z t) e ne
      (fun m => ne (List.mem_singleton.mp m)) (List.mem_singleton.mpr rfl)) ?_ List.mem_cons_self ?_ ?_ (fun _ _ h => h) (fun _ _ h => h) ?_
  · rintro i h0 u h ⟨T, k, x, rfl, young, ⟨c, v, hc, rfl⟩, tup⟩
    rw [Int.zero_add] at tup
    exact ⟨T, _, [_, _], rfl, young, by show 2 ≤ sizeLine; decide, ⟨c, hc, rfl⟩, .cons ⟨_, rfl⟩ (.cons ⟨_, rfl⟩ .nil), tup⟩
  · rintro i h ⟨⟨old, he⟩, ⟨o, ho, _, hd⟩⟩
    simp only [List.forall_mem_cons]
    exact ⟨⟨_, he, fun v => nofun⟩, ⟨o, ho, fun v q => by rw [hd] at q; cases q⟩, fun _ q => nomatch q⟩
  · rintro A i s Q E ⟨⟨_, he⟩, _⟩ h
    exact wpAny_pyIter_enum he h
  · rintro i H T vs free ⟨c, hc, rfl⟩
    exact ⟨T, c, rfl, free, hc, rfl⟩

def iEnS (ta : TA) : TI := fun σ H R => ta σ H fun vs H1 => ∃ z, vs = [.str z] ∧ R (ItE z) H1

theorem pi_enS {X : Cx} {e : Expr} {ta : TA} {p pos tpos : Pos} {elts : List Expr} {kk : Nat}
    (hg : Gl X "enumerate") (hm : X.mg "enumerate" = none) (ha : PA X [e] ta)
    (hs : starEach [e] X.env = [(false, eval e X.env)] := by rfl) :
    PI X (.Tuple elts kk tpos) (.Call (.Name "enumerate" p) [e] [] pos) (iEnS ta) := by
  constructor
  intro pins s σ H R I h
  refine Call_ (ld_blt I hg hm boot_enumerate (PyProof.Rows.callWith_type1 (thn (ha.run pos pins s σ H _ I h) ?_) hs rfl))
  rintro us s1 ⟨vs, H1, I1, r1, z, rfl, q⟩
  obtain ⟨u, rfl, t, rfl⟩ := vals1 r1
  refine call_enumerate_str fun h' he hit _ hk => wpAny_pyIter_enum he ?_
  refine ⟨s1.heap.objs.size + 1, [s1.heap.objs.size + 1, s1.heap.objs.size], _, _, H1, rfl, I1.kept hk, turnE z t _ _ (Nat.succ_ne_self _), ⟨⟨.none, he⟩, hit⟩, ?_, q⟩
  have young : ∀ b, s1.heap.objs.size ≤ b → FpOk X pins H1 b := fun b lb => I1.fpOk lb (I1.hok.fresh lb)
  simp only [List.forall_mem_cons]
  exact ⟨young _ (Nat.le_add_right _ _), young _ (Nat.le_refl _), fun _ q => nomatch q⟩

theorem walkE {z : Str} : Walk (ItE z) z.cps.size (fun _ => True)
    (fun i H v H' => ∃ T c, v = .ref T ∧ H T = none ∧ z.cps[i]? = some c ∧
      H' = upd H T (.tup [.int (i : Nat), .str ⟨#[c]⟩])) :=
  ⟨fun _ _ h _ => h, fun _ _ => rfl, fun _ _ _ _ _ _ h => h⟩
end Own

namespace Own
open PySem PySem.Spec PyProof.Rows L2
/-! ### dict(zip(s, t)): a zip of any two iterators as a source of pairs -/
section
variable {P : Program} {w : World} {A : Around} {z TI TO T i1 i2 d : Addr} {f1 f2 : List Addr} {n1 n2 i : Nat} {s : Shared}
variable {R1 R2 : Nat → Value → Prop} {S1 S2 : Nat → Heap → Prop}

/-- one step of a zip of two whose last tuple is still out: first the one iterator, then the other, then a pair of its own -/
theorem zip_out {f : Bool} {o : Obj} {Q : Fin → Shared → Prop} {E : Value → Shared → Prop} (hz : IsZipHeld s.heap z TI TO T f)
    (hT : s.heap.get? T = some o) (hI : IsTupOf2 s.heap TI (.ref i1) (.ref i2))
    (k : ∀ g, IsZipHeld g z TI TO T true → Heap.SameBut z s.heap g →
      wpAny (model P w) A (Builtin.SmallTypes.nextOf (.ref i1)) (fun x s1 =>
        wpAny (model P w) A (Builtin.SmallTypes.nextOf (.ref i2)) (fun y s2 =>
          Q (.done (.ret (.ref s2.heap.objs.size)))
            { s2 with heap := s2.heap.push { cls := .type "tuple", data := .seq #[x, y] } }) E s1) E { s with heap := g }) :
    wpAny (model P w) A (Builtin.«zip.__next__» ⟨[.ref z], []⟩) Q E s := by
  refine wpAny_bind (m := field (.ref z) 2) (wpAny_field hz rfl (x := .bool false) rfl
    (wpAny_bind (m := field (.ref z) 3) (wpAny_field hz rfl (x := .ref TI) rfl (wpAny_bind (wpAny_seqItems hI rfl
      (wpAny_bind (m := Builtin.SmallTypes.ownedTupleIsFree (.ref z)) (wpAny_tupleHeld_zip hz hT fun g hg hs => ?_)))))))
  rw [if_neg Bool.false_ne_true]
  refine wpAny_bind ?_
  simp only [← Array.forIn_toList, List.forIn_cons, List.forIn_nil]
  refine wpAny_bind (wpAny_bind (wpAny_holding (wpAny_bind (m := Builtin.SmallTypes.nextOf (.ref i1)) ?_)))
  refine wpAny_mono (k g hg hs) (fun x s1 h1 => ?_) fun _ _ h => h
  refine wpAny_pure (wpAny_pure (wpAny_bind (wpAny_bind (wpAny_holding (wpAny_bind (m := Builtin.SmallTypes.nextOf (.ref i2)) ?_)))))
  refine wpAny_mono h1 (fun y s2 h2 => ?_) fun _ _ h => h
  exact wpAny_pure (wpAny_pure (wpAny_pure (wpAny_bind (m := newTuple [x, y]) (wpAny_newTuple (wpAny_pure h2)))))

/-- next(zip), told by its `__next__`: an item, or a StopIteration -/
theorem next_zip {Q : Option Value → Shared → Prop} {E : Value → Shared → Prop} (hy : s.TypeIs (.ref z) "zip")
    (h : wpAny (model P w) A.in1 (Builtin.«zip.__next__» ⟨[.ref z], []⟩) (fun r s' => ∃ v, r = .done (.ret v) ∧ Q (some v) s')
      (fun e s' => ∃ a o, e = .ref a ∧ s'.heap.get? a = some o ∧ o.cls = .type "StopIteration" ∧ Q none s') s) :
    wpAny (model P w) A (pyNext (.ref z)) Q E s := by
  unfold pyNext
  refine wpAny_bind (wpAny_attempt (wpAny_callSpecial?_slot (name := Str.ofString "__next__") hy F.slot_zip_next
    (wpAny_call_entry F.slot_zip_next hy F.entry_zip_next (wpAny_mono h (fun r s' ⟨v, e, q⟩ => ⟨v, e, wpAny_pure q⟩) fun e s' hs => ?_)
      (F.args_zip_next_1 _))))
  obtain ⟨a, o, rfl, ho, hc, q⟩ := hs
  exact wpAny_bind (wpAny_isInstance (T := "StopIteration") (b := true) ⟨o, ho, hc⟩ isSubtype_stop (wpAny_pure q))

/-- the zip at turn i: not asked yet, or its last tuple T is still out -/
def ZipAt (z TI TO i1 i2 d : Addr) (S1 S2 : Nat → Heap → Prop) (i : Nat) (h : Heap) : Prop :=
  IsTupOf2 h TI (.ref i1) (.ref i2) ∧ S1 i h ∧ S2 i h ∧
    ((IsZip h z TI TO .none ∧ ∃ u v, IsTupOf2 h TO u v) ∨
      ∃ T f o, IsZipHeld h z TI TO T f ∧ h.get? T = some o ∧ ∀ b ∈ [z, i1, i2, d], T ≠ b)

/-- all outside of some places stays -/
def Rest (l : List Addr) (h h' : Heap) : Prop := ∀ b o, b ∉ l → h.get? b = some o → h'.get? b = some o
theorem Rest.of {h h' : Heap} {x : Addr} (e : Heap.SameBut x h h') : Rest [x] h h' :=
  fun b o hb q => e.extBut b o (fun r => hb (List.mem_singleton.mpr r)) q
theorem Rest.push {h : Heap} {o : Obj} : Rest [] h (h.push o) := fun _ _ _ q => Heap.get?_push_of_some _ q
theorem Rest.seq {l1 l2 : List Addr} {h h1 h2 : Heap} (a : Rest l1 h h1) (b : Rest l2 h1 h2) : Rest (l1 ++ l2) h h2 :=
  fun c o hc q => b c o (fun r => hc (List.mem_append_right _ r)) (a c o (fun r => hc (List.mem_append_left _ r)) q)
theorem Rest.more {l1 l2 : List Addr} {h h' : Heap} (a : Rest l1 h h') (b : ∀ c ∈ l1, c ∈ l2) : Rest l2 h h' :=
  fun c o hc q => a c o (fun r => hc (b c r)) q

theorem src_zip (S : ZipSep2 z TI TO i1 i2 f1 f2) (D1 : Draws P w A.in1 i1 f1 n1 R1 S1) (D2 : Draws P w A.in1 i2 f2 n2 R2 S2)
    (off : ∀ b, b ∈ z :: TI :: TO :: f1 ++ f2 → d ≠ b) :
    PairSrc P w A z d [z, TO, i1, i2] (min n1 n2) (fun i k v => R1 i k ∧ R2 i v) (ZipAt z TI TO i1 i2 d S1 S2) := by
  have dz : d ≠ z := off z (by simp)
  have dI : d ≠ TI := off TI (by simp)
  have dO : d ≠ TO := off TO (by simp)
  have d1 : ∀ b ∈ f1, d ≠ b := fun b hb => off b (by simp [hb])
  have d2 : ∀ b ∈ f2, d ≠ b := fun b hb => off b (by simp [hb])
  have go1 : ∀ {i : Nat} {g g' : Heap} {l : List Addr}, S1 i g → Rest l g g' → (∀ b ∈ l, b ∉ f1) → S1 i g' :=
    fun st r a => D1.frame _ _ _ st fun b hb o q => r b o (fun m => a b m hb) q
  have go2 : ∀ {i : Nat} {g g' : Heap} {l : List Addr}, S2 i g → Rest l g g' → (∀ b ∈ l, b ∉ f2) → S2 i g' :=
    fun st r a => D2.frame _ _ _ st fun b hb o q => r b o (fun m => a b m hb) q
  refine ⟨?_, ?_, ?_, ?_⟩
  · intro m
    rcases List.mem_cons.mp m with r | m
    · exact dz r
    rcases List.mem_cons.mp m with r | m
    · exact dO r
    rcases List.mem_cons.mp m with r | m
    · exact d1 _ S.mem1 r
    · exact d2 _ S.mem2 (List.mem_singleton.mp m)
  · rintro i g g' ⟨hI, a, b, c⟩ k
    have rd : Rest [d] g g' := fun x o hx q => k x o (fun r => hx (List.mem_singleton.mpr r)) q
    refine ⟨k _ _ dI.symm hI, go1 a rd fun x hx m => d1 x m (List.mem_singleton.mp hx).symm,
      go2 b rd fun x hx m => d2 x m (List.mem_singleton.mp hx).symm, ?_⟩
    rcases c with ⟨c, u, v, e⟩ | ⟨T, f, o, c, e, n⟩
    · exact .inl ⟨k _ _ dz.symm c, u, v, k _ _ dO.symm e⟩
    · exact .inr ⟨T, f, o, k _ _ dz.symm c, k _ _ (n d (by simp)) e, n⟩
  · rintro i s Q E hi ⟨hI, a, b, c⟩ ld hQ
    have l1 : i < n1 := Nat.lt_of_lt_of_le hi (Nat.min_le_left ..)
    have l2 : i < n2 := Nat.lt_of_lt_of_le hi (Nat.min_le_right ..)
    have old : ∀ {x o}, s.heap.get? x = some o → s.heap.objs.size ≠ x := fun q => Nat.ne_of_gt (Heap.lt_size q)
    obtain ⟨o1, e1⟩ := D1.live _ _ a
    obtain ⟨o2, e2⟩ := D2.live _ _ b
    rcases c with ⟨c, u, v, e⟩ | ⟨T, f, o, c, e, n⟩
    · refine wpAny_pyNext_zipD2_item S D1 D2 c hI e a b l1 l2 fun x y g tk hx hy gz gO ga gb gp _ k => ?_
      have r : Rest [z, TO, i1, i2] s.heap g := fun b o hb q => k b o (fun x => hb (by simp [x])) (fun x => hb (by simp [x]))
        (fun x => hb (by simp [x])) (fun x => hb (by simp [x])) q
      refine hQ _ _ _ g tk ⟨hx, hy⟩ (.inl ⟨_, gp, rfl, _, rfl⟩) ⟨k _ _ S.TIz S.TITO S.TIi1 S.TIi2 hI, ga, gb, .inr ⟨_, false, _, gz, gp, ?_⟩⟩ r
      simp only [List.forall_mem_cons]
      exact ⟨old c, old e1, old e2, Nat.ne_of_gt ld, fun _ q => nomatch q⟩
    · have nz : T ≠ z := n z (by simp)
      have n1' : T ≠ i1 := n i1 (by simp)
      have n2' : T ≠ i2 := n i2 (by simp)
      refine next_zip ⟨_, c, rfl⟩ (zip_out c e hI fun g gz gs => ?_)
      have r0 := Rest.of gs
      refine D1.item i _ _ _ l1 (go1 a r0 fun x hx => by rw [List.mem_singleton.mp hx]; exact S.zf1) fun x g1 t1 hx a1 s1 => ?_
      have r1 := Rest.of (show Heap.SameBut i1 g g1 from s1)
      have b1 := go2 (go2 b r0 fun x hx => by rw [List.mem_singleton.mp hx]; exact S.zf2) r1 fun x hx => by rw [List.mem_singleton.mp hx]; exact S.sep1_2
      refine D2.item i _ _ _ l2 b1 fun y g2 t2 hy b2 s2 => ?_
      have r2 := Rest.of (show Heap.SameBut i2 g1 g2 from s2)
      have rp : Rest [] g2 (g2.push { cls := .type "tuple", data := .seq #[x, y] }) := Rest.push
      have all : Rest [z, i1, i2] s.heap (g2.push { cls := .type "tuple", data := .seq #[x, y] }) := ((r0.seq r1).seq r2).seq rp
      have keep : ∀ b o, b ≠ z → b ≠ i1 → b ≠ i2 → s.heap.get? b = some o → (g2.push { cls := .type "tuple", data := .seq #[x, y] }).get? b = some o :=
        fun b o h1 h2 h3 q => all b o (by simp [h1, h2, h3]) q
      have gz2 : IsZipHeld g2 z TI TO T true := r2 _ _ (by simp [S.zi2]) (r1 _ _ (by simp [S.zi1]) gz)
      refine ⟨_, rfl, hQ _ _ _ _ t2 ⟨hx, hy⟩ (.inl ⟨_, Heap.get?_push_size _ rfl, rfl, _, rfl⟩) ⟨keep _ _ S.TIz S.TIi1 S.TIi2 hI,
        go1 (go1 a1 r2 fun x hx => by rw [List.mem_singleton.mp hx]; exact S.sep2_1) rp (fun _ h => nomatch h), go2 b2 rp (fun _ h => nomatch h),
        .inr ⟨T, true, o, rp _ _ (by simp) gz2, keep _ _ nz n1' n2' e, n⟩⟩ (all.more fun c hc => ?_)⟩
      revert c
      simp only [List.nil_append, List.cons_append, List.forall_mem_cons]
      exact ⟨by simp, by simp, by simp, fun _ q => nomatch q⟩
  · rintro s Q E ⟨hI, a, b, c⟩ hQ
    have m1 := Nat.min_le_left n1 n2
    have m2 := Nat.min_le_right n1 n2
    have hm : min n1 n2 = n1 ∨ min n1 n2 = n2 := by omega
    rcases c with ⟨c, u, v, e⟩ | ⟨T, f, o, c, e, n⟩
    · refine wpAny_pyNext_zipD2_end S D1 D2 c hI e a b m1 m2 hm fun g tk k => hQ g tk fun b o hb q => ?_
      exact k b o (fun x => hb (by simp [x])) (fun x => hb (by simp [x])) (fun x => hb (by simp [x])) (fun x => hb (by simp [x])) q
    · refine next_zip ⟨_, c, rfl⟩ (zip_out c e hI fun g gz gs => ?_)
      have r0 := Rest.of gs
      have a0 := go1 a r0 fun x hx => by rw [List.mem_singleton.mp hx]; exact S.zf1
      have b0 := go2 b r0 fun x hx => by rw [List.mem_singleton.mp hx]; exact S.zf2
      by_cases h1 : min n1 n2 < n1
      · refine D1.item _ _ _ _ h1 a0 fun x g1 t1 hx a1 s1 => ?_
        have r1 := Rest.of (show Heap.SameBut i1 g g1 from s1)
        have b1 := go2 b0 r1 fun x hx => by rw [List.mem_singleton.mp hx]; exact S.sep1_2
        have e2 : min n1 n2 = n2 := by omega
        rw [e2] at b1
        refine D2.done _ _ _ b1 fun g2 x q hx => ?_
        obtain ⟨o', ho, hc⟩ := hx
        have r2 : Rest [i2] g1 g2 := fun b o hb y => q b o (fun r => hb (List.mem_singleton.mpr r)) y
        refine ⟨x, o', rfl, ho, hc, hQ g2 t1 (((r0.seq r1).seq r2).more fun c hc => ?_)⟩
        revert c
        simp only [List.nil_append, List.cons_append, List.forall_mem_cons]
        exact ⟨by simp, by simp, by simp, fun _ q => nomatch q⟩
      · have e1 : min n1 n2 = n1 := by omega
        rw [e1] at a0
        refine D1.done _ _ _ a0 fun g2 x q hx => ?_
        obtain ⟨o', ho, hc⟩ := hx
        have r2 : Rest [i1] g g2 := fun b o hb y => q b o (fun r => hb (List.mem_singleton.mpr r)) y
        refine ⟨x, o', rfl, ho, hc, hQ g2 s.toks ((r0.seq r2).more fun c hc => ?_)⟩
        revert c
        simp only [List.nil_append, List.cons_append, List.forall_mem_cons]
        exact ⟨by simp, by simp, fun _ q => nomatch q⟩
end

/-- a zip of two texts, not asked yet -/
structure ZipNew (z TI TO i1 i2 : Addr) (x y : Str) (t u : Tok) (h : Heap) : Prop where
  zip : IsZip h z TI TO .none
  its : IsTupOf2 h TI (.ref i1) (.ref i2)
  out : ∃ a b, IsTupOf2 h TO a b
  one : h.IsStrIter i1 (strIterType x) x t 0
  two : h.IsStrIter i2 (strIterType y) y u 0

/-- the pairs of two texts' signs -/
theorem argZ {prog : Program} {w : World} (z TI TO i1 i2 : Addr) (x y : Str) (t u : Tok) (S : ZipSep2 z TI TO i1 i2 [i1] [i2]) :
    PairArg prog w "zip" z [z, TI, TO, i1, i2] [z, TO, i1, i2] (min x.cps.size y.cps.size)
      (fun i k v => (∃ c r, x.cps[i]? = some c ∧ k = .str ⟨#[c]⟩ r) ∧ (∃ c r, y.cps[i]? = some c ∧ v = .str ⟨#[c]⟩ r))
      (ZipNew z TI TO i1 i2 x y t u) := by
  refine ⟨fun s ok => ⟨_, ok.zip, rfl⟩, by decide, fun h h' ok k => ?_, fun h ok b hb => ?_, fun b hb => ?_,
    fun A s Q E hA ok h => getAttrOr_miss_zip ok.zip rfl rfl rfl zip_no_keys (by decide +kernel) hA h, fun A s d Q E hA ok hd hdf h => ?_⟩
  · obtain ⟨a, b, ho⟩ := ok.out
    obtain ⟨o1, e1, r1⟩ := ok.one
    obtain ⟨o2, e2, r2⟩ := ok.two
    exact ⟨k _ _ ok.zip, k _ _ ok.its, ⟨a, b, k _ _ ho⟩, ⟨o1, k _ _ e1, r1⟩, ⟨o2, k _ _ e2, r2⟩⟩
  · obtain ⟨_, _, ho⟩ := ok.out
    obtain ⟨o1, e1, _⟩ := ok.one
    obtain ⟨o2, e2, _⟩ := ok.two
    have all : ∀ c ∈ [z, TI, TO, i1, i2], ∃ o, h.get? c = some o := by
      simp only [List.forall_mem_cons]
      exact ⟨⟨_, ok.zip⟩, ⟨_, ok.its⟩, ⟨_, ho⟩, ⟨_, e1⟩, ⟨_, e2⟩, fun _ q => nomatch q⟩
    exact all b hb
  · have all : ∀ c ∈ [z, TO, i1, i2], c ∈ [z, TI, TO, i1, i2] := by
      simp only [List.forall_mem_cons]
      exact ⟨by simp, by simp, by simp, by simp, fun _ q => nomatch q⟩
    exact all b hb
  · have D1 := Draws.text (prog := prog) (w := w) (A := A.in1) hA i1 x t
    have D2 := Draws.text (prog := prog) (w := w) (A := A.in1) hA i2 y u
    have src := src_zip (d := d) S D1 D2 fun b hb r => hdf (by rw [r]; simpa using hb)
    exact wpAny_pyIter_zip ok.zip (h z [z, TO, i1, i2] _ s.heap s.toks src ⟨ok.its, ok.one, ok.two, .inl ⟨ok.zip, ok.out⟩⟩ (fun _ _ e => e) fun b hb => .inl hb)
end Own

namespace Own
open PySem PySem.Spec PyProof.Rows L2
/-- the pairs of two texts -/
def zipS (x y : Str) : List (Key × V) :=
  (x.cps.toList.zip y.cps.toList).map fun p => (Sum.inr ⟨#[p.1]⟩, V.str ⟨#[p.2]⟩)

theorem zipS_len (x y : Str) : (zipS x y).length = min x.cps.size y.cps.size := by
  unfold zipS
  rw [List.length_map, List.length_zip]
  rfl
theorem zipS_at {x y : Str} {i a b : Nat} (hx : x.cps[i]? = some a) (hy : y.cps[i]? = some b) :
    (zipS x y)[i]? = some (Sum.inr ⟨#[a]⟩, V.str ⟨#[b]⟩) := by
  unfold zipS
  rw [← Array.getElem?_toList] at hx hy
  rw [List.getElem?_map, List.getElem?_zip_eq_some (z := (a, b)) |>.mpr ⟨hx, hy⟩]
  rfl
theorem mergeK_snoc (kvs more : List (Key × V)) {i : Nat} {k : Key} {v : V}
    (h : more[i]? = some (k, v)) :
    mergeK kvs (more.take (i + 1)) = putK (mergeK kvs (more.take i)) k v := by
  unfold mergeK
  rw [List.take_add_one, h]
  simp

theorem call_dz {prog : Program} {w : World} {A : Around} {E : Value → Shared → Prop}
    {s : Shared} {z TI TO i1 i2 : Addr} {x y : Str} {t u : Tok}
    {Q : Value → Shared → Prop} (S : ZipSep2 z TI TO i1 i2 [i1] [i2]) (hh : A.handled = none)
    (hz : IsZip s.heap z TI TO .none) (hTI : IsTupOf2 s.heap TI (.ref i1) (.ref i2))
    (hTO : ∃ a b, IsTupOf2 s.heap TO a b) (h1 : s.heap.IsStrIter i1 (strIterType x) x t 0)
    (h2 : s.heap.IsStrIter i2 (strIterType y) y u 0) (hsz : min x.cps.size y.cps.size ≤ sizeLine)
    (h : ∀ h' tk vs, KV (mergeK [] (zipS x y)) vs →
      h'.DictOf (mixKind prog w) s.heap.objs.size vs →
      (∀ b o, b ≠ z → b ≠ TO → b ≠ i1 → b ≠ i2 → s.heap.get? b = some o → h'.get? b = some o) →
      Q (.ref s.heap.objs.size) { s with heap := h', toks := tk }) :
    wpAny (model prog w) A (call (.type "dict") [.ref z]) Q E s := by
  refine call_dict_arg (argZ z TI TO i1 i2 x y t u S) ⟨hz, hTI, hTO, h1, h2⟩
    fun s1 es hdf ok1 => ?_
  subst es
  refine updateFrom_arg (A := A.in1) (Tab := fun i h => ∃ vs,
      KV (mergeK [] ((zipS x y).take i)) vs ∧ h.DictOf (mixKind prog w) s.heap.objs.size vs)
    (argZ z TI TO i1 i2 x y t u S) .none hh ok1 hdf ?_ (fun _ _ ⟨_, _, tb⟩ => tb.lt_size)
    (fun i g g' wr' hd _ ⟨vs, r, tb⟩ hk => ⟨vs, r, tb.at' fun o e => hk _ o hd e⟩) ?_ ?_
  · exact ⟨[], .nil, Heap.DictOf.new s.heap⟩
  · intro i key v s' Q' E' hi hrel tb _ hQ
    obtain ⟨⟨c, r, hc, rfl⟩, ⟨c', r', hc', rfl⟩⟩ := hrel
    obtain ⟨vs, rel, tb⟩ := tb
    have ez := zipS_at hc hc'
    have hl : vs.length < sizeLine := by
      have l1 := rel.length
      have l2 := length_mergeK ((zipS x y).take i) []
      rw [List.length_take, List.length_nil] at l2
      omega
    refine wpAny_dictSet_pairs (k := (Sum.inr ⟨#[c]⟩ : Key)) (hsz := by omega) (mixKind_str prog w _ _) tb fun h' hm' hs => ?_
    refine hQ h' _ ⟨_, ?_, hm'⟩ hs
    rw [mergeK_snoc _ _ ez]
    exact rel.put _ ⟨_, rfl⟩
  · intro h' tk tb hk
    obtain ⟨vs, rel, tb⟩ := tb
    rw [List.take_of_length_le (by rw [zipS_len]; exact Nat.le_refl _)] at rel
    refine ⟨rfl, h h' tk vs rel tb fun b o a1 a2 a3 a4 e => hk b o (Nat.ne_of_lt (Heap.lt_size e)) ?_
      (Heap.get?_push_of_some _ e)⟩
    intro hm
    simp only [List.mem_cons, List.not_mem_nil, or_false] at hm
    rcases hm with q | q | q | q
    · exact a1 q
    · exact a2 q
    · exact a3 q
    · exact a4 q

def tDZ (t : TA) : TE := fun σ H Q => t σ H fun vs H1 => ∃ x y : Str, vs = [.str x, .str y] ∧
  min x.cps.size y.cps.size ≤ sizeLine ∧
  ∀ d, H1 d = none → Q (.ref d) (upd H1 d (.dK (mergeK [] (zipS x y))))

theorem pe_dz {X : Cx} {a b : Expr} {t : TA} {p p2 q pos : Pos} (hg : Gl X "dict")
    (hm : X.mg "dict" = none) (hg2 : Gl X "zip") (hm2 : X.mg "zip" = none) (ha : PA X [a, b] t)
    (hc : X.calm = true := by rfl)
    (n1 : starEach [a, b] X.env = (false, eval a X.env) :: starEach [b] X.env := by rfl)
    (n2 : starEach [b] X.env = (false, eval b X.env) :: starEach [] X.env := by rfl) :
    PE X (.Call (.Name "dict" p) [.Call (.Name "zip" p2) [a, b] [] q] [] pos) (tDZ t) := by
  refine ⟨fun pins s σ H Q I h => ?_⟩
  refine Call_ (ld_blt I hg hm (u := .type "dict") (by decide +kernel) ?_)
  refine PyProof.Rows.callWith_type1 (PyProof.Rows.args_cons ?_ rfl) rfl rfl
  refine Call_ (ld_blt I hg2 hm2 (u := .type "zip") (by decide +kernel) ?_)
  refine PyProof.Rows.callWith_type1 (thn (ha.run q pins s σ H _ I h)
    fun us s1 ⟨vs, H1, I1, r1, q1⟩ => ?_) n1 (by rw [n2]; rfl)
  obtain ⟨x, y, ex, hsz, q1⟩ := q1
  subst ex
  obtain ⟨u1, u2, eu, rx, ry⟩ := vals2 r1
  subst eu
  obtain ⟨tx, rfl⟩ := rx
  obtain ⟨ty, rfl⟩ := ry
  refine zip_begins2 (begins_text x tx) (begins_text y ty) trivial trivial
    fun h' hz hTI hTO g1 g2 hs hk => ?_
  refine PyProof.Rows.args_nil ?_
  have S := zip_sep2 (N := s1.heap.objs.size) (fp1 := []) (fp2 := []) (fun b hb => nomatch hb)
    (fun b hb => nomatch hb)
  refine call_dz (s := { s1 with heap := h' }) (t := tx) (u := ty) S (I1.ok.hd hc) hz hTI
    ⟨_, _, hTO⟩ ⟨_, g1, rfl, rfl⟩ ⟨_, g2, rfl, rfl⟩ hsz fun h2 tk vs rel hd hk2 => ?_
  have keep : ∀ b o, s1.heap.get? b = some o → h2.get? b = some o := fun b o e => by
    have lb : b < s1.heap.objs.size := Heap.lt_size e
    have k : ∀ j : Nat, b ≠ s1.heap.objs.size + j := fun j e => by
      rw [e] at lb
      exact absurd lb (Nat.not_lt_of_le (Nat.le_add_right _ _))
    exact hk2 b o (k 4) (k 3) (k 0) (k 1) (hk b o e)
  have big : s1.heap.objs.size ≤ h'.objs.size := by rw [hs]; exact Nat.le_add_right _ _
  have hmod : (h'.objs.size == sysModules) = false :=
    beq_eq_false_iff_ne.mpr (Nat.ne_of_gt (Nat.lt_of_lt_of_le I1.big big))
  have hlen : (mergeK [] (zipS x y)).length ≤ sizeLine := by
    have l2 := length_mergeK (zipS x y) []
    rw [List.length_nil, zipS_len] at l2
    omega
  exact ⟨.ref h'.objs.size, upd H1 h'.objs.size (.dK (mergeK [] (zipS x y))),
    I1.laid (t' := tk) keep big (show ObjOk X.prog X.w _ _ _ (.dK (mergeK [] (zipS x y))) from
      ⟨hlen, hmod, vs, rel, hd⟩), rfl, q1 _ (I1.hok.fresh big)⟩

/-- what the dict says of the i-th sign, the first text without a sign twice -/
theorem valV_merge_out (k : Key) : ∀ (more kvs : List (Key × V)), (∀ p ∈ more, p.1 ≠ k) →
    valV (mergeK kvs more) k = valV kvs k
  | [], kvs, _ => rfl
  | p :: r, kvs, h => by
    show valV (mergeK (putK kvs p.1 p.2) r) k = valV kvs k
    rw [valV_merge_out k r _ fun q hq => h q (List.mem_cons_of_mem _ hq), valV_put,
      if_neg fun e => h p (List.mem_cons_self ..) e.symm]
theorem valV_merge {k : Key} {v : V} : ∀ (more kvs : List (Key × V)) (i : Nat),
    (more.map (·.1)).Nodup → more[i]? = some (k, v) → valV (mergeK kvs more) k = some v
  | [], _, _, _, h => by simp at h
  | p :: r, kvs, 0, nd, h => by
    have e : p = (k, v) := Option.some.inj h
    subst e
    show valV (mergeK (putK kvs k v) r) k = some v
    rw [List.map_cons, List.nodup_cons] at nd
    rw [valV_merge_out k r _ fun q hq e => nd.1 (e ▸ List.mem_map_of_mem (f := (·.1)) hq),
      valV_put, if_pos rfl]
  | p :: r, kvs, i + 1, nd, h => by
    rw [List.map_cons, List.nodup_cons] at nd
    exact valV_merge r _ i nd.2 h
end Own

namespace Own
open PySem PySem.Spec PyProof.Rows L2 SX
/-! ### texts -/
theorem idx_of {c : Nat} : ∀ (a : List Nat) (i : Nat), a[i]? = some c → (∀ k, k < i → a[k]? ≠ some c) → a.idxOf c = i
  | [], i, h, _ => by simp at h
  | x :: r, 0, h, _ => by
    have e : x = c := Option.some.inj h
    rw [e, List.idxOf_cons_self]
  | x :: r, i + 1, h, hk => by
    have ne : x ≠ c := fun e => hk 0 (Nat.succ_pos _) (by rw [e]; rfl)
    have ih := idx_of r i h fun k lt e => hk (k + 1) (Nat.succ_lt_succ lt) e
    have nb : (x == c) = false := beq_eq_false_iff_ne.mpr ne
    rw [List.idxOf_cons, nb, ih]
    rfl
theorem occ1 {a : List Nat} {c : Nat} (h : c ∈ a) :
    ∃ rest, Builtin.Str.occurrences (S a) (S [c]) 0 (S a).length 1 = a.idxOf c :: rest := by
  obtain ⟨j, hj⟩ := List.mem_iff_getElem?.mp h
  rcases StrLaws.occ_head (S a) (S [c]) 1 (Nat.le_refl _) with ⟨_, hn⟩ | ⟨i, r, e, hi, hk⟩
  · exact absurd ((StrLaws.subAt_one (S a) c j).mpr hj) (hn j)
  · have h1 : a[i]? = some c := (StrLaws.subAt_one (S a) c i).mp hi
    have e2 := idx_of a i h1 fun k lt q => hk k lt ((StrLaws.subAt_one (S a) c k).mpr q)
    exact ⟨r, by rw [e, e2]⟩
theorem join1 : ∀ cs : List Nat, TL.joinL [] (cs.map fun c => [c]) = cs
  | [] => rfl
  | [_] => rfl
  | x :: y :: r => by
    show [x] ++ ([] ++ TL.joinL [] ((y :: r).map fun c => [c])) = x :: y :: r
    rw [join1 (y :: r)]
    rfl
theorem empty_S : Str.ofString "" = S [] := rfl
theorem joinC (cs : List Nat) : Txt.join (Str.ofString "") (cs.map fun c => S [c]) = S cs := by
  rw [empty_S]
  have e := join_S [] (cs.map fun c => [c])
  rw [List.map_map, join1] at e
  exact e
theorem joinT (ts : List (List Nat)) : Txt.join (Str.ofString "") (ts.map S) = S ts.flatten := by
  rw [empty_S, join_S]
  congr 2
  induction ts with
  | nil => rfl
  | cons x r ih =>
    cases r with
    | nil => simp [TL.joinL]
    | cons y r =>
      show x ++ ([] ++ TL.joinL [] (y :: r)) = _
      rw [ih]
      rfl
theorem one_len (cs : List Nat) : ((cs.map fun c => S [c]).map (·.length)).sum = cs.length := by
  induction cs with
  | nil => rfl
  | cons c r ih =>
    rw [List.map_cons, List.map_cons, List.sum_cons, ih, List.length_cons, S_len]
    show 1 + r.length = _
    omega
theorem az : Str.ofString "abcdefghijklmnopqrstuvwxyz" = S (List.range' 97 26) := by decide +kernel

/-! ### turns -/
theorem get_idx {gs : List Nat} {c : Nat} (h : c ∈ gs) : gs[gs.idxOf c]? = some c := by
  rw [List.getElem?_eq_getElem (List.idxOf_lt_length_of_mem h), List.getElem_idxOf]
def tau (gs p : List Nat) (c : Nat) : Nat := p.getD (gs.idxOf c) 0
theorem tau_at {gs p : List Nat} {c : Nat} (h : c ∈ gs) (hl : p.length = gs.length) : p[gs.idxOf c]? = some (tau gs p c) := by
  have lt : gs.idxOf c < p.length := by rw [hl]; exact List.idxOf_lt_length_of_mem h
  unfold tau
  rw [List.getD_eq_getElem?_getD, List.getElem?_eq_getElem lt]
  rfl
theorem tau_mem {gs p : List Nat} {c : Nat} (h : c ∈ gs) (hl : p.length = gs.length) : tau gs p c ∈ p :=
  List.mem_of_getElem? (tau_at h hl)
theorem tau_self {gs : List Nat} {c : Nat} (h : c ∈ gs) : tau gs gs c = c := by
  have e := tau_at h (rfl : gs.length = gs.length)
  have e2 : gs[gs.idxOf c]? = some c := get_idx h
  rw [e] at e2
  exact Option.some.inj e2
theorem tau_map {gs m : List Nat} (f : Nat → Nat) {c : Nat} (h : c ∈ gs) (hl : m.length = gs.length) :
    tau gs (m.map f) c = f (tau gs m c) := by
  have e := tau_at (p := m.map f) h (by rw [List.length_map, hl])
  rw [List.getElem?_map, tau_at h hl] at e
  exact (Option.some.inj e).symm
theorem idx_get {y : List Nat} (nd : y.Nodup) {i c : Nat} (h : y[i]? = some c) : y.idxOf c = i := by
  refine idx_of y i h fun k lt e => ?_
  obtain ⟨h1, e1⟩ := List.getElem?_eq_some_iff.mp h
  obtain ⟨h2, e2⟩ := List.getElem?_eq_some_iff.mp e
  have : k = i := (List.getElem_inj nd).mp (e2.trans e1.symm)
  omega
/-- back again -/
theorem tau_back {gs y : List Nat} (nd : y.Nodup) (hl : y.length = gs.length) {x : Nat} (h : x ∈ gs) :
    tau y gs (tau gs y x) = x := by
  have e := idx_get nd (tau_at h hl)
  unfold tau at e ⊢
  rw [e]
  exact tau_self h
def und (gs y : List Nat) : List Nat := gs.map (tau y gs)
theorem und_back {gs y : List Nat} (nd : y.Nodup) (hl : y.length = gs.length) (hm : ∀ c ∈ y, c ∈ gs) {x : Nat} (h : x ∈ gs) :
    tau gs (und gs y) (tau gs y x) = x := by
  have hy := hm _ (tau_mem h hl)
  unfold und
  rw [tau_map _ hy rfl, tau_self hy]
  exact tau_back nd hl h

/-! ### how often -/
def it (gs t : List Nat) : Nat → List Nat
  | 0 => t
  | j + 1 => (it gs t j).map (tau gs t)
def rho (p : List Nat) : Nat → List Nat
  | 0 => p
  | j + 1 => (rho p j).map fun i => p.getD i 0
def lists (n : Nat) : Nat → List (List Nat)
  | 0 => [[]]
  | k + 1 => (List.range n).flatMap fun a => (lists n k).map fun l => a :: l
theorem mem_lists {n : Nat} : ∀ l : List Nat, (∀ a ∈ l, a < n) → l ∈ lists n l.length
  | [], _ => List.mem_singleton.mpr rfl
  | a :: r, h => by
    refine List.mem_flatMap.mpr ⟨a, List.mem_range.mpr (h a (List.mem_cons_self ..)), List.mem_map.mpr ⟨r, ?_, rfl⟩⟩
    exact mem_lists r fun b hb => h b (List.mem_cons_of_mem _ hb)
theorem rho_all : ∀ n ∈ List.range 5, ∀ p ∈ lists n n, p.Nodup → ∃ j ∈ List.range 12, rho p j = List.range n := by
  decide +kernel
theorem it_rho {gs t p : List Nat} (nd : gs.Nodup) (hl : t.length = gs.length) (hp : ∀ i ∈ p, i < gs.length) (hpl : p.length = gs.length)
    (ht : t = p.map fun i => gs.getD i 0) : ∀ j, it gs t j = (rho p j).map (fun i => gs.getD i 0) ∧ ∀ i ∈ rho p j, i < gs.length
  | 0 => ⟨ht, hp⟩
  | j + 1 => by
    obtain ⟨ih, hi⟩ := it_rho nd hl hp hpl ht j
    have pd : ∀ i, i < gs.length → p.getD i 0 ∈ p := fun i lt => by
      rw [List.getD_eq_getElem?_getD, List.getElem?_eq_getElem (by omega)]
      exact List.getElem_mem _
    refine ⟨?_, fun i hm => ?_⟩
    · show (it gs t j).map (tau gs t) = ((rho p j).map fun i => p.getD i 0).map fun i => gs.getD i 0
      rw [ih, List.map_map, List.map_map]
      refine List.map_congr_left fun i hm => ?_
      have lt := hi i hm
      show tau gs t (gs.getD i 0) = gs.getD (p.getD i 0) 0
      have e1 : gs[i]? = some (gs.getD i 0) := by
        rw [List.getD_eq_getElem?_getD, List.getElem?_eq_getElem lt]; rfl
      unfold tau
      rw [idx_get nd e1, ht]
      have lp : i < p.length := by omega
      have e2 : p.getD i 0 = p[i] := by
        rw [List.getD_eq_getElem?_getD, List.getElem?_eq_getElem lp]; rfl
      rw [e2, List.getD_eq_getElem?_getD, List.getElem?_map, List.getElem?_eq_getElem lp]
      rfl
    · have hm2 : i ∈ (rho p j).map fun i => p.getD i 0 := hm
      obtain ⟨k, hk, rfl⟩ := List.mem_map.mp hm2
      exact hp _ (pd k (hi k hk))
theorem ord_ex {gs t : List Nat} (nd : gs.Nodup) (h4 : gs.length ≤ 4) (hp : t.Perm gs) : ∃ j, j < 12 ∧ it gs t j = gs := by
  have hl := hp.length_eq
  have lt : ∀ i ∈ t.map gs.idxOf, i < gs.length := fun i hm => by
    obtain ⟨c, hc, rfl⟩ := List.mem_map.mp hm
    exact List.idxOf_lt_length_of_mem (hp.mem_iff.mp hc)
  have ll : (t.map gs.idxOf).length = gs.length := by rw [List.length_map, hl]
  have back : t = (t.map gs.idxOf).map fun i => gs.getD i 0 := by
    rw [List.map_map]
    refine (List.map_id t).symm.trans (List.map_congr_left fun c hc => ?_)
    exact (tau_self (hp.mem_iff.mp hc)).symm
  have ndt : t.Nodup := hp.nodup_iff.mpr nd
  have ndp : (t.map gs.idxOf).Nodup := by
    have h : ((t.map gs.idxOf).map fun i => gs.getD i 0).Nodup := by rw [← back]; exact ndt
    exact (List.pairwise_map.mp h).imp fun hne e => hne (congrArg (fun i => gs.getD i 0) e)
  have hm := mem_lists (n := gs.length) _ lt
  rw [ll] at hm
  obtain ⟨j, hj, e⟩ := rho_all gs.length (List.mem_range.mpr (by omega)) _ hm ndp
  refine ⟨j, List.mem_range.mp hj, ?_⟩
  rw [(it_rho nd hl lt ll back j).1, e]
  refine List.ext_getElem? fun i => ?_
  rw [List.getElem?_map]
  by_cases h : i < gs.length
  · rw [List.getElem?_range h, List.getElem?_eq_getElem h]
    show some (gs.getD i 0) = _
    rw [List.getD_eq_getElem?_getD, List.getElem?_eq_getElem h]
    rfl
  · rw [List.getElem?_eq_none (by rw [List.length_range]; omega), List.getElem?_eq_none (by omega)]
    rfl
theorem it_mem {gs t : List Nat} (hp : t.Perm gs) : ∀ j, (it gs t j).length = gs.length ∧ ∀ c ∈ it gs t j, c ∈ gs
  | 0 => ⟨hp.length_eq, fun c hc => hp.mem_iff.mp hc⟩
  | j + 1 => by
    obtain ⟨a, b⟩ := it_mem hp j
    refine ⟨by show ((it gs t j).map (tau gs t)).length = _; rw [List.length_map, a], fun c hc => ?_⟩
    have hc2 : c ∈ (it gs t j).map (tau gs t) := hc
    obtain ⟨x, hx, rfl⟩ := List.mem_map.mp hc2
    exact hp.mem_iff.mp (tau_mem (b x hx) hp.length_eq)
/-- the first j at which it is gs -/
theorem ord_least {gs t : List Nat} (nd : gs.Nodup) (h4 : gs.length ≤ 4) (hp : t.Perm gs) :
    ∃ J, J < 12 ∧ it gs t J = gs ∧ ∀ k, k < J → it gs t k ≠ gs := by
  obtain ⟨j, hj, e⟩ := ord_ex nd h4 hp
  have main : ∀ n, n ≤ j → it gs t n = gs → ∃ J, J < 12 ∧ it gs t J = gs ∧ ∀ k, k < J → it gs t k ≠ gs := by
    intro n
    induction n using Nat.strongRecOn with
    | ind n ih =>
      intro hn en
      by_cases h : ∃ k, k < n ∧ it gs t k = gs
      · obtain ⟨k, lt, ek⟩ := h
        exact ih k lt (by omega) ek
      · exact ⟨n, by omega, en, fun k lt ek => h ⟨k, lt, ek⟩⟩
  exact main j (Nat.le_refl _) e

/-! ### letters -/
def lets (f s n : Nat) : List Nat := (List.range n).map fun k => 97 + (f + s * k) % 26
theorem lets_nd : ∀ f ∈ List.range 26, ∀ s ∈ [1, 3, 5, 25, 7], ∀ n ∈ [2, 3, 4], (lets f s n).Nodup := by
  decide +kernel
structure Good (gs : List Nat) : Prop where
  lo : 2 ≤ gs.length
  hi : gs.length ≤ 4
  nd : gs.Nodup
  az : ∀ c ∈ gs, 97 ≤ c ∧ c ≤ 122
theorem lets_good {f s n : Nat} (hf : f < 26) (hs : s ∈ [1, 3, 5, 25, 7]) (hn : n ∈ [2, 3, 4]) : Good (lets f s n) := by
  have hl : (lets f s n).length = n := by unfold lets; rw [List.length_map, List.length_range]
  have h2 : 2 ≤ n ∧ n ≤ 4 := by
    simp only [List.mem_cons, List.not_mem_nil, or_false] at hn
    omega
  refine ⟨by omega, by omega, lets_nd f (List.mem_range.mpr hf) s hs n hn, fun c hc => ?_⟩
  obtain ⟨k, _, rfl⟩ := List.mem_map.mp hc
  omega

/-! ### the dict of two texts -/
theorem dz_get {gs t : List Nat} {c : Nat} (nd : gs.Nodup) (hl : t.length = gs.length) (h : c ∈ gs) :
    valV (mergeK [] (zipS (S gs) (S t))) (Sum.inr (S [c])) = some (.str (S [tau gs t c])) := by
  refine valV_merge _ _ (gs.idxOf c) ?_ ?_
  · have e : (zipS (S gs) (S t)).map (·.1) = gs.map fun c => (Sum.inr (S [c]) : Key) := by
      unfold zipS
      rw [List.map_map]
      show (List.zip gs t).map (fun p => (Sum.inr (S [p.1]) : Key)) = _
      have : (fun p : Nat × Nat => (Sum.inr (S [p.1]) : Key)) = (fun c => (Sum.inr (S [c]) : Key)) ∘ Prod.fst := rfl
      rw [this, ← List.map_map, List.map_fst_zip (by omega)]
    rw [e]
    refine List.pairwise_map.mpr (nd.imp fun hne q => hne ?_)
    have q1 := Sum.inr.inj q
    have q2 := S_inj q1
    exact List.head_eq_of_cons_eq q2
  · refine zipS_at (x := S gs) (y := S t) (i := gs.idxOf c) (a := c) (b := tau gs t c) ?_ ?_
    · show (gs.toArray)[gs.idxOf c]? = some c
      rw [List.getElem?_toArray]
      exact get_idx h
    · show (t.toArray)[gs.idxOf c]? = some _
      rw [List.getElem?_toArray]
      exact tau_at h hl
end Own

namespace Own
open PySem PySem.Spec PyProof.Rows L2
def topS (i : Nat) : Stmt :=
  PySem.Challenge.pw_ownfill_k03_turns_done_one_after_the_oth.main.body.getD i (.Pass ⟨0, 0, 0, 0⟩)
abbrev sDraws : Stmt := topS 10
abbrev sDraw : Stmt := topS 11
abbrev sPick : Stmt := topS 12

/-! ### the drawer -/
def RngV (H : Hp) (r l : Addr) (ns : List Int) (i b s c : Int) : Prop :=
  0 ≤ i ∧ H r = some (.lst [.ref l, .int i, .int b, .int s, .int c]) ∧ H l = some (.lst (ns.map V.int))
def RngL (H : Hp) (r l : Addr) : Prop := ∃ ns i b s c, RngV H r l ns i b s c
def Rng (H : Hp) (r : Addr) : Prop := ∃ l, RngL H r l
/-- all but r as before, and at r a drawer over the same cells -/
def Go (r : Addr) (H H' : Hp) : Prop :=
  (∀ b o, b ≠ r → H b = some o → H' b = some o) ∧ ∃ l, RngL H r l ∧ RngL H' r l

theorem ints_ne {a : List Int} {l : Addr} {xs : List V} : HO.lst (a.map V.int) ≠ HO.lst (V.ref l :: xs) := by
  intro h
  injection h with h
  cases a with
  | nil => cases h
  | cons x r =>
    injection h with h1 h2
    cases h1
theorem RngV.ne {H : Hp} {r l : Addr} {ns : List Int} {i b s c : Int} (h : RngV H r l ns i b s c) : l ≠ r :=
  ne_of h.2.2 h.2.1 ints_ne
theorem RngV.put {H : Hp} {r l : Addr} {ns : List Int} {i b s c i' b' s' c' : Int}
    (h : RngV H r l ns i b s c) (hi : 0 ≤ i') :
    RngV (upd H r (.lst [.ref l, .int i', .int b', .int s', .int c'])) r l ns i' b' s' c' :=
  ⟨hi, upd_same, by rw [upd_ne h.ne]; exact h.2.2⟩

section
variable {P : Program} {w : World} {K : PySem.W.Frag} {mg : Str → Option Value} {base : Heap}

theorem scDraws : FnScope ["_law_script", "_law_state", "_law_cell"] ["_law_script"] (defScope sDraws) :=
  ⟨rfl, rfl, rfl, by decide +kernel, rfl, by decide +kernel, by decide +kernel⟩
def spDraws (K : PySem.W.Frag) : Sp := fun vs H Q _ => ∃ (a : Addr) (ns : List Int), vs = [.ref a] ∧
  SqL K H a (ns.map V.int) ∧ ∀ H' r, Same H H' → H r = none → Rng H' r → Q (.ref r) H'

theorem ok_draws {f : Addr} {fd : FuncData} (F : Fun K "_law_draws" "_law_draws" sDraws f fd)
    (mi : mg "int" = none) (ml : mg "list" = none) :
    FnOk P w K mg base CX0 1 f fd ["_law_script"] (spDraws K) := by
  refine F.ok scDraws (fun vs H Q E h => ?_) (fun cdv A outer s H vs Q E hr h => ?_)
  · obtain ⟨a, ns, rfl, _⟩ := h
    rfl
  · obtain ⟨a, ns, rfl, hS, q⟩ := h
    refine ⟨_, pss_cons (ps_set (i := 1) scDraws.nd rfl (.inl rfl) pe_int)
      (pss_cons (ps_for PassesOwn.never rfl
          (pi_list (pe_slice sl_list (pv 0) po_none (po_some pe_int)))
          (pg_name (i := 2) scDraws.nd rfl (.inl rfl))
          (pss_one (ps_set (i := 1) scDraws.nd rfl (.inl rfl)
            (pe_op op_mod (pe_callTy call_int1 (by rfl) mi (by decide +kernel) (pa_cons
              (pe_op op_add (pe_op op_add (pe_op op_mul (pv 1) pe_int)
                (pe_op op_mod (pe_callTy call_int1 (by rfl) mi (by decide +kernel) (pa_cons (pv 2) pa_nil)) pe_int))
                pe_int) pa_nil)) pe_int))))
      (pss_one (ps_ret (pe_lst (pa_cons (pe_callTy call_list_of (by rfl) ml (by decide +kernel)
          (pa_cons (pe_slice sl_list (pv 0) po_none (po_some pe_int)) pa_nil))
        (pa_cons pe_int (pa_cons pe_int (pa_cons (pv 1) (pa_cons pe_int pa_nil))))))))), ?_⟩
    refine ⟨.ref a, rfl, 63, rfl, a, ns.map V.int, rfl, hS, fun p np => ?_⟩
    have hcut : cutV (ns.map V.int) none (some 63) = (ns.take 63).map V.int := by
      unfold cutV
      rw [HT.sIx_none, show HT.sIx (ns.map V.int).length (ns.map V.int).length (some 63) =
        min 63 (ns.map V.int).length from HT.sIx_nat _ _ 63, List.drop_zero, Nat.sub_zero,
        ← List.map_take]
      congr 1
      rw [List.length_map, List.take_eq_take_iff]
      omega
    rw [hcut]
    have s1 : Same H (upd H p (.lst ((ns.take 63).map V.int))) := fun b o e => by
      rw [upd_ne (ne_of_none e np)]; exact e
    refine ⟨p, rfl, ⟨_, .inl (.inl upd_same)⟩, for_list (K := K) (a := p) (xs := (ns.take 63).map V.int)
      (fun i σ H' => ∃ (st : Int) (v : Option V), σ = [some (.ref a), some (.int st), v] ∧
        H' = upd H p (.lst ((ns.take 63).map V.int)))
      ⟨3833, none, rfl, rfl⟩ (fun i σ H' _ ⟨_, _, _, e⟩ => by rw [e]; exact .inl (.inl upd_same)) ?_ ?_⟩
    · rintro i y σ H' hi ⟨st, v, rfl, rfl⟩
      obtain ⟨u, rfl⟩ : ∃ u, y = V.int u := by
        rw [List.getElem?_map] at hi
        cases e : (ns.take 63)[i]? with
        | none => rw [e] at hi; cases hi
        | some u => rw [e] at hi; exact ⟨u, (Option.some.inj hi).symm⟩
      refine ⟨_, rfl, _, _, rfl, rfl, .inr ⟨by decide, by decide⟩, _, rfl, .inl ⟨_, rfl, _, _, rfl, rfl,
        (by show (0 : Int) < 2147483587; decide), _, _, rfl, rfl, _, _, rfl, rfl, .inl ⟨_, rfl, _, _, rfl, rfl,
        (by show (0 : Int) < 2147483647; decide), ?_⟩⟩⟩
      exact ⟨_, _, rfl, rfl⟩
    · rintro σ H' ⟨st, v, rfl, rfl⟩
      refine ⟨.ref a, rfl, 63, rfl, a, ns.map V.int, rfl, s1.seq hS, fun p2 np2 => ?_⟩
      rw [hcut]
      refine ⟨p2, _, rfl, .inl (.inl (.inl upd_same)), fun l nl => ?_⟩
      refine ⟨.int st, rfl, (by show 5 ≤ sizeLine; decide), fun r nr => ?_⟩
      have s2 := fun b o (e : H b = some o) => s1 b o e
      refine q _ r (fun b o e => ?_) ?_ ?_
      · have e1 := s1 b o e
        have e2 : (upd (upd H p (.lst ((ns.take 63).map V.int))) p2 (.lst ((ns.take 63).map V.int))) b = some o := by
          rw [upd_ne (ne_of_none e1 np2)]; exact e1
        have e3 : (upd (upd (upd H p (.lst ((ns.take 63).map V.int))) p2 (.lst ((ns.take 63).map V.int))) l
            (.lst ((ns.take 63).map V.int))) b = some o := by
          rw [upd_ne (ne_of_none e2 nl)]; exact e2
        rw [upd_ne (ne_of_none e3 nr)]
        exact e3
      · cases e : H r with
        | none => rfl
        | some o =>
          have e1 := s1 r o e
          have e2 : (upd (upd H p (.lst ((ns.take 63).map V.int))) p2 (.lst ((ns.take 63).map V.int))) r = some o := by
            rw [upd_ne (ne_of_none e1 np2)]; exact e1
          rw [upd_ne (ne_of_none e2 nl)] at nr
          rw [e2] at nr
          cases nr
      · refine ⟨l, ns.take 63, 0, 0, st, 0, Int.le_refl 0, upd_same, ?_⟩
        have nlr : l ≠ r := fun e => by
          rw [← e, upd_same] at nr
          cases nr
        rw [upd_ne nlr, upd_same]
end
end Own

namespace Own
open PySem PySem.Spec PyProof.Rows L2
section
variable {P : Program} {w : World} {K : PySem.W.Frag} {mg : Str → Option Value} {base : Heap}
theorem scDraw : FnScope ["_law_rng", "_law_sides", "_law_cell", "_law_digit", "_law_seed"]
    ["_law_rng", "_law_sides"] (defScope sDraw) :=
  ⟨rfl, rfl, rfl, by decide +kernel, rfl, by decide +kernel, by decide +kernel⟩
def spDraw : Sp := fun vs H Q _ => ∃ (r : Addr) (n : Int), vs = [.ref r, .int n] ∧ 0 < n ∧ n < 1000000 ∧
  Rng H r ∧ ∀ H' k, Go r H H' → 0 ≤ k → k < n → Q (.int k) H'

theorem ok_draw {f : Addr} {fd : FuncData} (F : Fun K "_law_draw" "_law_draw" sDraw f fd)
    (mi : mg "int" = none) (ml : mg "len" = none) :
    FnOk P w K mg base CX0 1 f fd ["_law_rng", "_law_sides"] spDraw := by
  refine F.ok scDraw (fun vs H Q E h => ?_) (fun cdv A outer s H vs Q E hr h => ?_)
  · obtain ⟨r, n, rfl, _⟩ := h
    rfl
  · obtain ⟨r, n, rfl, hn, hn2, ⟨l, ns, i, b, z, c, R⟩, q⟩ := h
    have R0 : RngL H r l := ⟨ns, i, b, z, c, R⟩
    refine ⟨_, pss_cons (ps_asg (pe_op op_add (pe_ix ix_list (pv 0) pe_int (fun _ _ => rfl)) pe_int)
        (pg_sub (pv 0) pe_int set_list))
      (C8.pss_cut (ps_if (PW.pt (pw_and (pt_cmpR op_eq (pe_ix ix_list (pv 0) pe_int (fun _ _ => rfl)) pe_int (nomark _))
          (pw_and1 (pt_cmpR op_lt (pe_ix ix_list (pv 0) pe_int (fun _ _ => rfl))
            (pe_callB call_len_seq (by rfl) ml PySem.boot_len (pa_cons (pe_ix ix_list (pv 0) pe_int (fun _ _ => rfl)) pa_nil))
            (nomark _)))))
        (pss_cons (ps_set (i := 2) scDraw.nd rfl (.inl rfl)
            (pe_ix ix_list (pe_ix ix_list (pv 0) pe_int (fun _ _ => rfl)) (pe_ix ix_list (pv 0) pe_int (fun _ _ => rfl)) (fun _ _ => rfl)))
        (pss_cons (ps_asg (pe_op op_add (pe_ix ix_list (pv 0) pe_int (fun _ _ => rfl)) pe_int) (pg_sub (pv 0) pe_int set_list))
        (pss_one (ps_if (pt_cmpR op_ge (pv 2) (pe_op op_pow pe_int pe_int) (nomark _))
          (pss_one (ps_asg (pv 2) (pg_sub (pv 0) pe_int set_list)))
          (pss_one (ps_asg (pe_op op_mod (pe_callTy call_int1 (by rfl) mi (by decide +kernel) (pa_cons
              (pe_op op_add (pe_op op_add (pe_op op_mul (pe_ix ix_list (pv 0) pe_int (fun _ _ => rfl)) pe_int)
                (pe_op op_mul (pe_op op_mod (pe_callTy call_int1 (by rfl) mi (by decide +kernel) (pa_cons (pv 2) pa_nil)) pe_int) pe_int))
                pe_int) pa_nil)) pe_int) (pg_sub (pv 0) pe_int set_list)))))))
        pss_nil)
      (pss_cons (ps_if (pt_cmpR op_gt (pe_ix ix_list (pv 0) pe_int (fun _ _ => rfl)) pe_int (nomark _))
        (pss_cons (ps_set (i := 3) scDraw.nd rfl (.inl rfl) (pe_op op_mod (pe_callTy call_int1 (by rfl) mi (by decide +kernel)
            (pa_cons (pe_ix ix_list (pv 0) pe_int (fun _ _ => rfl)) pa_nil)) (pv 1)))
        (pss_cons (ps_asg (pe_op op_fdiv (pe_ix ix_list (pv 0) pe_int (fun _ _ => rfl)) (pv 1)) (pg_sub (pv 0) pe_int set_list))
        (pss_one (ps_ret (pv 3))))) pss_nil)
      (pss_cons (ps_set (i := 4) scDraw.nd rfl (.inl rfl) (pe_ix ix_list (pv 0) pe_int (fun _ _ => rfl)))
      (pss_cons (ps_asg (pe_op op_mod (pe_callTy call_int1 (by rfl) mi (by decide +kernel) (pa_cons
          (pe_op op_add (pe_op op_add (pe_op op_add (pe_op op_mul (pv 4) pe_int)
            (pe_op op_mul (pe_op op_fdiv (pv 4) pe_int) pe_int))
            (pe_op op_mul (pe_ix ix_list (pv 0) pe_int (fun _ _ => rfl)) pe_int)) pe_int) pa_nil)) pe_int)
          (pg_sub (pv 0) pe_int set_list))
      (pss_one (ps_ret (pe_op op_mod (pe_callTy call_int1 (by rfl) mi (by decide +kernel) (pa_cons
          (pe_op op_add (pe_op op_fdiv (pe_ix ix_list (pv 0) pe_int (fun _ _ => rfl)) pe_int)
            (pe_op op_mul (pe_op op_mod (pe_callTy call_int1 (by rfl) mi (by decide +kernel)
              (pa_cons (pe_ix ix_list (pv 0) pe_int (fun _ _ => rfl)) pa_nil)) pe_int) pe_int)) pa_nil)) (pv 1)))))))), ?_⟩
    have at0 : ∀ {l : Addr} {i b z c : Int}, atI [V.ref l, .int i, .int b, .int z, .int c] 0 = some (.ref l) := atI_nat (j := 0) rfl
    have at1 : ∀ {l : Addr} {i b z c : Int}, atI [V.ref l, .int i, .int b, .int z, .int c] 1 = some (.int i) := atI_nat (j := 1) rfl
    have at2 : ∀ {l : Addr} {i b z c : Int}, atI [V.ref l, .int i, .int b, .int z, .int c] 2 = some (.int b) := atI_nat (j := 2) rfl
    have at3 : ∀ {l : Addr} {i b z c : Int}, atI [V.ref l, .int i, .int b, .int z, .int c] 3 = some (.int z) := atI_nat (j := 3) rfl
    have at4 : ∀ {l : Addr} {i b z c : Int}, atI [V.ref l, .int i, .int b, .int z, .int c] 4 = some (.int c) := atI_nat (j := 4) rfl
    -- rng[4] += 1
    refine ⟨_, rfl, r, _, 4, _, rfl, rfl, SqL.of R.2.1, at4, _, _, rfl, rfl, _, rfl, r, _, 4, 4, rfl, rfl, R.2.1, rfl, ?_⟩
    have R1 : RngV (upd H r (.lst [.ref l, .int i, .int b, .int z, .int (c + 1)])) r l ns i b z (c + 1) := R.put R.1
    have g1 : ∀ x o, x ≠ r → H x = some o → upd H r (.lst [.ref l, .int i, .int b, .int z, .int (c + 1)]) x = some o :=
      fun x o nx e => by rw [upd_ne nx]; exact e
    refine ⟨fun σ H' => ∃ v2 v3 v4, σ = [some (.ref r), some (.int n), v2, v3, v4] ∧
      (∀ x o, x ≠ r → H x = some o → H' x = some o) ∧ RngL H' r l, ?_, ?_⟩
    · -- the script's next cell
      refine ⟨_, rfl, r, _, 2, _, rfl, rfl, SqL.of R1.2.1, at2, rfl, _, rfl, ?_⟩
      refine ite2 (fun _ => ?_) (fun _ => iteF ⟨none, none, none, rfl, g1, _, _, _, _, _, R1⟩)
      refine ⟨_, rfl, r, _, 1, _, rfl, rfl, SqL.of R1.2.1, at1, _, rfl, r, _, 0, _, rfl, rfl, SqL.of R1.2.1, at0,
        l, _, rfl, .inl (SqL.of R1.2.2), _, _, rfl, rfl, _, rfl, ?_⟩
      refine ite2 (fun hlt => ?_) (fun _ => ⟨none, none, none, rfl, g1, _, _, _, _, _, R1⟩)
      have hlt2 : i < ((ns.map V.int).length : Int) := of_decide_eq_true hlt
      rw [List.length_map] at hlt2
      obtain ⟨j, rfl⟩ := Int.eq_ofNat_of_zero_le R.1
      have hj : j < ns.length := by omega
      have gj : (ns.map V.int)[j]? = some (.int ns[j]) := by
        rw [List.getElem?_map, List.getElem?_eq_getElem hj]; rfl
      refine ⟨_, rfl, r, _, 0, _, rfl, rfl, SqL.of R1.2.1, at0, _, rfl, r, _, 1, _, rfl, rfl, SqL.of R1.2.1, at1,
        l, _, _, _, rfl, rfl, SqL.of R1.2.2, atI_nat gj, ?_⟩
      refine ⟨_, rfl, r, _, 1, _, rfl, rfl, SqL.of R1.2.1, at1, _, _, rfl, rfl, _, rfl, r, _, 1, 1, rfl, rfl, R1.2.1, rfl, ?_⟩
      have R2 := R1.put (i' := (j : Int) + 1) (b' := b) (s' := z) (c' := c + 1) (by omega)
      have g2 : ∀ x o, x ≠ r → H x = some o →
          upd (upd H r (.lst [.ref l, .int (j : Int), .int b, .int z, .int (c + 1)])) r
            (.lst [.ref l, .int ((j : Int) + 1), .int b, .int z, .int (c + 1)]) x = some o :=
        fun x o nx e => by rw [upd_ne nx]; exact g1 x o nx e
      refine ⟨_, rfl, _, _, rfl, rfl, ⟨by decide, by decide, by decide⟩, _, _, rfl, rfl, _, rfl, ?_⟩
      refine ite2 (fun _ => ?_) (fun _ => ?_)
      · refine ⟨_, rfl, _, rfl, r, _, 2, 2, rfl, rfl, R2.2.1, rfl, ?_⟩
        exact ⟨_, none, none, rfl, fun x o nx e => by rw [upd_ne nx]; exact g2 x o nx e, _, _, _, _, _, R2.put (by omega)⟩
      · refine ⟨_, rfl, r, _, 3, _, rfl, rfl, SqL.of R2.2.1, at3, _, _, rfl, rfl, .inr ⟨by decide, by decide⟩, _, rfl,
          .inl ⟨_, rfl, _, _, rfl, rfl, (by show (0 : Int) < 2147483579; decide), _, _, rfl, rfl, .inr ⟨by decide, by decide⟩,
          _, _, rfl, rfl, _, _, rfl, rfl, .inl ⟨_, rfl, _, _, rfl, rfl, (by show (0 : Int) < 2147483647; decide),
          _, rfl, r, _, 3, 3, rfl, rfl, R2.2.1, rfl, ?_⟩⟩⟩
        exact ⟨_, none, none, rfl, fun x o nx e => by rw [upd_ne nx]; exact g2 x o nx e, _, _, _, _, _, R2.put (by omega)⟩
    · rintro σ H' ⟨v2, v3, v4, rfl, g, ns, i, b, z, c, R⟩
      refine ⟨_, rfl, r, _, 2, _, rfl, rfl, SqL.of R.2.1, at2, _, _, rfl, rfl, _, rfl, ?_⟩
      refine ite2 (fun hb => ?_) (fun _ => ?_)
      · refine ⟨_, rfl, r, _, 2, _, rfl, rfl, SqL.of R.2.1, at2, .inl ⟨_, rfl, _, rfl, _, _, rfl, rfl, hn, ?_⟩⟩
        refine ⟨_, rfl, r, _, 2, _, rfl, rfl, SqL.of R.2.1, at2, _, rfl, _, _, rfl, rfl, ⟨hn, by omega⟩, _, rfl, r, _, 2, 2, rfl, rfl, R.2.1, rfl, ?_⟩
        refine ⟨_, rfl, q _ _ ⟨fun x o nx e => by rw [upd_ne nx]; exact g x o nx e, l, R0, _, _, _, _, _, R.put R.1⟩ ?_ ?_⟩
        · exact Int.emod_nonneg _ (by omega)
        · exact Int.emod_lt_of_pos _ hn
      · refine ⟨_, rfl, r, _, 3, _, rfl, rfl, SqL.of R.2.1, at3, ?_⟩
        refine ⟨_, rfl, _, _, rfl, rfl, .inr ⟨by decide, by decide⟩, _, rfl, _, _, rfl, rfl, ⟨by decide, by decide⟩,
          _, _, rfl, rfl, .inr ⟨by decide, by decide⟩, _, _, rfl, rfl, _, rfl, r, _, 4, _, rfl, rfl, SqL.of R.2.1, at4,
          _, _, rfl, rfl, .inr ⟨by decide, by decide⟩, _, _, rfl, rfl, _, _, rfl, rfl, .inl ⟨_, rfl, _, _, rfl, rfl,
          (by show (0 : Int) < 2147483647; decide), _, rfl, r, _, 3, 3, rfl, rfl, R.2.1, rfl, ?_⟩⟩
        have R2 := fun z' => R.put (i' := i) (b' := b) (s' := z') (c' := c) R.1
        refine ⟨_, rfl, r, _, 3, _, rfl, rfl, SqL.of (R2 _).2.1, at3, _, _, rfl, rfl, ⟨by decide, by decide⟩, _, rfl, r, _, 3, _, rfl, rfl,
          SqL.of (R2 _).2.1, at3, .inl ⟨_, rfl, _, _, rfl, rfl, (by show (0 : Int) < 7907; decide), _, _, rfl, rfl, .inr ⟨by decide, by decide⟩,
          _, _, rfl, rfl, .inl ⟨_, rfl, _, rfl, _, _, rfl, rfl, hn, ?_⟩⟩⟩
        refine q _ _ ⟨fun x o nx e => by rw [upd_ne nx]; exact g x o nx e, l, R0, _, _, _, _, _, R2 _⟩ ?_ ?_
        · exact Int.emod_nonneg _ (by omega)
        · exact Int.emod_lt_of_pos _ hn
end
end Own

namespace Own
open PySem PySem.Spec PyProof.Rows L2 SX
abbrev sLetters : Stmt := topS 14
abbrev sTurn : Stmt := topS 15
abbrev sWord : Stmt := topS 16
theorem RngL.inj {r l l' : Addr} {H : Hp} (a : RngL H r l) (b : RngL H r l') : l = l' := by
  obtain ⟨ns, i, b', s, c, R⟩ := a
  obtain ⟨ns', i', b'', s', c', R'⟩ := b
  have e := R.2.1.symm.trans R'.2.1
  injection e with e
  injection e with e
  injection e with e1 e2
  injection e1
theorem RngL.same {r l : Addr} {H H' : Hp} (h : RngL H r l) (s : Same H H') : RngL H' r l := by
  obtain ⟨ns, i, b, z, c, R⟩ := h
  exact ⟨ns, i, b, z, c, R.1, s _ _ R.2.1, s _ _ R.2.2⟩
theorem Rng.same {r : Addr} {H H' : Hp} (h : Rng H r) (s : Same H H') : Rng H' r := let ⟨l, h⟩ := h; ⟨l, h.same s⟩
theorem Go.rng {r : Addr} {H H' : Hp} (g : Go r H H') : Rng H' r := let ⟨l, _, h⟩ := g.2; ⟨l, h⟩
theorem Go.rng0 {r : Addr} {H H' : Hp} (g : Go r H H') : Rng H r := let ⟨l, h, _⟩ := g.2; ⟨l, h⟩
theorem Go.trans {r : Addr} {H H1 H2 : Hp} (a : Go r H H1) (b : Go r H1 H2) : Go r H H2 := by
  obtain ⟨a1, l, a2, a3⟩ := a
  obtain ⟨b1, l', b2, b3⟩ := b
  have e := a3.inj b2
  subst e
  exact ⟨fun x o nx e => b1 x o nx (a1 x o nx e), l, a2, b3⟩
theorem Go.refl {r : Addr} {H : Hp} (h : Rng H r) : Go r H H := let ⟨l, h⟩ := h; ⟨fun _ _ _ e => e, l, h, h⟩
theorem Go.of {r : Addr} {H H' : Hp} (h : Rng H r) (s : Same H H') : Go r H H' :=
  let ⟨l, h⟩ := h; ⟨fun _ _ _ e => s _ _ e, l, h, h.same s⟩
theorem Go.same {r : Addr} {H H1 H2 : Hp} (a : Go r H H1) (s : Same H1 H2) : Go r H H2 := a.trans (Go.of a.rng s)
theorem Go.after {r : Addr} {H H1 H2 : Hp} (h : Rng H r) (s : Same H H1) (a : Go r H1 H2) : Go r H H2 := (Go.of h s).trans a
theorem RngL.ex {r l : Addr} {H : Hp} (h : RngL H r l) : (∃ xs, H r = some (.lst xs)) ∧ ∃ xs, H l = some (.lst xs) := by
  obtain ⟨ns, i, b, s, c, R⟩ := h
  exact ⟨⟨_, R.2.1⟩, ⟨_, R.2.2⟩⟩
theorem Rng.ex {r : Addr} {H : Hp} (h : Rng H r) : ∃ xs, H r = some (.lst xs) := let ⟨_, h⟩ := h; h.ex.1
/-- a list made on the way, new at H, is written -/
theorem Go.put {r D : Addr} {H H' : Hp} {o : HO} (g : Go r H H') (nD : H D = none) : Go r H (upd H' D o) := by
  obtain ⟨g1, l, h, h'⟩ := g
  obtain ⟨⟨x1, e1⟩, ⟨x2, e2⟩⟩ := h.ex
  have n1 : r ≠ D := ne_of_none e1 nD
  have n2 : l ≠ D := ne_of_none e2 nD
  refine ⟨fun b u nb e => ?_, l, h, ?_⟩
  · rw [upd_ne (ne_of_none e nD)]
    exact g1 b u nb e
  · obtain ⟨ns, i, b, z, c, R⟩ := h'
    exact ⟨ns, i, b, z, c, R.1, by rw [upd_ne n1]; exact R.2.1, by rw [upd_ne n2]; exact R.2.2⟩
theorem same_new {H : Hp} {p : Addr} {o : HO} (h : H p = none) : Same H (upd H p o) := fun b x e => by
  rw [upd_ne (ne_of_none e h)]
  exact e
theorem Go.seq {K : PySem.W.Frag} {r a : Addr} {H H' : Hp} {xs : List V} (g : Go r H H') (ne : a ≠ r) (h : SqL K H a xs) : SqL K H' a xs := by
  rcases h with (h | ⟨o, h⟩) | h
  · exact .inl (.inl (g.1 _ _ ne h))
  · exact .inl (.inr ⟨o, g.1 _ _ ne h⟩)
  · exact .inr h
theorem small {n : Nat} (h : n ≤ 1000) : n ≤ sizeLine := Nat.le_of_lt (small1000 h)

section
variable {P : Program} {w : World} {K : PySem.W.Frag} {mg : Str → Option Value} {base : Heap}
theorem scPick : FnScope ["_law_rng", "_law_things"] ["_law_rng", "_law_things"] (defScope sPick) :=
  ⟨rfl, rfl, rfl, by decide +kernel, rfl, by decide +kernel, by decide +kernel⟩
def spPick (K : PySem.W.Frag) : Sp := fun vs H Q _ => ∃ (r : Addr) (x : V), vs = [.ref r, x] ∧ Rng H r ∧
  ((∃ a xs, x = .ref a ∧ a ≠ r ∧ SqL K H a xs ∧ 0 < xs.length ∧ xs.length ≤ 1000 ∧ ∀ H' v, Go r H H' → v ∈ xs → Q v H') ∨
   (∃ cs : List Nat, x = .str (S cs) ∧ 0 < cs.length ∧ cs.length ≤ 1000 ∧ ∀ H' c, Go r H H' → c ∈ cs → Q (.str (S [c])) H'))

theorem ok_pick {f fD : Addr} {fd fdD : FuncData} (F : Fun K "_law_pick" "_law_pick" sPick f fd)
    (FD : Fun K "_law_draw" "_law_draw" sDraw fD fdD) (bD : Binds K fdD ["_law_rng", "_law_sides"] [])
    (gD : mg "_law_draw" = some (.ref fD)) (mi : mg "int" = none) (ml : mg "len" = none) :
    FnOk P w K mg base CX0 2 f fd ["_law_rng", "_law_things"] (spPick K) := by
  have GD : FnOk P w K mg base CX0 1 fD fdD ["_law_rng", "_law_sides"] spDraw := ok_draw FD mi ml
  refine F.ok scPick (fun vs H Q E h => ?_) (fun cdv A outer s H vs Q E hr h => ?_)
  · obtain ⟨r, x, rfl, _⟩ := h
    rfl
  · obtain ⟨r, x, rfl, R, h⟩ := h
    refine ⟨_, pss_one (ps_ret (pe_ix ix_seq (pv 1) (pe_call GD hr (by rfl) gD FD.kp bD .nil pass0
      (pa_cons (pv 0) (pa_cons (pe_callB call_len (by rfl) ml PySem.boot_len (pa_cons (pv 1) pa_nil)) pa_nil)))
      (fun _ _ => rfl))), ?_⟩
    rcases h with ⟨a, xs, rfl, nar, hS, h0, h1, q⟩ | ⟨cs, rfl, h0, h1, q⟩
    · refine ⟨_, rfl, _, rfl, _, rfl, _, xs.length, rfl, .inl ⟨_, hS, rfl⟩, r, _, rfl, by omega, by omega, R, fun H' k g k0 k1 => ?_⟩
      obtain ⟨j, rfl⟩ := Int.eq_ofNat_of_zero_le k0
      have hj : j < xs.length := by omega
      exact .inl ⟨a, xs, _, xs[j], rfl, rfl, g.seq nar hS, atI_nat (List.getElem?_eq_getElem hj), q _ _ g (List.getElem_mem hj)⟩
    · refine ⟨_, rfl, _, rfl, _, rfl, _, cs.length, rfl, ⟨by rw [S_len]; exact small h1, by rw [S_len]⟩, r, _, rfl, by omega, by omega, R, fun H' k g k0 k1 => ?_⟩
      obtain ⟨j, rfl⟩ := Int.eq_ofNat_of_zero_le k0
      have hj : j < cs.length := by omega
      exact .inr (.inr ⟨_, _, cs[j], rfl, rfl, by rw [S_len]; exact small h1, atI_nat (List.getElem?_eq_getElem hj), q _ _ g (List.getElem_mem hj)⟩)

/-! ### letters -/
theorem scLetters : FnScope ["_law_rng", "_law_most", "_law_size", "_law_first", "_law_step", "_law_k"]
    ["_law_rng", "_law_most"] (defScope sLetters) :=
  ⟨rfl, rfl, rfl, by decide +kernel, rfl, by decide +kernel, by decide +kernel⟩
def spLetters : Sp := fun vs H Q _ => ∃ (r : Addr) (m : Int), vs = [.ref r, .int m] ∧ 2 ≤ m ∧ Rng H r ∧
  ∀ H' gs, Go r H H' → Good gs → (gs.length : Int) ≤ m → Q (.str (S gs)) H'

theorem ok_letters {f fD fP : Addr} {fd fdD fdP : FuncData} (F : Fun K "_law_letters" "_law_letters" sLetters f fd)
    (FD : Fun K "_law_draw" "_law_draw" sDraw fD fdD) (bD : Binds K fdD ["_law_rng", "_law_sides"] [])
    (gD : mg "_law_draw" = some (.ref fD))
    (FP : Fun K "_law_pick" "_law_pick" sPick fP fdP) (bP : Binds K fdP ["_law_rng", "_law_things"] [])
    (gP : mg "_law_pick" = some (.ref fP)) (mi : mg "int" = none) (ml : mg "len" = none)
    (mm : mg "min" = none) (mr : mg "range" = none) :
    FnOk P w K mg base CX0 3 f fd ["_law_rng", "_law_most"] spLetters := by
  have GD : FnOk P w K mg base CX0 1 fD fdD ["_law_rng", "_law_sides"] spDraw := ok_draw FD mi ml
  have GP : FnOk P w K mg base CX0 2 fP fdP ["_law_rng", "_law_things"] (spPick K) := ok_pick FP FD bD gD mi ml
  refine F.ok scLetters (fun vs H Q E h => ?_) (fun cdv A outer s H vs Q E hr h => ?_)
  · obtain ⟨r, m, rfl, _⟩ := h
    rfl
  · obtain ⟨r, m, rfl, hm, R, q⟩ := h
    have hr1 : Room 1 _ := hr.mono (by decide)
    refine ⟨_, pss_cons (ps_set (i := 2) scLetters.nd rfl (.inl rfl) (pe_callB (call_min2 rfl) (by rfl) mm (by decide +kernel)
        (pa_cons (pv 1) (pa_cons (pe_call GP hr (by rfl) gP FP.kp bP .nil pass0 (pa_cons (pv 0)
          (pa_cons (pe_lst (pa_cons pe_int (pa_cons pe_int (pa_cons pe_int (pa_cons pe_int (pa_cons pe_int (pa_cons pe_int pa_nil))))))) pa_nil))) pa_nil))))
      (pss_cons (ps_asg (pe_tup (pa_cons (pe_call GD hr1 (by rfl) gD FD.kp bD .nil pass0 (pa_cons (pv 0) (pa_cons pe_int pa_nil)))
          (pa_cons (pe_call GP hr (by rfl) gP FP.kp bP .nil pass0 (pa_cons (pv 0)
          (pa_cons (pe_lst (pa_cons pe_int (pa_cons pe_int (pa_cons pe_int (pa_cons pe_int (pa_cons pe_int pa_nil)))))) pa_nil))) pa_nil)))
          (pg_tup rfl (pgs_cons (pg_name (i := 3) scLetters.nd rfl (.inr rfl)) (pgs_cons (pg_name (i := 4) scLetters.nd rfl (.inr rfl)) pgs_nil))))
      (pss_one (ps_ret (pe_join pe_str (pe_lc (own := [("_law_k", 5)]) (g := gName 5) (tt := tYes) rfl scLetters.nd
        (pi_range1 rfl mr (pa_cons (pv 2) pa_nil))
        (blkOk_by (N := ["_law_rng", "_law_most", "_law_size", "_law_first", "_law_step", "_law_k"]) (sc := defScope sLetters) (by decide +kernel))
        (fun _ _ _ _ _ => pg_name (i := 5) scLetters.nd rfl (Or.inl rfl)) (fun _ _ _ _ _ => pts_nil)
        (fun _ _ _ _ _ => pe_ix ix_str pe_str (pe_op op_mod (pe_callTy call_int1 (by rfl) mi (by decide +kernel)
          (pa_cons (pe_op op_add (pv 3) (pe_op op_mul (pv 4) (pv 5))) pa_nil)) pe_int) (fun _ _ => rfl))))))), ?_⟩
    obtain ⟨xr, er⟩ := R.ex
    refine ⟨_, rfl, _, rfl, (by show 6 ≤ sizeLine; decide), fun l nl => ?_⟩
    refine ⟨r, .ref l, rfl, R.same (same_new nl), .inl ⟨l, _, rfl, (ne_of_none er nl).symm, .inl (.inl upd_same), by decide, by decide, fun H1 v g1 hv => ?_⟩⟩
    obtain ⟨j, rfl, hj⟩ : ∃ j : Nat, v = .int j ∧ j ∈ [2, 3, 4] := by
      simp only [List.mem_cons, List.not_mem_nil, or_false] at hv
      rcases hv with e | e | e | e | e | e <;>
        first | exact ⟨2, e, by decide⟩ | exact ⟨3, e, by decide⟩ | exact ⟨4, e, by decide⟩
    have G1 : Go r H H1 := Go.after R (same_new nl) g1
    obtain ⟨n, hn1, hn2, hn3⟩ : ∃ n : Nat, (if (j : Int) < m then (j : Int) else m) = (n : Int) ∧ n ∈ [2, 3, 4] ∧ (n : Int) ≤ m := by
      have hj2 : 2 ≤ j ∧ j ≤ 4 := by
        simp only [List.mem_cons, List.not_mem_nil, or_false] at hj
        omega
      by_cases h : (j : Int) < m
      · rw [if_pos h]
        exact ⟨j, rfl, hj, by omega⟩
      · rw [if_neg h]
        refine ⟨m.toNat, by omega, ?_, by omega⟩
        simp only [List.mem_cons, List.not_mem_nil, or_false]
        omega
    refine ⟨_, _, rfl, ?_⟩
    rw [hn1]
    refine ⟨_, rfl, r, 26, rfl, by decide, by decide, g1.rng, fun H2 f g2 f0 f1 => ?_⟩
    obtain ⟨f, rfl⟩ := Int.eq_ofNat_of_zero_le f0
    obtain ⟨x2, e2⟩ := g2.rng.ex
    refine ⟨_, rfl, (by show 5 ≤ sizeLine; decide), fun l2 nl2 => ?_⟩
    refine ⟨r, .ref l2, rfl, g2.rng.same (same_new nl2), .inl ⟨l2, _, rfl, (ne_of_none e2 nl2).symm, .inl (.inl upd_same), by decide, by decide, fun H3 v g3 hv => ?_⟩⟩
    obtain ⟨t, rfl, ht⟩ : ∃ j : Nat, v = .int j ∧ j ∈ [1, 3, 5, 25, 7] := by
      simp only [List.mem_cons, List.not_mem_nil, or_false] at hv
      rcases hv with e | e | e | e | e <;>
        first | exact ⟨1, e, by decide⟩ | exact ⟨3, e, by decide⟩ | exact ⟨5, e, by decide⟩ | exact ⟨25, e, by decide⟩ | exact ⟨7, e, by decide⟩
    have G3 : Go r H H3 := (G1.trans g2).trans (Go.after g2.rng (same_new nl2) g3)
    refine ⟨(by show 2 ≤ sizeLine; decide), fun T nT => ?_⟩
    refine ⟨T, _, rfl, .inl (.inl upd_same), rfl, _, _, rfl, _, _, rfl, rfl, ?_⟩
    have G4 := G3.same (same_new (o := .tup [.int (f : Int), .int (t : Int)]) nT)
    have hn4 : n ≤ 4 := by
      simp only [List.mem_cons, List.not_mem_nil, or_false] at hn2
      omega
    refine ⟨⟨_, rfl⟩, _, rfl, _, rfl, by omega, by omega, fun D nD => ?_⟩
    have t25 : t ≤ 25 := by
      simp only [List.mem_cons, List.not_mem_nil, or_false] at ht
      omega
    refine lc_range (lo := 0) (n := (n : Int).toNat)
      (fun i H' => H' = upd (upd H3 T (.tup [.int (f : Int), .int (t : Int)])) D (.lst ((lets f t i).map fun c => V.str (S [c])))) rfl ?_ ?_
    · rintro i H' hi rfl
      have ei : ((f : Int) + (t : Int) * (0 + (i : Int))) % 26 = (((f + t * i) % 26 : Nat) : Int) := by
        rw [Int.zero_add, ← Int.natCast_mul]
        generalize t * i = u
        omega
      have ec : (List.range' 97 26)[(f + t * i) % 26]? = some (97 + (f + t * i) % 26) := by
        rw [List.getElem?_range' (by omega)]
        simp
      refine ⟨rfl, _, rfl, _, rfl, _, rfl, _, _, rfl, rfl, .inl ⟨by omega, by omega⟩, _, _, rfl, rfl, .inl ⟨_, rfl, _, _, rfl, rfl,
        (by show (0 : Int) < 26; decide), ?_⟩⟩
      refine ⟨_, _, 97 + (f + t * i) % 26, rfl, rfl, by decide, ?_, _, upd_same, ?_, ?_⟩
      · show atI (Str.ofString "abcdefghijklmnopqrstuvwxyz").cps.toList (((f : Int) + (t : Int) * (0 + (i : Int))) % 26) = _
        rw [az, ei]
        exact atI_nat ec
      · rw [List.length_map]
        unfold lets
        rw [List.length_map, List.length_range]
        exact small1000 (by omega)
      · rw [upd_upd]
        unfold lets
        rw [List.range_succ, List.map_append, List.map_append]
        rfl
    · rintro H' rfl
      have nDr : D ≠ r := by
        obtain ⟨x4, e4⟩ := G4.rng.ex
        exact (ne_of_none e4 nD).symm
      refine ⟨_, D, (lets f t n).map (fun c => S [c]), rfl, rfl, .inl (.inl (.inl ?_)), ?_, ?_⟩
      · rw [upd_same, List.map_map]
        rfl
      · rw [one_len]
        have : (lets f t n).length = n := by unfold lets; rw [List.length_map, List.length_range]
        rw [this]
        show n + _ * 0 ≤ _
        omega
      · rw [joinC]
        refine q _ _ (G4.same (same_new nD)) (lets_good (by omega) ht hn2) ?_
        have : (lets f t n).length = n := by unfold lets; rw [List.length_map, List.length_range]
        omega
end
end Own

namespace Own
open PySem PySem.Spec PyProof.Rows L2 SX
section
variable {P : Program} {w : World} {K : PySem.W.Frag} {mg : Str → Option Value} {base : Heap}
/-! ### a turn is drawn -/
theorem scTurn : FnScope ["_law_rng", "_law_signs", "_law_left", "_law_found", "_law_k", "_law_at"]
    ["_law_rng", "_law_signs"] (defScope sTurn) :=
  ⟨rfl, rfl, rfl, by decide +kernel, rfl, by decide +kernel, by decide +kernel⟩
def spTurn : Sp := fun vs H Q _ => ∃ (r : Addr) (gs : List Nat), vs = [.ref r, .str (S gs)] ∧ gs.length ≤ 1000 ∧ Rng H r ∧
  ∀ H' t, Go r H H' → t.Perm gs → Q (.str (S t)) H'

theorem ok_turn {f fD : Addr} {fd fdD : FuncData} (F : Fun K "_law_turn" "_law_turn" sTurn f fd)
    (FD : Fun K "_law_draw" "_law_draw" sDraw fD fdD) (bD : Binds K fdD ["_law_rng", "_law_sides"] [])
    (gD : mg "_law_draw" = some (.ref fD)) (mi : mg "int" = none) (ml : mg "len" = none) (mr : mg "range" = none) :
    FnOk P w K mg base CX0 2 f fd ["_law_rng", "_law_signs"] spTurn := by
  have GD : FnOk P w K mg base CX0 1 fD fdD ["_law_rng", "_law_sides"] spDraw := ok_draw FD mi ml
  refine F.ok scTurn (fun vs H Q E h => ?_) (fun cdv A outer s H vs Q E hr h => ?_)
  · obtain ⟨r, x, rfl, _⟩ := h
    rfl
  · obtain ⟨r, gs, rfl, hl, R, q⟩ := h
    refine ⟨_, pss_cons (ps_if (pt_cmpR op_eq (pe_call GD hr (by rfl) gD FD.kp bD .nil pass0 (pa_cons (pv 0) (pa_cons pe_int pa_nil))) pe_int (nomark _))
        (pss_one (ps_ret (pv 1))) pss_nil)
      (pss_cons (ps_par (i := 2) (j := 3) (by rfl) scTurn.nd rfl rfl (by decide) rfl rfl (pa_cons (pv 1) (pa_cons pe_str pa_nil)) (by rfl))
      (pss_cons (ps_for PassesOwn.never rfl
          (pi_range1 rfl mr (pa_cons (pe_callB call_len_str (by rfl) ml PySem.boot_len (pa_cons (pv 1) pa_nil)) pa_nil))
          (pg_name (i := 4) scTurn.nd rfl (.inl rfl))
          (pss_cons (ps_set (i := 5) scTurn.nd rfl (.inl rfl) (pe_call GD hr (by rfl) gD FD.kp bD .nil pass0
              (pa_cons (pv 0) (pa_cons (pe_callB call_len_str (by rfl) ml PySem.boot_len (pa_cons (pv 2) pa_nil)) pa_nil))))
          (pss_one (ps_par (i := 3) (j := 2) (by rfl) scTurn.nd rfl rfl (by decide) rfl rfl
            (pa_cons (pe_op op_add_str (pv 3) (pe_ix ix_str (pv 2) (pv 5) (fun _ _ => rfl)))
            (pa_cons (pe_op op_add_str (pe_slice C8.sl_txt (pv 2) po_none (po_some (pv 5)))
              (pe_slice C8.sl_txt (pv 2) (po_some (pe_op op_add (pv 5) pe_int)) po_none)) pa_nil)) (by rfl)))))
      (pss_one (ps_ret (pv 3))))), ?_⟩
    refine ⟨_, rfl, r, 3, rfl, by decide, by decide, R, fun H1 k g1 k0 k1 => ⟨rfl, _, rfl, ?_⟩⟩
    refine ite2 (fun _ => ⟨_, rfl, q _ _ g1 (List.Perm.refl _)⟩) (fun _ => ?_)
    refine ⟨_, rfl, _, _, rfl, ?_⟩
    have hz : (S gs).length ≤ sizeLine := by rw [S_len]; exact small hl
    refine ⟨_, rfl, _, rfl, hz, _, rfl, by omega, by rw [S_len]; omega, ?_⟩
    refine for_range (lo := 0) (n := ((S gs).length : Int).toNat)
      (fun i σ H' => ∃ (ls fs : List Nat) (v4 v5 : Option V), σ = [some (.ref r), some (.str (S gs)), some (.str (S ls)), some (.str (S fs)), v4, v5] ∧
        Go r H H' ∧ (fs ++ ls).Perm gs ∧ ls.length + i = gs.length) ⟨gs, [], none, none, rfl, g1, List.Perm.refl _, rfl⟩ ?_ ?_
    · rintro i σ H' hi ⟨ls, fs, v4, v5, rfl, g, hp, hli⟩
      rw [S_len] at hi
      have hls : ls.length ≤ 1000 := by omega
      have hfs : fs.length ≤ 1000 := by
        have e := hp.length_eq
        rw [List.length_append] at e
        omega
      refine ⟨_, rfl, _, rfl, _, rfl, by rw [S_len]; exact small hls, r, _, rfl, by rw [S_len]; omega, by rw [S_len]; omega, g.rng, fun H2 k g2 k0 k1 => ?_⟩
      rw [S_len] at k1
      obtain ⟨j, rfl⟩ := Int.eq_ofNat_of_zero_le k0
      have hj : j < ls.length := by omega
      have e1 : Txt.slice (S ls) none (some (j : Int)) = S (ls.take j) := slice_to (by omega)
      have e2 : Txt.slice (S ls) (some ((j : Int) + 1)) none = S (ls.drop (j + 1)) := slice_from (a := ls) (i := (j : Int) + 1) (by omega)
      refine ⟨_, rfl, _, rfl, _, rfl, _, _, ls[j], rfl, rfl, by rw [S_len]; exact small hls, atI_nat (List.getElem?_eq_getElem hj), _, _, rfl, rfl, ?_, ?_⟩
      · rw [S_len]
        show fs.length + 1 ≤ sizeLine
        exact small1000 hfs
      refine ⟨_, rfl, _, rfl, _, rfl, _, rfl, by rw [S_len]; exact small hls, _, rfl, _, rfl, _, _, rfl, rfl, _, rfl, _, rfl, by rw [S_len]; exact small hls, _, _, rfl, rfl, ?_, ?_⟩
      · rw [e1, e2, S_len, S_len, List.length_take, List.length_drop]
        exact Nat.le_trans (by omega) (small hls)
      refine ⟨_, _, rfl, ls.take j ++ ls.drop (j + 1), fs ++ [ls[j]], some (.int (0 + (i : Int))), some (.int (j : Int)), ?_, g.trans g2, ?_, ?_⟩
      · rw [e1, e2, S_cat, S_cat]
        rfl
      · refine List.Perm.trans ?_ hp
        have e3 : ls = ls.take j ++ ls[j] :: ls.drop (j + 1) := by
          rw [List.getElem_cons_drop, List.take_append_drop]
        rw [List.append_assoc]
        refine List.Perm.append_left _ ?_
        conv => rhs; rw [e3]
        rw [List.singleton_append]
        exact List.perm_middle.symm
      · rw [List.length_append, List.length_take, List.length_drop]
        omega
    · rintro σ H' ⟨ls, fs, v4, v5, rfl, g, hp, hli⟩
      rw [S_len] at hli
      have e : ls = [] := List.eq_nil_of_length_eq_zero (by omega)
      subst e
      rw [List.append_nil] at hp
      exact ⟨_, rfl, q _ _ g hp⟩

/-! ### a word is drawn -/
theorem scWord : FnScope ["_law_rng", "_law_signs", "_law_most", "_law_k"]
    ["_law_rng", "_law_signs", "_law_most"] (defScope sWord) :=
  ⟨rfl, rfl, rfl, by decide +kernel, rfl, by decide +kernel, by decide +kernel⟩
def spWord : Sp := fun vs H Q _ => ∃ (r : Addr) (gs : List Nat) (m : Int), vs = [.ref r, .str (S gs), .int m] ∧
  0 < gs.length ∧ gs.length ≤ 1000 ∧ 0 ≤ m ∧ m ≤ 1000 ∧ Rng H r ∧
  ∀ H' xs, Go r H H' → (∀ c ∈ xs, c ∈ gs) → (xs.length : Int) ≤ m → Q (.str (S xs)) H'

theorem ok_word {f fD fP : Addr} {fd fdD fdP : FuncData} (F : Fun K "_law_word" "_law_word" sWord f fd)
    (FD : Fun K "_law_draw" "_law_draw" sDraw fD fdD) (bD : Binds K fdD ["_law_rng", "_law_sides"] [])
    (gD : mg "_law_draw" = some (.ref fD))
    (FP : Fun K "_law_pick" "_law_pick" sPick fP fdP) (bP : Binds K fdP ["_law_rng", "_law_things"] [])
    (gP : mg "_law_pick" = some (.ref fP)) (mi : mg "int" = none) (ml : mg "len" = none)
    (mr : mg "range" = none) :
    FnOk P w K mg base CX0 3 f fd ["_law_rng", "_law_signs", "_law_most"] spWord := by
  have GD : FnOk P w K mg base CX0 1 fD fdD ["_law_rng", "_law_sides"] spDraw := ok_draw FD mi ml
  have GP : FnOk P w K mg base CX0 2 fP fdP ["_law_rng", "_law_things"] (spPick K) := ok_pick FP FD bD gD mi ml
  refine F.ok scWord (fun vs H Q E h => ?_) (fun cdv A outer s H vs Q E hr h => ?_)
  · obtain ⟨r, gs, m, rfl, _⟩ := h
    rfl
  · obtain ⟨r, gs, m, rfl, h0, h1, m0, m1, R, q⟩ := h
    have hr1 : Room 1 _ := hr.mono (by decide)
    refine ⟨_, pss_one (ps_ret (pe_join pe_str (pe_lc (own := [("_law_k", 3)]) (g := gName 3) (tt := tYes) rfl scWord.nd
        (pi_range1 rfl mr (pa_cons (pe_call GD hr1 (by rfl) gD FD.kp bD .nil pass0 (pa_cons (pv 0) (pa_cons (pe_op op_add (pv 2) pe_int) pa_nil))) pa_nil))
        (blkOk_by (N := ["_law_rng", "_law_signs", "_law_most", "_law_k"]) (sc := defScope sWord) (by decide +kernel))
        (fun _ _ _ _ _ => pg_name (i := 3) scWord.nd rfl (Or.inl rfl)) (fun _ _ _ _ _ => pts_nil)
        (fun _ _ _ _ _ => pe_call GP hr (by rfl) gP FP.kp bP .nil pass0 (pa_cons (pv 0) (pa_cons (pv 1) pa_nil)))))), ?_⟩
    refine ⟨⟨_, rfl⟩, _, rfl, _, rfl, _, _, rfl, rfl, r, _, rfl, by omega, by omega, R, fun H1 k g1 k0 k1 => ?_⟩
    obtain ⟨n, rfl⟩ := Int.eq_ofNat_of_zero_le k0
    refine ⟨_, rfl, by omega, by omega, fun D nD => ?_⟩
    obtain ⟨xr, er⟩ := g1.rng.ex
    have nDr : D ≠ r := (ne_of_none er nD).symm
    refine lc_range (lo := 0) (n := (n : Int).toNat)
      (fun i H' => ∃ cs : List Nat, H' D = some (.lst (cs.map fun c => V.str (S [c]))) ∧ (∀ c ∈ cs, c ∈ gs) ∧ cs.length = i ∧ Go r H1 H')
      ⟨[], upd_same, (fun c hc => nomatch hc), rfl, (Go.refl g1.rng).same (same_new nD)⟩ ?_ ?_
    · rintro i H' hi ⟨cs, hD, hc, hn, g⟩
      refine ⟨rfl, _, rfl, _, rfl, r, _, rfl, g.rng, .inr ⟨gs, rfl, h0, h1, fun H2 c g2 hcm => ?_⟩⟩
      refine ⟨_, g2.1 _ _ nDr hD, ?_, ?_⟩
      · rw [List.length_map]
        exact small1000 (by omega)
      · refine ⟨cs ++ [c], ?_, fun x hx => ?_, by rw [List.length_append, hn]; rfl, ?_⟩
        · rw [upd_same, List.map_append]
          rfl
        · rcases List.mem_append.mp hx with h | h
          · exact hc x h
          · rw [List.mem_singleton.mp h]; exact hcm
        · exact (g.trans g2).put nD
    · rintro H' ⟨cs, hD, hc, hn, g⟩
      refine ⟨_, D, cs.map (fun c => S [c]), rfl, rfl, .inl (.inl (.inl ?_)), ?_, ?_⟩
      · rw [hD, List.map_map]
        rfl
      · rw [one_len]
        show cs.length + _ * 0 ≤ _
        omega
      · rw [joinC]
        exact q _ _ (g1.trans g) hc (by omega)
end
end Own

namespace Own
open PySem PySem.Spec PyProof.Rows L2 SX
abbrev sLTurned : Stmt := topS 17
abbrev sLAfter : Stmt := topS 18
abbrev sLBack : Stmt := topS 19
abbrev sCheck : Stmt := topS 4
abbrev sTurned : Stmt := topS 5
abbrev sAfter : Stmt := topS 6
abbrev sUndone : Stmt := topS 7
abbrev sOrder : Stmt := topS 8
section
variable {P : Program} {w : World} {K : PySem.W.Frag} {mg : Str → Option Value} {base : Heap}
/-- a text is turned -/
def spTd : Sp := fun vs H Q _ => ∃ gs t xs : List Nat, vs = [.str (S gs), .str (S t), .str (S xs)] ∧ gs.Nodup ∧ gs.length ≤ 1000 ∧
  t.length = gs.length ∧ xs.length ≤ 1000 ∧ (∀ c ∈ xs, c ∈ gs) ∧ ∀ H', Same H H' → Q (.str (S (xs.map (tau gs t)))) H'

theorem scLTurned : FnScope ["_law_signs", "_law_my_turn", "_law_shown", "_law_sign"]
    ["_law_signs", "_law_my_turn", "_law_shown"] (defScope sLTurned) :=
  ⟨rfl, rfl, rfl, by decide +kernel, rfl, by decide +kernel, by decide +kernel⟩
theorem ok_lturned {f : Addr} {fd : FuncData} (F : Fun K "_law_turned" "_law_turned" sLTurned f fd) :
    FnOk P w K mg base CX0 1 f fd ["_law_signs", "_law_my_turn", "_law_shown"] spTd := by
  refine F.ok scLTurned (fun vs H Q E h => ?_) (fun cdv A outer s H vs Q E hr h => ?_)
  · obtain ⟨gs, t, xs, rfl, _⟩ := h
    rfl
  · obtain ⟨gs, t, xs, rfl, nd, hg, ht, hx, hm, q⟩ := h
    refine ⟨_, pss_one (ps_ret (pe_join pe_str (pe_lc (own := [("_law_sign", 3)]) (g := gName 3) (tt := tYes) rfl scLTurned.nd
        (pi_str (pv 2))
        (blkOk_by (N := ["_law_signs", "_law_my_turn", "_law_shown", "_law_sign"]) (sc := defScope sLTurned) (by decide +kernel))
        (fun _ _ _ _ _ => pg_name (i := 3) scLTurned.nd rfl (Or.inl rfl)) (fun _ _ _ _ _ => pts_nil)
        (fun _ _ _ _ _ => pe_ix ix_str (pv 1) (pe_m1 PySem.F.slot_str_index PySem.F.type_str_index mt_sindex (pv 0) (pv 3))
          (fun _ _ => rfl))))), ?_⟩
    refine ⟨⟨_, rfl⟩, _, rfl, _, rfl, fun D nD => ?_⟩
    refine lc_it (walk_str (z := S xs)) (fun i H' => H' = upd H D (.lst (((xs.take i).map (tau gs t)).map fun c => V.str (S [c])))) rfl (fun _ _ _ _ => trivial) ?_ ?_
    · rintro i x H' H'' hi rfl ⟨rfl, c, hc, rfl⟩
      have hc2 : xs[i]? = some c := by rw [← List.getElem?_toArray]; exact hc
      have hcm : c ∈ gs := hm c (List.mem_of_getElem? hc2)
      obtain ⟨rest, ho⟩ := occ1 hcm
      refine ⟨rfl, _, rfl, _, rfl, ⟨_, rfl⟩, _, rfl, _, _, _, rest, rfl, rfl, ho, ?_⟩
      refine ⟨_, _, tau gs t c, rfl, rfl, by rw [S_len]; exact small (by omega), atI_nat (tau_at hcm ht), _, upd_same, ?_, ?_⟩
      · rw [List.length_map, List.length_map, List.length_take]
        exact small1000 (by omega)
      · rw [upd_upd, List.take_add_one, hc2, List.map_append, List.map_append]
        rfl
    · rintro H' rfl
      have e : xs.take (S xs).cps.size = xs := List.take_of_length_le (Nat.le_of_eq rfl)
      rw [e]
      refine ⟨_, D, (xs.map (tau gs t)).map (fun c => S [c]), rfl, rfl, .inl (.inl (.inl ?_)), ?_, ?_⟩
      · rw [upd_same]
        simp only [List.map_map]
        rfl
      · rw [one_len, List.length_map]
        show xs.length + _ * 0 ≤ _
        omega
      · rw [joinC]
        exact q _ (same_new nD)

theorem scLAfter : FnScope ["_law_signs", "_law_mine", "_law_yours"] ["_law_signs", "_law_mine", "_law_yours"] (defScope sLAfter) :=
  ⟨rfl, rfl, rfl, by decide +kernel, rfl, by decide +kernel, by decide +kernel⟩
/-- one turn after the other: the second and the third changed about -/
def spAf : Sp := fun vs H Q E => ∃ x y z : V, vs = [x, y, z] ∧ spTd [x, z, y] H Q E
theorem ok_lafter {f fT : Addr} {fd fdT : FuncData} (F : Fun K "_law_after" "_law_after" sLAfter f fd)
    (FT : Fun K "_law_turned" "_law_turned" sLTurned fT fdT) (bT : Binds K fdT ["_law_signs", "_law_my_turn", "_law_shown"] [])
    (gT : mg "_law_turned" = some (.ref fT)) :
    FnOk P w K mg base CX0 2 f fd ["_law_signs", "_law_mine", "_law_yours"] spAf := by
  have GT : FnOk P w K mg base CX0 1 fT fdT ["_law_signs", "_law_my_turn", "_law_shown"] spTd := ok_lturned FT
  refine F.ok scLAfter (fun vs H Q E h => ?_) (fun cdv A outer s H vs Q E hr h => ?_)
  · obtain ⟨x, y, z, rfl, _⟩ := h
    rfl
  · obtain ⟨x, y, z, rfl, h⟩ := h
    refine ⟨_, pss_one (ps_ret (pe_call GT hr (by rfl) gT FT.kp bT .nil pass0 (pa_cons (pv 0) (pa_cons (pv 2) (pa_cons (pv 1) pa_nil))))), ?_⟩
    exact ⟨_, rfl, _, rfl, _, rfl, h⟩

/-- a turn undone -/
def spUn : Sp := fun vs H Q _ => ∃ gs t : List Nat, vs = [.str (S gs), .str (S t)] ∧ gs.length ≤ 1000 ∧ t.length = gs.length ∧ (∀ c ∈ gs, c ∈ t) ∧
  ∀ H', Same H H' → Q (.str (S (und gs t))) H'
theorem scLBack : FnScope ["_law_signs", "_law_my_turn", "_law_sign"] ["_law_signs", "_law_my_turn"] (defScope sLBack) :=
  ⟨rfl, rfl, rfl, by decide +kernel, rfl, by decide +kernel, by decide +kernel⟩
theorem ok_lback {f : Addr} {fd : FuncData} (F : Fun K "_law_back" "_law_back" sLBack f fd) :
    FnOk P w K mg base CX0 1 f fd ["_law_signs", "_law_my_turn"] spUn := by
  refine F.ok scLBack (fun vs H Q E h => ?_) (fun cdv A outer s H vs Q E hr h => ?_)
  · obtain ⟨gs, t, rfl, _⟩ := h
    rfl
  · obtain ⟨gs, t, rfl, hg, ht, hm, q⟩ := h
    refine ⟨_, pss_one (ps_ret (pe_join pe_str (pe_lc (own := [("_law_sign", 2)]) (g := gName 2) (tt := tYes) rfl scLBack.nd
        (pi_str (pv 0))
        (blkOk_by (N := ["_law_signs", "_law_my_turn", "_law_sign"]) (sc := defScope sLBack) (by decide +kernel))
        (fun _ _ _ _ _ => pg_name (i := 2) scLBack.nd rfl (Or.inl rfl)) (fun _ _ _ _ _ => pts_nil)
        (fun _ _ _ _ _ => pe_ix ix_str (pv 0) (pe_m1 PySem.F.slot_str_index PySem.F.type_str_index mt_sindex (pv 1) (pv 2))
          (fun _ _ => rfl))))), ?_⟩
    refine ⟨⟨_, rfl⟩, _, rfl, _, rfl, fun D nD => ?_⟩
    refine lc_it (walk_str (z := S gs)) (fun i H' => H' = upd H D (.lst (((gs.take i).map (tau t gs)).map fun c => V.str (S [c])))) rfl (fun _ _ _ _ => trivial) ?_ ?_
    · rintro i x H' H'' hi rfl ⟨rfl, c, hc, rfl⟩
      have hc2 : gs[i]? = some c := by rw [← List.getElem?_toArray]; exact hc
      have hcm : c ∈ t := hm c (List.mem_of_getElem? hc2)
      obtain ⟨rest, ho⟩ := occ1 hcm
      refine ⟨rfl, _, rfl, _, rfl, ⟨_, rfl⟩, _, rfl, _, _, _, rest, rfl, rfl, ho, ?_⟩
      refine ⟨_, _, tau t gs c, rfl, rfl, by rw [S_len]; exact small (by omega), atI_nat (tau_at hcm ht.symm), _, upd_same, ?_, ?_⟩
      · rw [List.length_map, List.length_map, List.length_take]
        exact small1000 (by omega)
      · rw [upd_upd, List.take_add_one, hc2, List.map_append, List.map_append]
        rfl
    · rintro H' rfl
      have e : gs.take (S gs).cps.size = gs := List.take_of_length_le (Nat.le_of_eq rfl)
      rw [e]
      refine ⟨_, D, (und gs t).map (fun c => S [c]), rfl, rfl, .inl (.inl (.inl ?_)), ?_, ?_⟩
      · unfold und
        rw [upd_same]
        simp only [List.map_map]
        rfl
      · unfold und
        rw [one_len, List.length_map]
        show gs.length + _ * 0 ≤ _
        omega
      · rw [joinC]
        exact q _ (same_new nD)

/-! ### the program -/
theorem scCheck : FnScope ["letters", "text", "at", "letter"] ["letters", "text"] (defScope sCheck) :=
  ⟨rfl, rfl, rfl, by decide +kernel, rfl, by decide +kernel, by decide +kernel⟩
def spCk : Sp := fun vs H Q _ => ∃ gs xs : List Nat, vs = [.str (S gs), .str (S xs)] ∧ (∀ c ∈ xs, c ∈ gs) ∧ ∀ H', Same H H' → Q .non H'
theorem ok_check {f : Addr} {fd : FuncData} (F : Fun K "check_text" "check_text" sCheck f fd) (me : mg "enumerate" = none) :
    FnOk P w K mg base CX0 1 f fd ["letters", "text"] spCk := by
  refine F.ok scCheck (fun vs H Q E h => ?_) (fun cdv A outer s H vs Q E hr h => ?_)
  · obtain ⟨gs, xs, rfl, _⟩ := h
    rfl
  · obtain ⟨gs, xs, rfl, hm, q⟩ := h
    refine ⟨_, pss_one (ps_for PassesOwn.never rfl (pi_enS (by rfl) me (pa_cons (pv 1) pa_nil))
      (pg_tup rfl (pgs_cons (pg_name (i := 2) scCheck.nd rfl (.inl rfl)) (pgs_cons (pg_name (i := 3) scCheck.nd rfl (.inl rfl)) pgs_nil)))
      (pss_one (ps_if (pt_cmpR op_notIn_sign (pv 3) (pv 0) rfl) pss_never pss_nil))), ?_⟩
    refine ⟨_, rfl, _, rfl, for_it (walkE (z := S xs)) (fun i σ H' => ∃ v2 v3, σ = [some (.str (S gs)), some (.str (S xs)), v2, v3] ∧ Same H H')
      ⟨none, none, rfl, Same.refl _⟩ (fun _ _ _ _ _ => trivial) ?_ ?_⟩
    · rintro i x σ H' H'' hi ⟨v2, v3, rfl, s1⟩ ⟨T, c, rfl, nT, hc, rfl⟩
      have hc2 : xs[i]? = some c := by rw [← List.getElem?_toArray]; exact hc
      have hcm : c ∈ gs := hm c (List.mem_of_getElem? hc2)
      refine ⟨T, _, rfl, .inl (.inl upd_same), rfl, _, _, rfl, _, _, rfl, rfl, ?_⟩
      refine ⟨_, rfl, _, rfl, c, _, rfl, rfl, _, rfl, ?_⟩
      refine iteNS hcm ?_
      exact ⟨_, _, rfl, s1.trans (same_new nT)⟩
    · rintro σ H' ⟨v2, v3, rfl, s1⟩
      exact q _ s1

theorem scTurned : FnScope ["letters", "turn", "text", "into", "letter"] ["letters", "turn", "text"] (defScope sTurned) :=
  ⟨rfl, rfl, rfl, by decide +kernel, rfl, by decide +kernel, by decide +kernel⟩
theorem ok_turned {f fC : Addr} {fd fdC : FuncData} (F : Fun K "turned" "turned" sTurned f fd)
    (FC : Fun K "check_text" "check_text" sCheck fC fdC) (bC : Binds K fdC ["letters", "text"] []) (gC : mg "check_text" = some (.ref fC))
    (me : mg "enumerate" = none) (md : mg "dict" = none) (mz : mg "zip" = none) :
    FnOk P w K mg base CX0 2 f fd ["letters", "turn", "text"] spTd := by
  have GC : FnOk P w K mg base CX0 1 fC fdC ["letters", "text"] spCk := ok_check FC me
  refine F.ok scTurned (fun vs H Q E h => ?_) (fun cdv A outer s H vs Q E hr h => ?_)
  · obtain ⟨gs, t, xs, rfl, _⟩ := h
    rfl
  · obtain ⟨gs, t, xs, rfl, nd, hg, ht, hx, hm, q⟩ := h
    have hu := hu_of hr
    refine ⟨_, pss_cons (ps_expr (pe_call GC hr (by rfl) gC FC.kp bC .nil pass0 (pa_cons (pv 0) (pa_cons (pv 2) pa_nil))))
      (pss_cons (ps_set (i := 3) scTurned.nd rfl (.inr rfl) (pe_dz (by rfl) md (by rfl) mz (pa_cons (pv 0) (pa_cons (pv 1) pa_nil))))
      (pss_one (ps_ret (pe_join pe_str (pe_lc (own := [("letter", 4)]) (g := gName 4) (tt := tYes) rfl scTurned.nd
        (pi_str (pv 2))
        (blkOk_by (N := ["letters", "turn", "text", "into", "letter"]) (sc := defScope sTurned) (by decide +kernel))
        (fun _ _ _ _ _ => pg_name (i := 4) scTurned.nd rfl (Or.inl rfl)) (fun _ _ _ _ _ => pts_nil)
        (fun _ _ _ _ _ => pe_dget hu (pv 3) (pv 4) (fun _ _ => rfl))))))), ?_⟩
    refine ⟨_, rfl, _, rfl, gs, xs, rfl, hm, fun H1 s1 => ?_⟩
    refine ⟨_, rfl, _, rfl, S gs, S t, rfl, ?_, fun d nd1 => ?_⟩
    · show min gs.length t.length ≤ sizeLine
      exact small (by omega)
    refine ⟨⟨_, rfl⟩, _, rfl, _, rfl, fun D nD => ?_⟩
    have ndD : d ≠ D := fun e => by
      rw [← e, upd_same] at nD
      cases nD
    refine lc_it (walk_str (z := S xs)) (fun i H' => H' = upd (upd H1 d (.dK (mergeK [] (zipS (S gs) (S t))))) D (.lst (((xs.take i).map (tau gs t)).map fun c => V.str (S [c])))) rfl (fun _ _ _ _ => trivial) ?_ ?_
    · rintro i x H' H'' hi rfl ⟨rfl, c, hc, rfl⟩
      have hc2 : xs[i]? = some c := by rw [← List.getElem?_toArray]; exact hc
      have hcm : c ∈ gs := hm c (List.mem_of_getElem? hc2)
      have hget : DGet (upd (upd H1 d (.dK (mergeK [] (zipS (S gs) (S t))))) D (.lst (((xs.take i).map (tau gs t)).map fun c => V.str (S [c])))) d
          (.str (S [c])) (some (.str (S [tau gs t c]))) := by
        rw [← dz_get nd ht hcm]
        exact DGet.k (k := Sum.inr (S [c])) (by rw [upd_ne ndD, upd_same])
      refine ⟨rfl, _, rfl, _, rfl, d, _, rfl, hget, _, upd_same, ?_, ?_⟩
      · rw [List.length_map, List.length_map, List.length_take]
        exact small1000 (by omega)
      · rw [upd_upd, List.take_add_one, hc2, List.map_append, List.map_append]
        rfl
    · rintro H' rfl
      have e : xs.take (S xs).cps.size = xs := List.take_of_length_le (Nat.le_of_eq rfl)
      rw [e]
      refine ⟨_, D, (xs.map (tau gs t)).map (fun c => S [c]), rfl, rfl, .inl (.inl (.inl ?_)), ?_, ?_⟩
      · rw [upd_same]
        simp only [List.map_map]
        rfl
      · rw [one_len, List.length_map]
        show xs.length + _ * 0 ≤ _
        omega
      · rw [joinC]
        exact q _ ((s1.trans (same_new nd1)).trans (same_new nD))

theorem scAfter : FnScope ["letters", "one", "other"] ["letters", "one", "other"] (defScope sAfter) :=
  ⟨rfl, rfl, rfl, by decide +kernel, rfl, by decide +kernel, by decide +kernel⟩
theorem ok_after {f fT : Addr} {fd fdT : FuncData} (F : Fun K "after" "after" sAfter f fd)
    (GT : FnOk P w K mg base CX0 2 fT fdT ["letters", "turn", "text"] spTd) (kT : PySem.W.keepIn K (.ref fT) = true)
    (bT : Binds K fdT ["letters", "turn", "text"] []) (gT : mg "turned" = some (.ref fT)) :
    FnOk P w K mg base CX0 3 f fd ["letters", "one", "other"] spAf := by
  refine F.ok scAfter (fun vs H Q E h => ?_) (fun cdv A outer s H vs Q E hr h => ?_)
  · obtain ⟨x, y, z, rfl, _⟩ := h
    rfl
  · obtain ⟨x, y, z, rfl, h⟩ := h
    refine ⟨_, pss_one (ps_ret (pe_call GT hr (by rfl) gT kT bT .nil pass0 (pa_cons (pv 0) (pa_cons (pv 2) (pa_cons (pv 1) pa_nil))))), ?_⟩
    exact ⟨_, rfl, _, rfl, _, rfl, h⟩

theorem scUndone : FnScope ["letters", "turn", "letter"] ["letters", "turn"] (defScope sUndone) :=
  ⟨rfl, rfl, rfl, by decide +kernel, rfl, by decide +kernel, by decide +kernel⟩
theorem ok_undone {f : Addr} {fd : FuncData} (F : Fun K "undone" "undone" sUndone f fd) :
    FnOk P w K mg base CX0 1 f fd ["letters", "turn"] spUn := by
  refine F.ok scUndone (fun vs H Q E h => ?_) (fun cdv A outer s H vs Q E hr h => ?_)
  · obtain ⟨gs, t, rfl, _⟩ := h
    rfl
  · obtain ⟨gs, t, rfl, hg, ht, hm, q⟩ := h
    refine ⟨_, pss_one (ps_ret (pe_join pe_str (pe_lc (own := [("letter", 2)]) (g := gName 2) (tt := tYes) rfl scUndone.nd
        (pi_str (pv 0))
        (blkOk_by (N := ["letters", "turn", "letter"]) (sc := defScope sUndone) (by decide +kernel))
        (fun _ _ _ _ _ => pg_name (i := 2) scUndone.nd rfl (Or.inl rfl)) (fun _ _ _ _ _ => pts_nil)
        (fun _ _ _ _ _ => pe_ix ix_str (pv 0) (pe_m1 PySem.F.slot_str_index PySem.F.type_str_index mt_sindex (pv 1) (pv 2))
          (fun _ _ => rfl))))), ?_⟩
    refine ⟨⟨_, rfl⟩, _, rfl, _, rfl, fun D nD => ?_⟩
    refine lc_it (walk_str (z := S gs)) (fun i H' => H' = upd H D (.lst (((gs.take i).map (tau t gs)).map fun c => V.str (S [c])))) rfl (fun _ _ _ _ => trivial) ?_ ?_
    · rintro i x H' H'' hi rfl ⟨rfl, c, hc, rfl⟩
      have hc2 : gs[i]? = some c := by rw [← List.getElem?_toArray]; exact hc
      have hcm : c ∈ t := hm c (List.mem_of_getElem? hc2)
      obtain ⟨rest, ho⟩ := occ1 hcm
      refine ⟨rfl, _, rfl, _, rfl, ⟨_, rfl⟩, _, rfl, _, _, _, rest, rfl, rfl, ho, ?_⟩
      refine ⟨_, _, tau t gs c, rfl, rfl, by rw [S_len]; exact small (by omega), atI_nat (tau_at hcm ht.symm), _, upd_same, ?_, ?_⟩
      · rw [List.length_map, List.length_map, List.length_take]
        exact small1000 (by omega)
      · rw [upd_upd, List.take_add_one, hc2, List.map_append, List.map_append]
        rfl
    · rintro H' rfl
      have e : gs.take (S gs).cps.size = gs := List.take_of_length_le (Nat.le_of_eq rfl)
      rw [e]
      refine ⟨_, D, (und gs t).map (fun c => S [c]), rfl, rfl, .inl (.inl (.inl ?_)), ?_, ?_⟩
      · unfold und
        rw [upd_same]
        simp only [List.map_map]
        rfl
      · unfold und
        rw [one_len, List.length_map]
        show gs.length + _ * 0 ≤ _
        omega
      · rw [joinC]
        exact q _ (same_new nD)

/-! ### how often -/
theorem scOrder : FnScope ["letters", "turn", "many", "made"] ["letters", "turn"] (defScope sOrder) :=
  ⟨rfl, rfl, rfl, by decide +kernel, rfl, by decide +kernel, by decide +kernel⟩
def spOrd : Sp := fun vs H Q _ => ∃ (gs t : List Nat) (J : Nat), vs = [.str (S gs), .str (S t)] ∧ gs.Nodup ∧ gs.length ≤ 1000 ∧ t.Perm gs ∧
  it gs t J = gs ∧ (∀ k, k < J → it gs t k ≠ gs) ∧ ∀ H', Same H H' → Q (.int ((J : Int) + 1)) H'
theorem ok_order {f fT : Addr} {fd fdT : FuncData} (F : Fun K "order_of" "order_of" sOrder f fd)
    (GT : FnOk P w K mg base CX0 3 fT fdT ["letters", "one", "other"] spAf) (kT : PySem.W.keepIn K (.ref fT) = true)
    (bT : Binds K fdT ["letters", "one", "other"] []) (gT : mg "after" = some (.ref fT)) :
    FnOk P w K mg base CX0 4 f fd ["letters", "turn"] spOrd := by
  refine F.ok scOrder (fun vs H Q E h => ?_) (fun cdv A outer s H vs Q E hr h => ?_)
  · obtain ⟨gs, t, J, rfl, _⟩ := h
    rfl
  · obtain ⟨gs, t, J, rfl, nd, hg, hp, hJ, hk, q⟩ := h
    refine ⟨_, pss_cons (ps_set (i := 2) scOrder.nd rfl (.inl rfl) pe_int)
      (pss_cons (ps_set (i := 3) scOrder.nd rfl (.inl rfl) (pv 1))
      (pss_cons (ps_while PassesOwn.never (pt_cmpR op_ne (pv 3) (pv 0) (nomark _))
        (pss_cons (ps_set (i := 3) scOrder.nd rfl (.inl rfl) (pe_call GT hr (by rfl) gT kT bT .nil pass0 (pa_cons (pv 0) (pa_cons (pv 3) (pa_cons (pv 1) pa_nil)))))
        (pss_one (ps_aug (i := 2) scOrder.nd rfl (.inl rfl) pe_int ip_add))))
      (pss_one (ps_ret (pv 2))))), ?_⟩
    refine ⟨_, rfl, ?_⟩
    refine ⟨fun m σ H' => ∃ j, j + m = J ∧ σ = [some (.str (S gs)), some (.str (S t)), some (.int ((j : Int) + 1)), some (.str (S (it gs t j)))] ∧ Same H H',
      ⟨J, 0, by omega, rfl, Same.refl _⟩, ?_⟩
    rintro m σ H' ⟨j, hj, rfl, s1⟩
    refine ⟨_, rfl, _, rfl, rfl, _, rfl, ?_⟩
    by_cases hm : m = 0
    · have e : j = J := by omega
      subst e
      rw [hJ, decide_eq_true rfl]
      exact ⟨_, rfl, q _ s1⟩
    · have ne : it gs t j ≠ gs := hk j (by omega)
      have ne2 : ¬ (V.str (S (it gs t j)) = V.str (S gs)) := fun e => ne (S_inj (V.str.inj e))
      rw [decide_eq_false ne2]
      obtain ⟨l1, l2⟩ := it_mem hp j
      refine ⟨fun σ' H'' => σ' = [some (.str (S gs)), some (.str (S t)), some (.int (((j + 1 : Nat) : Int) + 1)), some (.str (S (it gs t (j + 1))))] ∧ Same H H'',
        fun σ' H'' ⟨e1, e2⟩ => ⟨m - 1, by omega, j + 1, by omega, e1, e2⟩, ?_⟩
      refine ⟨_, rfl, _, rfl, _, rfl, _, _, _, rfl, gs, t, it gs t j, rfl, nd, hg, hp.length_eq, by omega, l2, fun H2 s2 => ?_⟩
      refine ⟨_, rfl, _, _, rfl, rfl, ?_, s1.trans s2⟩
      show [_, _, some (V.int ((j : Int) + 1 + 1)), _] = _
      rfl
end
end Own

namespace Own
open PySem PySem.Spec PyProof.Rows L2 SX RZ
abbrev sSame : Stmt := topS 13
/-! ### equal data -/
def Flat : V → Prop
  | .non => True
  | .bl _ => True
  | .int _ => True
  | .str _ => True
  | _ => False
/-- two values that are the same data, less than n deep -/
def Eqd (K : PySem.W.Frag) (H : Hp) : Nat → V → V → Prop
  | 0, _, _ => False
  | n + 1, x, y => (x = y ∧ Flat x) ∨ ∃ a b xs ys, x = .ref a ∧ y = .ref b ∧
      ((SqL K H a xs ∧ SqL K H b ys) ∨ (SqT K H a xs ∧ SqT K H b ys)) ∧ xs.length ≤ 1000 ∧ xs.length = ys.length ∧
      ∀ (i : Nat) u v, xs[i]? = some u → ys[i]? = some v → Eqd K H n u v
theorem same_t {K : PySem.W.Frag} {H H' : Hp} {a : Addr} {xs : List V} (e : Same H H') (h : SqT K H a xs) : SqT K H' a xs := by
  rcases h with (h | ⟨o, h⟩) | h
  · exact .inl (.inl (e _ _ h))
  · exact .inl (.inr ⟨o, e _ _ h⟩)
  · exact .inr h
theorem Eqd.same {K : PySem.W.Frag} {H H' : Hp} (s : Same H H') : ∀ {n : Nat} {x y : V}, Eqd K H n x y → Eqd K H' n x y
  | 0, _, _, h => h.elim
  | n + 1, x, y, h => by
    rcases h with h | ⟨a, b, xs, ys, e1, e2, h, l1, l2, k⟩
    · exact Or.inl h
    · refine Or.inr ⟨a, b, xs, ys, e1, e2, ?_, l1, l2, fun i u v hu hv => (k i u v hu hv).same s⟩
      rcases h with ⟨h1, h2⟩ | ⟨h1, h2⟩
      · exact .inl ⟨s.seq h1, s.seq h2⟩
      · exact .inr ⟨same_t s h1, same_t s h2⟩
theorem Eqd.refl {K : PySem.W.Frag} {H : Hp} {n : Nat} {x : V} (h : Flat x) : Eqd K H (n + 1) x x := Or.inl ⟨rfl, h⟩
/-- two lists of flat things -/
theorem Eqd.lst {K : PySem.W.Frag} {H : Hp} {n : Nat} {a b : Addr} {xs : List V} (h1 : H a = some (.lst xs)) (h2 : H b = some (.lst xs)) (hl : xs.length ≤ 1000) (hf : ∀ x ∈ xs, Flat x) :
    Eqd K H (n + 2) (.ref a) (.ref b) := by
  refine Or.inr ⟨a, b, xs, xs, rfl, rfl, .inl ⟨.inl (.inl h1), .inl (.inl h2)⟩, hl, rfl, fun i u v hu hv => ?_⟩
  have e := Option.some.inj (hu.symm.trans hv)
  subst e
  exact Eqd.refl (hf _ (List.mem_of_getElem? hu))
theorem tyL {K : PySem.W.Frag} {H : Hp} {a : Addr} {xs : List V} (h : SqL K H a xs) : TyX K H (.ref a) (.type "list") := by
  rcases h with (h | ⟨o, h⟩) | ⟨o, its, n, hk, hc, _⟩
  · exact .base (.lst h)
  · exact .base (.frz h)
  · exact .kList hk hc
theorem tyT {K : PySem.W.Frag} {H : Hp} {a : Addr} {xs : List V} (h : SqT K H a xs) : TyX K H (.ref a) (.type "tuple") := by
  rcases h with (h | ⟨o, h⟩) | ⟨o, its, n, hk, hc, _⟩
  · exact .base (.tup h)
  · exact .fTuple h
  · exact .kTuple hk hc
theorem walk_zT {K : PySem.W.Frag} {a b : Addr} {xs ys : List V} {n : Nat} (hn : n = min xs.length ys.length) :
    Walk (ItzT K a b) n (fun H => SqT K H a xs ∧ SqT K H b ys) (YPair (fun i => xs[i]?) (fun i => ys[i]?)) where
  goes := fun i H hi q => by
    have h1 : i < xs.length := by omega
    have h2 : i < ys.length := by omega
    exact ⟨xs, ys, xs[i], ys[i], q.1, q.2, List.getElem?_eq_getElem h1, List.getElem?_eq_getElem h2⟩
  stops := fun H q => ⟨xs, ys, q.1, q.2, by omega⟩
  yields := fun i H v H' _ q y => by
    obtain ⟨T, x, z, h1, h2, h3, h4, h5⟩ := y
    exact ⟨T, x, z, h1, h2, h3, h4 xs q.1, h5 ys q.2⟩

theorem kit2 {K : PySem.W.Frag} {t a b : String} {r s : Bool} (h1 : kitB t a = some r) (h2 : kitB t b = some s) :
    PySem.W.kitAny K (.type t) [.type a, .type b] = some (r || s) := by
  refine kitAny_cons (kit_ty h1) (fun e => ?_) (fun e => by rw [e]; rfl)
  subst e
  refine kitAny_cons (kit_ty h2) (fun e => ?_) (fun e => by rw [e]; rfl)
  subst e
  rfl
theorem flat_ty {K : PySem.W.Frag} {x : V} (h : Flat x) : ∃ t, (∀ H, TyX K H x (.type t)) ∧ kitB t "list" = some false ∧ kitB t "tuple" = some false ∧
    (∃ b, kitB t "bool" = some b) ∧ (∃ b, kitB t "int" = some b) ∧ ∃ b, kitB t "str" = some b := by
  cases x with
  | non => exact ⟨"NoneType", fun _ => .base .non, by decide +kernel, by decide +kernel, ⟨false, by decide +kernel⟩, ⟨false, by decide +kernel⟩, ⟨false, by decide +kernel⟩⟩
  | bl b => exact ⟨"bool", fun _ => .base (.bl b), by decide +kernel, by decide +kernel, ⟨true, by decide +kernel⟩, ⟨true, by decide +kernel⟩, ⟨false, by decide +kernel⟩⟩
  | int i => exact ⟨"int", fun _ => .base (.int i), by decide +kernel, by decide +kernel, ⟨false, by decide +kernel⟩, ⟨true, by decide +kernel⟩, ⟨false, by decide +kernel⟩⟩
  | str z => exact ⟨"str", fun _ => .base (.str z), by decide +kernel, by decide +kernel, ⟨false, by decide +kernel⟩, ⟨false, by decide +kernel⟩, ⟨true, by decide +kernel⟩⟩
  | _ => exact h.elim

section
variable {P : Program} {w : World} {K : PySem.W.Frag} {mg : Str → Option Value} {base : Heap}
def spSm (K : PySem.W.Frag) (n : Nat) : Sp := fun vs H Q _ => ∃ x y, vs = [x, y] ∧ Eqd K H n x y ∧ ∀ H', Same H H' → Q (.bl true) H'
theorem scSame : FnScope ["_law_found", "_law_due", "_law_a", "_law_b"] ["_law_found", "_law_due"] (defScope sSame) :=
  ⟨rfl, rfl, rfl, by decide +kernel, rfl, by decide +kernel, by decide +kernel⟩
structure SameT (mg : Str → Option Value) : Prop where
  isi : mg "isinstance" = none
  list : mg "list" = none
  tuple : mg "tuple" = none
  len : mg "len" = none
  all : mg "all" = none
  zip : mg "zip" = none
  bool : mg "bool" = none
  int : mg "int" = none
  str : mg "str" = none

theorem same_step {f : Addr} {fd : FuncData} {n : Nat} (F : Fun K "_law_same" "_law_same" sSame f fd) (T : SameT mg)
    (bS : Binds K fd ["_law_found", "_law_due"] []) (gS : mg "_law_same" = some (.ref f))
    (GS : FnOk P w K mg base CX0 n f fd ["_law_found", "_law_due"] (spSm K n)) :
    FnOk P w K mg base CX0 (n + 1) f fd ["_law_found", "_law_due"] (spSm K (n + 1)) := by
  refine F.ok scSame (fun vs H Q E h => ?_) (fun cdv A outer s H vs Q E hr h => ?_)
  · obtain ⟨x, y, rfl, _⟩ := h
    rfl
  · obtain ⟨x, y, rfl, h, q⟩ := h
    refine ⟨_, pss_cons (ps_if (pt_val (pe_callB call_isiT (by rfl) T.isi (by decide +kernel) (pa_cons (pv 1) (pa_cons
          (pe_tup (pa_cons (pe_bltn (v := .ty "list") (u := .type "list") (by rfl) T.list (by decide +kernel) rfl)
            (pa_cons (pe_bltn (v := .ty "tuple") (u := .type "tuple") (by rfl) T.tuple (by decide +kernel) rfl) pa_nil))) pa_nil))))
        (pss_cons (ps_if (PW.pt (pw_or
            (pt_cmpR op_ne (pe_callB call_isi (by rfl) T.isi (by decide +kernel) (pa_cons (pv 0) (pa_cons (pe_bltn (v := .ty "list") (u := .type "list") (by rfl) T.list (by decide +kernel) rfl) pa_nil)))
              (pe_callB call_isi (by rfl) T.isi (by decide +kernel) (pa_cons (pv 1) (pa_cons (pe_bltn (v := .ty "list") (u := .type "list") (by rfl) T.list (by decide +kernel) rfl) pa_nil))) (nomark _))
            (pw_or1 (pt_cmpR op_ne (pe_callB call_isi (by rfl) T.isi (by decide +kernel) (pa_cons (pv 0) (pa_cons (pe_bltn (v := .ty "tuple") (u := .type "tuple") (by rfl) T.tuple (by decide +kernel) rfl) pa_nil)))
              (pe_callB call_isi (by rfl) T.isi (by decide +kernel) (pa_cons (pv 1) (pa_cons (pe_bltn (v := .ty "tuple") (u := .type "tuple") (by rfl) T.tuple (by decide +kernel) rfl) pa_nil))) (nomark _)))))
          pss_never pss_nil)
        (pss_one (ps_ret (pe_and (pe_cmpR op_eq (pe_callB call_len (by rfl) T.len PySem.boot_len (pa_cons (pv 0) pa_nil)) (pe_callB call_len (by rfl) T.len PySem.boot_len (pa_cons (pv 1) pa_nil)) (nomark _))
          (pe_one (pe_callB (cr_all rfl) (by rfl) T.all (by decide +kernel) (pa_cons
            (pe_lc (own := [("_law_a", 2), ("_law_b", 3)]) (g := gTup K 2 (gCons (gName 2) (gCons (gName 3) gNil))) (tt := tYes) rfl scSame.nd
              (pi_zipA (by rfl) T.zip (pa_cons (pv 0) (pa_cons (pv 1) pa_nil)))
              (blkOk_by (N := ["_law_found", "_law_due", "_law_a", "_law_b"]) (sc := defScope sSame) (by decide +kernel))
              (fun _ _ _ _ _ => pg_tup rfl (pgs_cons (pg_name (i := 2) scSame.nd rfl (Or.inl rfl)) (pgs_cons (pg_name (i := 3) scSame.nd rfl (Or.inl rfl)) pgs_nil)))
              (fun _ _ _ _ _ => pts_nil)
              (fun _ _ _ _ _ => pe_call GS hr (by rfl) gS F.kp bS .nil pass0 (pa_cons (pv 2) (pa_cons (pv 3) pa_nil)))) pa_nil)))))))
        pss_nil)
      (pss_cons (ps_if (PW.pt (pw_or (pt_cmpR op_isN (pv 1) pe_non (nomark _)) (pw_or1 (pt_cmpR op_isN (pv 0) pe_non (nomark _)))))
        (pss_one (ps_ret (pe_and (pe_cmpR op_isN (pv 1) pe_non (nomark _)) (pe_one (pe_cmpR op_isN (pv 0) pe_non (nomark _)))))) pss_nil)
      (pss_cons (ps_if (PW.pt (pw_or
            (pt_cmpR op_ne (pe_callB call_isi (by rfl) T.isi (by decide +kernel) (pa_cons (pv 1) (pa_cons (pe_bltn (v := .ty "bool") (u := .type "bool") (by rfl) T.bool (by decide +kernel) rfl) pa_nil)))
              (pe_callB call_isi (by rfl) T.isi (by decide +kernel) (pa_cons (pv 0) (pa_cons (pe_bltn (v := .ty "bool") (u := .type "bool") (by rfl) T.bool (by decide +kernel) rfl) pa_nil))) (nomark _))
            (pw_or1 (pt_cmpR op_ne (pe_callB call_isi (by rfl) T.isi (by decide +kernel) (pa_cons (pv 1) (pa_cons (pe_bltn (v := .ty "int") (u := .type "int") (by rfl) T.int (by decide +kernel) rfl) pa_nil)))
              (pe_callB call_isi (by rfl) T.isi (by decide +kernel) (pa_cons (pv 0) (pa_cons (pe_bltn (v := .ty "int") (u := .type "int") (by rfl) T.int (by decide +kernel) rfl) pa_nil))) (nomark _)))))
          pss_never pss_nil)
      (pss_one (ps_ret (pe_and (pe_cmpR op_eq (pe_callB call_isi (by rfl) T.isi (by decide +kernel) (pa_cons (pv 1) (pa_cons (pe_bltn (v := .ty "str") (u := .type "str") (by rfl) T.str (by decide +kernel) rfl) pa_nil)))
              (pe_callB call_isi (by rfl) T.isi (by decide +kernel) (pa_cons (pv 0) (pa_cons (pe_bltn (v := .ty "str") (u := .type "str") (by rfl) T.str (by decide +kernel) rfl) pa_nil))) (nomark _))
        (pe_one (pe_cmpR op_eq (pv 0) (pv 1) (nomark _)))))))), ?_⟩
    rcases h with ⟨rfl, hf⟩ | ⟨a, b, xs, ys, rfl, rfl, hab, l1, l2, k⟩
    · obtain ⟨t, hty, k1, k2, ⟨b1, k3⟩, ⟨b2, k4⟩, ⟨b3, k5⟩⟩ := flat_ty (K := K) hf
      refine ⟨_, rfl, (by show 2 ≤ sizeLine; decide), fun tp ntp => ?_⟩
      have s1 := same_new (o := .tup [.ty "list", .ty "tuple"]) ntp
      refine ⟨x, tp, _, .type t, [.type "list", .type "tuple"], false, rfl, upd_same, .cons (.ty _) (.cons (.ty _) .nil), hty _, kit2 k1 k2, false, rfl, iteF ?_⟩
      by_cases hx : x = .non
      · subst hx
        refine ⟨_, rfl, rfl, _, rfl, ?_⟩
        rw [decide_eq_true rfl]
        refine ⟨_, rfl, rfl, true, by rw [decide_eq_true rfl], iteT ⟨_, rfl, rfl, ?_⟩⟩
        rw [decide_eq_true rfl]
        exact q _ s1
      · refine ⟨_, rfl, rfl, _, rfl, ?_⟩
        rw [decide_eq_false hx]
        refine ⟨_, rfl, rfl, _, rfl, ?_⟩
        rw [decide_eq_false hx]
        refine ⟨_, rfl, x, .ty "bool", .type t, .type "bool", b1, rfl, .ty _, hty _, kit_ty k3, _, rfl, x, .ty "bool", .type t, .type "bool", b1, rfl, .ty _, hty _, kit_ty k3, rfl, _, rfl, ?_⟩
        refine iteNS rfl ?_
        refine ⟨_, rfl, x, .ty "int", .type t, .type "int", b2, rfl, .ty _, hty _, kit_ty k4, _, rfl, x, .ty "int", .type t, .type "int", b2, rfl, .ty _, hty _, kit_ty k4, rfl, _, rfl, ?_⟩
        refine iteNS rfl ?_
        refine ⟨_, rfl, x, .ty "str", .type t, .type "str", b3, rfl, .ty _, hty _, kit_ty k5, _, rfl, x, .ty "str", .type t, .type "str", b3, rfl, .ty _, hty _, kit_ty k5, rfl, true, by rw [decide_eq_true rfl], iteT ?_⟩
        refine ⟨_, rfl, _, rfl, ?_, ?_⟩
        · cases x with
          | non => exact absurd rfl hx
          | bl b => rfl
          | int i => rfl
          | str z => rfl
          | _ => exact hf.elim
        · rw [decide_eq_true rfl]
          exact q _ s1
    · refine ⟨_, rfl, (by show 2 ≤ sizeLine; decide), fun tp ntp => ?_⟩
      have s1 := same_new (o := .tup [.ty "list", .ty "tuple"]) ntp
      have turn : ∀ (D : Addr) (nD : (upd H tp (.tup [.ty "list", .ty "tuple"])) D = none) (i : Nat) (x : V) (H' H'' : Hp),
          (Same (upd H tp (.tup [.ty "list", .ty "tuple"])) H' ∧ H' D = some (.lst ((List.replicate i true).map V.bl))) → i < xs.length →
          YPair (fun i => xs[i]?) (fun i => ys[i]?) i H' x H'' →
          gTup K 2 (gCons (gName 2) (gCons (gName 3) gNil)) x [some (.ref a), some (.ref b), none, none] H'' fun σ2 H2 =>
            wipe σ2 [2, 3] = wipe [some (.ref a), some (.ref b), none, none] [2, 3] ∧ tYes σ2 H2 fun c H3 =>
            if c = true then tCall (spSm K n) [] E0 (tCons (tVar 2) (tCons (tVar 3) tNil)) σ2 H3 fun y H4 => ∃ acc, H4 D = some (.lst acc) ∧ acc.length < sizeLine ∧
              (Same (upd H tp (.tup [.ty "list", .ty "tuple"])) (upd H4 D (.lst (acc ++ [y]))) ∧ (upd H4 D (.lst (acc ++ [y]))) D = some (.lst ((List.replicate (i + 1) true).map V.bl)))
            else (Same (upd H tp (.tup [.ty "list", .ty "tuple"])) H3 ∧ H3 D = some (.lst ((List.replicate (i + 1) true).map V.bl))) := by
        rintro D nD i x H' H'' ⟨sm, hD⟩ hi ⟨T, u, v, rfl, nT, rfl, hu, hv⟩
        have s2 := same_new (o := .tup [u, v]) nT
        refine ⟨T, _, rfl, .inl (.inl upd_same), rfl, _, _, rfl, _, _, rfl, rfl, rfl, ?_⟩
        refine ⟨_, rfl, _, rfl, u, v, rfl, (k i u v hu hv).same ((s1.trans sm).trans s2), fun H4 s4 => ?_⟩
        refine ⟨_, s4 _ _ (s2 _ _ hD), ?_, fun b o e => ?_, ?_⟩
        · rw [List.length_map, List.length_replicate]
          exact small1000 (by omega)
        · rw [upd_ne (ne_of_none e nD)]
          exact s4 _ _ (s2 _ _ (sm _ _ e))
        · rw [upd_same, List.replicate_succ', List.map_append]
          rfl
      have fin : ∀ (D : Addr) (H' : Hp), (Same (upd H tp (.tup [.ty "list", .ty "tuple"])) H' ∧ H' D = some (.lst ((List.replicate xs.length true).map V.bl))) →
          rAll K [.ref D] H' fun v H' => Q v H' := by
        rintro D H' ⟨sm, hD⟩
        refine ⟨D, _, rfl, .inl (.inl hD), ?_⟩
        have e : (List.replicate xs.length true).all id = true := by
          rw [List.all_eq_true]
          intro c hc
          rw [List.eq_of_mem_replicate hc]
          rfl
        rw [e]
        exact q _ (s1.trans sm)
      rcases hab with ⟨ha, hb⟩ | ⟨ha, hb⟩
      · have ha := s1.seq ha
        have hb := s1.seq hb
        refine ⟨.ref b, tp, _, .type "list", [.type "list", .type "tuple"], true, rfl, upd_same, .cons (.ty _) (.cons (.ty _) .nil), tyL hb, kit2 (r := true) (s := false) (by decide +kernel) (by decide +kernel), true, rfl, iteT ?_⟩
        refine ⟨_, rfl, .ref a, .ty "list", .type "list", .type "list", true, rfl, .ty _, tyL ha, kit_ty (by decide +kernel), _, rfl, .ref b, .ty "list", .type "list", .type "list", true, rfl, .ty _, tyL hb, kit_ty (by decide +kernel), rfl, _, rfl, ?_⟩
        refine iteNS rfl ?_
        refine ⟨_, rfl, .ref a, .ty "tuple", .type "list", .type "tuple", false, rfl, .ty _, tyL ha, kit_ty (by decide +kernel), _, rfl, .ref b, .ty "tuple", .type "list", .type "tuple", false, rfl, .ty _, tyL hb, kit_ty (by decide +kernel), rfl, _, rfl, ?_⟩
        refine iteNS rfl ?_
        refine ⟨_, rfl, _, xs.length, rfl, .inl ⟨_, ha, rfl⟩, _, rfl, _, xs.length, rfl, .inl ⟨_, hb, l2⟩, rfl, true, by rw [decide_eq_true rfl], iteT ?_⟩
        refine ⟨_, rfl, _, rfl, a, b, xs, ys, rfl, .inl ⟨ha, hb, fun D nD => ?_⟩⟩
        refine lc_it (walk_zip (K := K) (a := a) (b := b) (xs := xs) (ys := ys) (n := xs.length) (by omega))
          (fun i H' => Same (upd H tp (.tup [.ty "list", .ty "tuple"])) H' ∧ H' D = some (.lst ((List.replicate i true).map V.bl)))
          ⟨same_new nD, upd_same⟩ (fun i H' _ ⟨sm, _⟩ => ⟨sm.seq ha, sm.seq hb⟩) (fun i x H' H'' hi p y => turn D nD i x H' H'' p hi y) (fun H' p => fin D H' p)
      · have ha := same_t s1 ha
        have hb := same_t s1 hb
        refine ⟨.ref b, tp, _, .type "tuple", [.type "list", .type "tuple"], true, rfl, upd_same, .cons (.ty _) (.cons (.ty _) .nil), tyT hb, kit2 (r := false) (s := true) (by decide +kernel) (by decide +kernel), true, rfl, iteT ?_⟩
        refine ⟨_, rfl, .ref a, .ty "list", .type "tuple", .type "list", false, rfl, .ty _, tyT ha, kit_ty (by decide +kernel), _, rfl, .ref b, .ty "list", .type "tuple", .type "list", false, rfl, .ty _, tyT hb, kit_ty (by decide +kernel), rfl, _, rfl, ?_⟩
        refine iteNS rfl ?_
        refine ⟨_, rfl, .ref a, .ty "tuple", .type "tuple", .type "tuple", true, rfl, .ty _, tyT ha, kit_ty (by decide +kernel), _, rfl, .ref b, .ty "tuple", .type "tuple", .type "tuple", true, rfl, .ty _, tyT hb, kit_ty (by decide +kernel), rfl, _, rfl, ?_⟩
        refine iteNS rfl ?_
        refine ⟨_, rfl, _, xs.length, rfl, .inr ⟨_, ha, rfl⟩, _, rfl, _, xs.length, rfl, .inr ⟨_, hb, l2⟩, rfl, true, by rw [decide_eq_true rfl], iteT ?_⟩
        refine ⟨_, rfl, _, rfl, a, b, xs, ys, rfl, .inr ⟨ha, hb, fun D nD => ?_⟩⟩
        refine lc_it (walk_zT (K := K) (a := a) (b := b) (xs := xs) (ys := ys) (n := xs.length) (by omega))
          (fun i H' => Same (upd H tp (.tup [.ty "list", .ty "tuple"])) H' ∧ H' D = some (.lst ((List.replicate i true).map V.bl)))
          ⟨same_new nD, upd_same⟩ (fun i H' _ ⟨sm, _⟩ => ⟨same_t sm ha, same_t sm hb⟩) (fun i x H' H'' hi p y => turn D nD i x H' H'' p hi y) (fun H' p => fin D H' p)

theorem ok_same {f : Addr} {fd : FuncData} (F : Fun K "_law_same" "_law_same" sSame f fd) (T : SameT mg)
    (bS : Binds K fd ["_law_found", "_law_due"] []) (gS : mg "_law_same" = some (.ref f)) :
    ∀ n, FnOk P w K mg base CX0 n f fd ["_law_found", "_law_due"] (spSm K n)
  | 0 => ⟨fun vs H Q E h => (let ⟨_, _, _, h, _⟩ := h; h.elim), fun A outer s H args us vs Q E _ _ _ _ h => (let ⟨_, _, _, h, _⟩ := h; h.elim)⟩
  | n + 1 => same_step F T bS gS (ok_same F T bS gS n)
end
end Own

namespace Own
open PySem PySem.Spec PyProof.Rows L2 SX
abbrev sLaw : Stmt := topS 20
/-! ### calls in short -/
structure Cl (P : Program) (w : World) (K : PySem.W.Frag) (mg : Str → Option Value) (base : Heap) (x : Str) (k : Nat) (ps : List Str) (sp : Sp) (f : Addr) (fd : FuncData) : Prop where
  ok : FnOk P w K mg base CX0 k f fd ps sp
  gl : mg x = some (.ref f)
  kp : PySem.W.keepIn K (.ref f) = true
  bd : Binds K fd ps []
section
variable {X : Cx} {k j : Nat} {f : Addr} {fd : FuncData} {ps ks : List Str} {sp : Sp} {x : Str} {p pos : Pos} {e : Expr} {es : List Expr} {kws : List Keyword} {t tk : TA}
theorem pe_cl (C : Cl X.prog X.w X.K X.mg X.base x k ps sp f fd) (hr : Room j X.A) (hk : k ≤ j) (hg : Gl X x) (ha : PA X (e :: es) t)
    (hdb : (x == ("__debug__" : Str)) = false := by decide) (he : starEach (e :: es) X.env = (false, eval e X.env) :: starEach es X.env := by rfl)
    (hpl : (backTo pos (starEach es X.env)).any (·.1) = false := by rfl) :
    PE X (.Call (.Name x p) (e :: es) [] pos) (tCall sp [] E0 t) :=
  pe_call C.ok (hr.mono hk) hg C.gl C.kp C.bd .nil pass0 ha hdb he hpl
/-- f(k = v, ..) -/
theorem pe_kw {g : List Value → List Value → List Value} {gV : List V → List V → List V}
    (C : Cl X.prog X.w X.K X.mg X.base x k ps sp f fd) (hr : Room j X.A) (hk : k ≤ j) (hg : Gl X x)
    (hb : KBinds X.K fd ps ks g gV) (hkw : PK X kws tk)
    (hall : (backToKw pos (keywordEach kws X.env)).all (·.1.isSome) = true := by rfl)
    (hks : (backToKw pos (keywordEach kws X.env)).filterMap (·.1) = ks := by rfl)
    (hdb : (x == ("__debug__" : Str)) = false := by decide)
    (hpl : ((backTo pos (starEach [] X.env)).any (·.1) || (backToKw pos (keywordEach kws X.env)).any (·.1.isNone)) = false := by rfl) :
    PE X (.Call (.Name x p) [] kws pos) (tCallK sp gV E0 tNil tk) := by
  refine ⟨fun pins s σ H Q I h => ?_⟩
  refine wpAny_Call_Name_kw (ld_glob I hg C.gl ?_ hdb)
  refine PySem.W.callWith_KW0 (h₀ := X.base) I.ok.mod.kin C.kp hall ?_ hpl
  refine thn (hkw.run pos pins s σ H _ I h) fun ws s2 ⟨zs, H2, I2, rz, q2⟩ => ⟨I2.kIn, ?_⟩
  rw [hks]
  exact run_fnk (us := []) (vs := []) C.ok (hr.mono hk) hb pass0 I2 .nil rz q2
end
/-- three keywords, from the last to the first; two -/
def rev3 {α : Type} : List α → List α → List α
  | [], [a, b, c] => [c, b, a]
  | _, _ => []
def rev2 {α : Type} : List α → List α → List α
  | [], [a, b] => [b, a]
  | _, _ => []
theorem rev3_rel {vs : List V} {us : List Value} {zs : List V} {ws : List Value} (r : Vals vs us) (z : Vals zs ws) : Vals (rev3 vs zs) (rev3 us ws) := by
  cases r with
  | cons _ _ => exact .nil
  | nil =>
    cases z with
    | nil => exact .nil
    | cons a z =>
      cases z with
      | nil => exact .nil
      | cons b z =>
        cases z with
        | nil => exact .nil
        | cons c z =>
          cases z with
          | nil => exact .cons c (.cons b (.cons a .nil))
          | cons _ _ => exact .nil
theorem rev2_rel {vs : List V} {us : List Value} {zs : List V} {ws : List Value} (r : Vals vs us) (z : Vals zs ws) : Vals (rev2 vs zs) (rev2 us ws) := by
  cases r with
  | cons _ _ => exact .nil
  | nil =>
    cases z with
    | nil => exact .nil
    | cons a z =>
      cases z with
      | nil => exact .nil
      | cons b z =>
        cases z with
        | nil => exact .cons b (.cons a .nil)
        | cons _ _ => exact .nil
theorem kb_after {K : PySem.W.Frag} {f : Addr} {fd : FuncData} (F : Fun K "after" "after" sAfter f fd) :
    KBinds K fd ["letters", "one", "other"] ["other", "one", "letters"] rev3 rev3 := by
  refine ⟨fun s us ws _ hl => ?_, fun r z => rev3_rel r z⟩
  obtain ⟨oc, od, kV, doc, pm, an, cdv, ct, osl, rfl, lk, hcd⟩ := F.ex
  match us, ws, hl with
  | [], [a, b, c], _ => exact .of_eq rfl
theorem kb_undone {K : PySem.W.Frag} {f : Addr} {fd : FuncData} (F : Fun K "undone" "undone" sUndone f fd) :
    KBinds K fd ["letters", "turn"] ["turn", "letters"] rev2 rev2 := by
  refine ⟨fun s us ws _ hl => ?_, fun r z => rev2_rel r z⟩
  obtain ⟨oc, od, kV, doc, pm, an, cdv, ct, osl, rfl, lk, hcd⟩ := F.ex
  match us, ws, hl with
  | [], [a, b], _ => exact .of_eq rfl
end Own

namespace Own
open PySem PySem.Spec PyProof.Rows L2 SX
abbrev lawN : List Str := ["_law_script", "_law_rng", "_law_my_turn", "_law_good", "_law_mine", "_law_yours", "_law_shown", "_law_both", "_law_due", "_law_found", "_law_here", "_law_many", "_law_k"]
theorem scLaw : FnScope lawN ["_law_script"] (defScope sLaw) :=
  ⟨rfl, rfl, rfl, by decide +kernel, rfl, by decide +kernel, by decide +kernel⟩
def spLaw (K : PySem.W.Frag) : Sp := fun vs H Q _ => ∃ (a : Addr) (ns : List Int), vs = [.ref a] ∧ SqL K H a (ns.map V.int) ∧ ∀ H', Q (.bl true) H'
section
variable {P : Program} {w : World} {K : PySem.W.Frag} {mg : Str → Option Value} {base : Heap}
variable {f1 f2 f3 f4 f5 f6 f7 f8 f9 f10 f11 : Addr} {fd1 fd2 fd3 fd4 fd5 fd6 fd7 fd8 fd9 fd10 fd11 : FuncData}
theorem ok_law {f : Addr} {fd : FuncData} (F : Fun K "law" "law" sLaw f fd) (mr : mg "range" = none)
    (c1 : Cl P w K mg base "_law_draws" 1 ["_law_script"] (spDraws K) f1 fd1)
    (c2 : Cl P w K mg base "_law_letters" 3 ["_law_rng", "_law_most"] spLetters f2 fd2)
    (c3 : Cl P w K mg base "_law_turn" 2 ["_law_rng", "_law_signs"] spTurn f3 fd3)
    (c4 : Cl P w K mg base "_law_word" 3 ["_law_rng", "_law_signs", "_law_most"] spWord f4 fd4)
    (c5 : Cl P w K mg base "after" 3 ["letters", "one", "other"] spAf f5 fd5) (b5 : KBinds K fd5 ["letters", "one", "other"] ["other", "one", "letters"] rev3 rev3)
    (c6 : Cl P w K mg base "_law_turned" 1 ["_law_signs", "_law_my_turn", "_law_shown"] spTd f6 fd6)
    (c7 : Cl P w K mg base "_law_same" 2 ["_law_found", "_law_due"] (spSm K 2) f7 fd7)
    (c8 : Cl P w K mg base "undone" 1 ["letters", "turn"] spUn f8 fd8) (b8 : KBinds K fd8 ["letters", "turn"] ["turn", "letters"] rev2 rev2)
    (c9 : Cl P w K mg base "_law_back" 1 ["_law_signs", "_law_my_turn"] spUn f9 fd9)
    (c10 : Cl P w K mg base "_law_after" 2 ["_law_signs", "_law_mine", "_law_yours"] spAf f10 fd10)
    (c11 : Cl P w K mg base "order_of" 4 ["letters", "turn"] spOrd f11 fd11) :
    FnOk P w K mg base CX0 5 f fd ["_law_script"] (spLaw K) := by
  refine F.ok scLaw (fun vs H Q E h => ?_) (fun cdv A outer s H vs Q E hr h => ?_)
  · obtain ⟨a, ns, rfl, _⟩ := h
    rfl
  · obtain ⟨a, ns, rfl, hS, q⟩ := h
    refine ⟨_, pss_cons (ps_set (i := 1) scLaw.nd rfl (.inl rfl) (pe_cl c1 hr (by decide) (by rfl) (pa_cons (pv 0) pa_nil)))
      (pss_cons (ps_for PassesOwn.never rfl (pi_range1 rfl mr (pa_cons pe_int pa_nil)) (pg_name (i := 2) scLaw.nd rfl (.inl rfl))
        (pss_cons (ps_set (i := 3) scLaw.nd rfl (.inl rfl) (pe_cl c2 hr (by decide) (by rfl) (pa_cons (pv 1) (pa_cons pe_int pa_nil))))
        (pss_cons (ps_par (i := 4) (j := 5) (by rfl) scLaw.nd rfl rfl (by decide) rfl rfl
          (pa_cons (pe_cl c3 hr (by decide) (by rfl) (pa_cons (pv 1) (pa_cons (pv 3) pa_nil))) (pa_cons (pe_cl c3 hr (by decide) (by rfl) (pa_cons (pv 1) (pa_cons (pv 3) pa_nil))) pa_nil)) (by rfl))
        (pss_cons (ps_set (i := 6) scLaw.nd rfl (.inl rfl) (pe_op op_add_str (pv 3) (pe_cl c4 hr (by decide) (by rfl) (pa_cons (pv 1) (pa_cons (pv 3) (pa_cons pe_int pa_nil))))))
        (pss_cons (ps_set (i := 7) scLaw.nd rfl (.inl rfl) (pe_cl c5 hr (by decide) (by rfl) (pa_cons (pv 3) (pa_cons (pv 4) (pa_cons (pv 5) pa_nil)))))
        (pss_cons (ps_set (i := 8) scLaw.nd rfl (.inl rfl) (pe_cl c6 hr (by decide) (by rfl) (pa_cons (pv 3) (pa_cons (pv 5) (pa_cons
          (pe_cl c6 hr (by decide) (by rfl) (pa_cons (pv 3) (pa_cons (pv 4) (pa_cons (pv 6) pa_nil)))) pa_nil)))))
        (pss_cons (ps_if (pt_not (pt_val (pe_cl c7 hr (by decide) (by rfl) (pa_cons (pe_cl c6 hr (by decide) (by rfl) (pa_cons (pv 3) (pa_cons (pv 7) (pa_cons (pv 6) pa_nil)))) (pa_cons (pv 8) pa_nil))))) pss_never pss_nil)
        (pss_cons (ps_set (i := 9) scLaw.nd rfl (.inl rfl) (pe_lst (pa_cons (pe_kw c5 hr (by decide) (by rfl) b5 (pk_cons (pv 5) (pk_cons (pv 4) (pk_cons (pv 3) pk_nil))))
          (pa_cons (pe_cl c8 hr (by decide) (by rfl) (pa_cons (pv 3) (pa_cons (pv 4) pa_nil))) pa_nil))))
        (pss_cons (ps_if (pt_not (pt_val (pe_cl c7 hr (by decide) (by rfl) (pa_cons (pv 9) (pa_cons (pe_lst (pa_cons (pv 7) (pa_cons (pe_cl c9 hr (by decide) (by rfl) (pa_cons (pv 3) (pa_cons (pv 4) pa_nil))) pa_nil))) pa_nil))))) pss_never pss_nil)
        (pss_cons (ps_if (pt_cmpR op_ne (pe_cl c6 hr (by decide) (by rfl) (pa_cons (pv 3) (pa_cons (pe_kw c8 hr (by decide) (by rfl) b8 (pk_cons (pv 5) (pk_cons (pv 3) pk_nil)))
          (pa_cons (pe_cl c6 hr (by decide) (by rfl) (pa_cons (pv 3) (pa_cons (pv 5) (pa_cons (pv 6) pa_nil)))) pa_nil)))) (pv 6) (nomark _)) pss_never pss_nil)
        (pss_cons (ps_par (i := 10) (j := 11) (by rfl) scLaw.nd rfl rfl (by decide) rfl rfl (pa_cons (pv 4) (pa_cons pe_int pa_nil)) (by rfl))
        (pss_cons (ps_for PassesOwn.never rfl (pi_range1 rfl mr (pa_cons pe_int pa_nil)) (pg_name (i := 12) scLaw.nd rfl (.inl rfl))
          (pss_one (ps_if (pt_cmpR op_ne (pv 10) (pv 3) (nomark _)) (pss_one (ps_par (i := 10) (j := 11) (by rfl) scLaw.nd rfl rfl (by decide) rfl rfl
            (pa_cons (pe_cl c10 hr (by decide) (by rfl) (pa_cons (pv 3) (pa_cons (pv 10) (pa_cons (pv 4) pa_nil)))) (pa_cons (pe_op op_add (pv 11) pe_int) pa_nil)) (by rfl))) pss_nil)))
        (pss_one (ps_if (pt_not (pt_val (pe_cl c7 hr (by decide) (by rfl) (pa_cons (pe_lst (pa_cons (pe_cl c11 hr (by decide) (by rfl) (pa_cons (pv 3) (pa_cons (pv 4) pa_nil)))
            (pa_cons (pe_cl c11 hr (by decide) (by rfl) (pa_cons (pv 3) (pa_cons (pv 3) pa_nil))) pa_nil)))
          (pa_cons (pe_lst (pa_cons (pv 11) (pa_cons pe_int pa_nil))) pa_nil))))) pss_never pss_nil))))))))))))))
      (pss_one (ps_ret pe_bl))), ?_⟩
    refine ⟨_, rfl, a, ns, rfl, hS, fun H1 r s1 nr R => ?_⟩
    refine ⟨8, rfl, by decide, by decide, ?_⟩
    refine for_range (lo := 0) (n := (8 : Int).toNat)
      (fun i σ H' => ∃ v2 v3 v4 v5 v6 v7 v8 v9 v10 v11 v12, σ = [some (.ref a), some (.ref r), v2, v3, v4, v5, v6, v7, v8, v9, v10, v11, v12] ∧ Rng H' r)
      ⟨none, none, none, none, none, none, none, none, none, none, none, rfl, R⟩ ?_ ?_
    · rintro i σ H2 hi ⟨v2, v3, v4, v5, v6, v7, v8, v9, v10, v11, v12, rfl, R2⟩
      -- good
      refine ⟨_, rfl, r, 4, rfl, by decide, R2, fun H3 gs g3 hg _ => ?_⟩
      have hgl : gs.length ≤ 1000 := by have := hg.hi; omega
      -- mine, yours
      refine ⟨_, rfl, _, rfl, r, gs, rfl, hgl, g3.rng, fun H4 t g4 pt => ?_⟩
      refine ⟨_, rfl, _, rfl, r, gs, rfl, hgl, g4.rng, fun H5 y g5 py => ?_⟩
      refine ⟨_, _, rfl, ?_⟩
      have tl := pt.length_eq
      have yl := py.length_eq
      have tm : ∀ c ∈ t, c ∈ gs := fun c hc => pt.mem_iff.mp hc
      have ym : ∀ c ∈ y, c ∈ gs := fun c hc => py.mem_iff.mp hc
      -- shown
      refine ⟨_, rfl, _, rfl, _, rfl, r, gs, 6, rfl, by have := hg.lo; omega, hgl, by decide, by decide, g5.rng, fun H6 xs g6 xm xl => ?_⟩
      refine ⟨_, _, rfl, rfl, ?_, ?_⟩
      · rw [S_len, S_len]
        exact small (by have := hg.hi; omega)
      rw [S_cat]
      have zm : ∀ c ∈ gs ++ xs, c ∈ gs := fun c hc => (List.mem_append.mp hc).elim id (xm c)
      have zl : (gs ++ xs).length ≤ 1000 := by rw [List.length_append]; have := hg.hi; omega
      generalize gs ++ xs = z at zm zl
      -- both
      refine ⟨_, rfl, _, rfl, _, rfl, _, _, _, rfl, gs, y, t, rfl, hg.nd, hgl, yl, by omega, tm, fun H7 s7 => ?_⟩
      have bm : ∀ c ∈ t.map (tau gs y), c ∈ gs := fun c hc => by
        obtain ⟨x, hx, rfl⟩ := List.mem_map.mp hc
        exact ym _ (tau_mem (tm x hx) yl)
      have bl : (t.map (tau gs y)).length = gs.length := by rw [List.length_map, tl]
      have m1 : ∀ c ∈ z.map (tau gs t), c ∈ gs := fun c hc => by
        obtain ⟨x, hx, rfl⟩ := List.mem_map.mp hc
        exact tm _ (tau_mem (zm x hx) tl)
      -- due
      refine ⟨_, rfl, _, rfl, _, rfl, _, rfl, _, rfl, gs, t, z, rfl, hg.nd, hgl, tl, zl, zm, fun H8 s8 => ?_⟩
      refine ⟨gs, y, z.map (tau gs t), rfl, hg.nd, hgl, yl, by rw [List.length_map]; exact zl, m1, fun H9 s9 => ?_⟩
      -- one after the other
      refine ⟨_, rfl, _, rfl, _, rfl, gs, t.map (tau gs y), z, rfl, hg.nd, hgl, bl, zl, zm, fun H10 s10 => ?_⟩
      have e1 : z.map (tau gs (t.map (tau gs y))) = (z.map (tau gs t)).map (tau gs y) := by
        rw [List.map_map]
        refine List.map_congr_left fun c hc => ?_
        exact tau_map _ (zm c hc) tl
      refine ⟨_, rfl, _, _, rfl, by rw [e1]; exact Eqd.refl trivial, fun H11 s11 => ⟨true, rfl, iteF ?_⟩⟩
      -- by keywords; undone
      refine ⟨_, rfl, _, rfl, _, rfl, _, _, _, rfl, gs, y, t, rfl, hg.nd, hgl, yl, by omega, tm, fun H12 s12 => ?_⟩
      have tg : ∀ c ∈ gs, c ∈ t := fun c hc => pt.mem_iff.mpr hc
      have yg : ∀ c ∈ gs, c ∈ y := fun c hc => py.mem_iff.mpr hc
      refine ⟨_, rfl, _, rfl, gs, t, rfl, hgl, tl, tg, fun H13 s13 => ?_⟩
      refine ⟨(by show 2 ≤ sizeLine; decide), fun L nL => ?_⟩
      refine ⟨_, rfl, _, rfl, _, rfl, _, rfl, gs, t, rfl, hgl, tl, tg, fun H15 s15 => ?_⟩
      refine ⟨(by show 2 ≤ sizeLine; decide), fun M nM => ?_⟩
      have hL := same_new (o := .lst [.str (S (t.map (tau gs y))), .str (S (und gs t))]) nM
      refine ⟨_, _, rfl, Eqd.lst (n := 0) (hL _ _ (s15 _ _ upd_same)) upd_same (by show 2 ≤ 1000; decide) ?_, fun H16 s16 => ⟨true, rfl, iteF ?_⟩⟩
      · intro x hx
        simp only [List.mem_cons, List.not_mem_nil, or_false] at hx
        rcases hx with e | e <;> (rw [e]; trivial)
      -- and back
      refine ⟨_, rfl, _, rfl, _, rfl, gs, y, rfl, hgl, yl, yg, fun H17 s17 => ?_⟩
      refine ⟨_, rfl, _, rfl, _, rfl, gs, y, z, rfl, hg.nd, hgl, yl, zl, zm, fun H18 s18 => ?_⟩
      have m2 : ∀ c ∈ z.map (tau gs y), c ∈ gs := fun c hc => by
        obtain ⟨x, hx, rfl⟩ := List.mem_map.mp hc
        exact ym _ (tau_mem (zm x hx) yl)
      refine ⟨gs, und gs y, z.map (tau gs y), rfl, hg.nd, hgl, by unfold und; rw [List.length_map], by rw [List.length_map]; exact zl, m2, fun H19 s19 => ?_⟩
      have e2 : (z.map (tau gs y)).map (tau gs (und gs y)) = z := by
        rw [List.map_map]
        refine (List.map_congr_left fun c hc => ?_).trans (List.map_id z)
        exact und_back (py.nodup_iff.mpr hg.nd) yl ym (zm c hc)
      refine ⟨_, rfl, rfl, _, rfl, ?_⟩
      rw [e2]
      refine iteNS rfl ?_
      -- how often
      refine ⟨_, rfl, _, _, rfl, ?_⟩
      have R19 : Rng H19 r := by
        have s14 := same_new (o := .lst [.str (S (t.map (tau gs y))), .str (S (und gs t))]) nL
        exact g6.rng.same ((((((((((((s7.trans s8).trans s9).trans s10).trans s11).trans s12).trans s13).trans s14).trans s15).trans hL).trans s16).trans s17).trans (s18.trans s19))
      obtain ⟨J, hJ, eJ, kJ⟩ := ord_least hg.nd hg.hi pt
      refine ⟨12, rfl, by decide, by decide, ?_⟩
      refine for_range (lo := 0) (n := (12 : Int).toNat)
        (fun i σ H' => ∃ v9 v12 j, σ = [some (.ref a), some (.ref r), some (.int _), some (.str (S gs)), some (.str (S t)), some (.str (S y)), some (.str (S z)), some (.str (S (t.map (tau gs y)))),
          some (.str (S ((z.map (tau gs t)).map (tau gs y)))), v9, some (.str (S (it gs t j))), some (.int ((j : Int) + 1)), v12] ∧ Rng H' r ∧ j = min i J)
        ⟨_, _, 0, rfl, R19, by omega⟩ ?_ ?_
      · rintro k σ H20 hk ⟨v9, v12, j, rfl, R20, ej⟩
        refine ⟨_, rfl, _, rfl, rfl, _, rfl, ?_⟩
        by_cases hjJ : j = J
        · subst hjJ
          rw [eJ]
          refine iteNS rfl ?_
          exact ⟨_, _, j, by rw [eJ]; rfl, R20, by omega⟩
        · have ne : it gs t j ≠ gs := kJ j (by omega)
          have ne2 : ¬ (V.str (S (it gs t j)) = V.str (S gs)) := fun e => ne (S_inj (V.str.inj e))
          rw [decide_eq_false ne2]
          obtain ⟨i1, i2⟩ := it_mem pt j
          refine iteT ⟨_, rfl, _, rfl, _, rfl, _, _, _, rfl, gs, t, it gs t j, rfl, hg.nd, hgl, tl, by omega, i2, fun H21 s21 => ?_⟩
          refine ⟨_, rfl, _, _, rfl, rfl, _, _, rfl, ?_⟩
          exact ⟨_, _, j + 1, rfl, R20.same s21, by omega⟩
      · rintro σ H20 ⟨v9, v12, j, rfl, R20, ej⟩
        have ej2 : j = J := by
          have : j = min 12 J := ej
          omega
        subst ej2
        refine ⟨_, rfl, _, rfl, gs, t, j, rfl, hg.nd, hgl, pt, eJ, kJ, fun H21 s21 => ?_⟩
        refine ⟨_, rfl, _, rfl, gs, gs, 0, rfl, hg.nd, hgl, List.Perm.refl _, rfl, (fun k hk => absurd hk (Nat.not_lt_zero _)), fun H22 s22 => ?_⟩
        refine ⟨(by show 2 ≤ sizeLine; decide), fun L2 nL2 => ?_⟩
        refine ⟨_, rfl, (by show 2 ≤ sizeLine; decide), fun M2 nM2 => ?_⟩
        have hL2 := same_new (o := .lst [.int ((j : Int) + 1), .int 1]) nM2
        refine ⟨_, _, rfl, Eqd.lst (n := 0) (hL2 _ _ upd_same) upd_same (by show 2 ≤ 1000; decide) ?_, fun H23 s23 => ⟨true, rfl, iteF ?_⟩⟩
        · intro x hx
          simp only [List.mem_cons, List.not_mem_nil, or_false] at hx
          rcases hx with e | e <;> (rw [e]; trivial)
        · have s24 := same_new (o := .lst [.int ((j : Int) + 1), .int ((0 : Nat) + 1 : Int)]) nL2
          exact ⟨_, _, _, _, _, _, _, _, _, _, _, rfl, R20.same ((((s21.trans s22).trans s24).trans hL2).trans s23)⟩
    · rintro σ H2 ⟨v2, v3, v4, v5, v6, v7, v8, v9, v10, v11, v12, rfl, R2⟩
      exact q _
end
end Own

namespace Own
open PySem PySem.Spec PyProof.Rows L2 SX
theorem all_mk {l : PySem.W.OpenLaw} {w : World} {K : PySem.W.Frag} {h : Heap} {mg : Str → Option Value} {fa f1 f2 f3 f4 f5 f6 f7 f8 f9 f10 f11 f12 f13 f14 f15 f16 : Addr}
    (X : K.In h) (G : h.Ns mainGlobals mg) (hfa : mg "law" = some (.ref fa))
    {od1 an1 od2 an2 od3 an3 od4 an4 od5 an5 od6 an6 od7 an7 od8 an8 od9 an9 od10 an10 od11 an11 od12 an12 od13 an13 od14 an14 od15 an15 od16 an16 : Option Addr}
    {sl1 sl2 sl3 sl4 sl5 sl6 sl7 sl8 sl9 sl10 sl11 sl12 sl13 sl14 sl15 sl16 : Array (Option Value)}
    {oc1 kV1 dc1 pm1 cd1 ct1 oc2 kV2 dc2 pm2 cd2 ct2 oc3 kV3 dc3 pm3 cd3 ct3 oc4 kV4 dc4 pm4 cd4 ct4 oc5 kV5 dc5 pm5 cd5 ct5 oc6 kV6 dc6 pm6 cd6 ct6 oc7 kV7 dc7 pm7 cd7 ct7 oc8 kV8 dc8 pm8 cd8 ct8 oc9 kV9 dc9 pm9 cd9 ct9 oc10 kV10 dc10 pm10 cd10 ct10 oc11 kV11 dc11 pm11 cd11 ct11 oc12 kV12 dc12 pm12 cd12 ct12 oc13 kV13 dc13 pm13 cd13 ct13 oc14 kV14 dc14 pm14 cd14 ct14 oc15 kV15 dc15 pm15 cd15 ct15 oc16 kV16 dc16 pm16 cd16 ct16 : Value}
    (a1 : PySem.W.nsIn K mainGlobals "check_text" = some (some (.ref f1)))
    (l1 : K.lookup f1 = some ⟨oc1, od1, .func (PySem.W.fnOf "check_text" "check_text" (defArgs sCheck) (defBody sCheck) (defScope sCheck) .none kV1 dc1 pm1 an1 cd1 ct1), sl1⟩)
    (c1 : PySem.W.codeIn K cd1 "check_text" = true) (k1 : PySem.W.keepIn K (.ref f1) = true)
    (a2 : PySem.W.nsIn K mainGlobals "turned" = some (some (.ref f2)))
    (l2 : K.lookup f2 = some ⟨oc2, od2, .func (PySem.W.fnOf "turned" "turned" (defArgs sTurned) (defBody sTurned) (defScope sTurned) .none kV2 dc2 pm2 an2 cd2 ct2), sl2⟩)
    (c2 : PySem.W.codeIn K cd2 "turned" = true) (k2 : PySem.W.keepIn K (.ref f2) = true)
    (a3 : PySem.W.nsIn K mainGlobals "after" = some (some (.ref f3)))
    (l3 : K.lookup f3 = some ⟨oc3, od3, .func (PySem.W.fnOf "after" "after" (defArgs sAfter) (defBody sAfter) (defScope sAfter) .none kV3 dc3 pm3 an3 cd3 ct3), sl3⟩)
    (c3 : PySem.W.codeIn K cd3 "after" = true) (k3 : PySem.W.keepIn K (.ref f3) = true)
    (a4 : PySem.W.nsIn K mainGlobals "undone" = some (some (.ref f4)))
    (l4 : K.lookup f4 = some ⟨oc4, od4, .func (PySem.W.fnOf "undone" "undone" (defArgs sUndone) (defBody sUndone) (defScope sUndone) .none kV4 dc4 pm4 an4 cd4 ct4), sl4⟩)
    (c4 : PySem.W.codeIn K cd4 "undone" = true) (k4 : PySem.W.keepIn K (.ref f4) = true)
    (a5 : PySem.W.nsIn K mainGlobals "order_of" = some (some (.ref f5)))
    (l5 : K.lookup f5 = some ⟨oc5, od5, .func (PySem.W.fnOf "order_of" "order_of" (defArgs sOrder) (defBody sOrder) (defScope sOrder) .none kV5 dc5 pm5 an5 cd5 ct5), sl5⟩)
    (c5 : PySem.W.codeIn K cd5 "order_of" = true) (k5 : PySem.W.keepIn K (.ref f5) = true)
    (a6 : PySem.W.nsIn K mainGlobals "_law_draws" = some (some (.ref f6)))
    (l6 : K.lookup f6 = some ⟨oc6, od6, .func (PySem.W.fnOf "_law_draws" "_law_draws" (defArgs sDraws) (defBody sDraws) (defScope sDraws) .none kV6 dc6 pm6 an6 cd6 ct6), sl6⟩)
    (c6 : PySem.W.codeIn K cd6 "_law_draws" = true) (k6 : PySem.W.keepIn K (.ref f6) = true)
    (a7 : PySem.W.nsIn K mainGlobals "_law_draw" = some (some (.ref f7)))
    (l7 : K.lookup f7 = some ⟨oc7, od7, .func (PySem.W.fnOf "_law_draw" "_law_draw" (defArgs sDraw) (defBody sDraw) (defScope sDraw) .none kV7 dc7 pm7 an7 cd7 ct7), sl7⟩)
    (c7 : PySem.W.codeIn K cd7 "_law_draw" = true) (k7 : PySem.W.keepIn K (.ref f7) = true)
    (a8 : PySem.W.nsIn K mainGlobals "_law_pick" = some (some (.ref f8)))
    (l8 : K.lookup f8 = some ⟨oc8, od8, .func (PySem.W.fnOf "_law_pick" "_law_pick" (defArgs sPick) (defBody sPick) (defScope sPick) .none kV8 dc8 pm8 an8 cd8 ct8), sl8⟩)
    (c8 : PySem.W.codeIn K cd8 "_law_pick" = true) (k8 : PySem.W.keepIn K (.ref f8) = true)
    (a9 : PySem.W.nsIn K mainGlobals "_law_same" = some (some (.ref f9)))
    (l9 : K.lookup f9 = some ⟨oc9, od9, .func (PySem.W.fnOf "_law_same" "_law_same" (defArgs sSame) (defBody sSame) (defScope sSame) .none kV9 dc9 pm9 an9 cd9 ct9), sl9⟩)
    (c9 : PySem.W.codeIn K cd9 "_law_same" = true) (k9 : PySem.W.keepIn K (.ref f9) = true)
    (a10 : PySem.W.nsIn K mainGlobals "_law_letters" = some (some (.ref f10)))
    (l10 : K.lookup f10 = some ⟨oc10, od10, .func (PySem.W.fnOf "_law_letters" "_law_letters" (defArgs sLetters) (defBody sLetters) (defScope sLetters) .none kV10 dc10 pm10 an10 cd10 ct10), sl10⟩)
    (c10 : PySem.W.codeIn K cd10 "_law_letters" = true) (k10 : PySem.W.keepIn K (.ref f10) = true)
    (a11 : PySem.W.nsIn K mainGlobals "_law_turn" = some (some (.ref f11)))
    (l11 : K.lookup f11 = some ⟨oc11, od11, .func (PySem.W.fnOf "_law_turn" "_law_turn" (defArgs sTurn) (defBody sTurn) (defScope sTurn) .none kV11 dc11 pm11 an11 cd11 ct11), sl11⟩)
    (c11 : PySem.W.codeIn K cd11 "_law_turn" = true) (k11 : PySem.W.keepIn K (.ref f11) = true)
    (a12 : PySem.W.nsIn K mainGlobals "_law_word" = some (some (.ref f12)))
    (l12 : K.lookup f12 = some ⟨oc12, od12, .func (PySem.W.fnOf "_law_word" "_law_word" (defArgs sWord) (defBody sWord) (defScope sWord) .none kV12 dc12 pm12 an12 cd12 ct12), sl12⟩)
    (c12 : PySem.W.codeIn K cd12 "_law_word" = true) (k12 : PySem.W.keepIn K (.ref f12) = true)
    (a13 : PySem.W.nsIn K mainGlobals "_law_turned" = some (some (.ref f13)))
    (l13 : K.lookup f13 = some ⟨oc13, od13, .func (PySem.W.fnOf "_law_turned" "_law_turned" (defArgs sLTurned) (defBody sLTurned) (defScope sLTurned) .none kV13 dc13 pm13 an13 cd13 ct13), sl13⟩)
    (c13 : PySem.W.codeIn K cd13 "_law_turned" = true) (k13 : PySem.W.keepIn K (.ref f13) = true)
    (a14 : PySem.W.nsIn K mainGlobals "_law_after" = some (some (.ref f14)))
    (l14 : K.lookup f14 = some ⟨oc14, od14, .func (PySem.W.fnOf "_law_after" "_law_after" (defArgs sLAfter) (defBody sLAfter) (defScope sLAfter) .none kV14 dc14 pm14 an14 cd14 ct14), sl14⟩)
    (c14 : PySem.W.codeIn K cd14 "_law_after" = true) (k14 : PySem.W.keepIn K (.ref f14) = true)
    (a15 : PySem.W.nsIn K mainGlobals "_law_back" = some (some (.ref f15)))
    (l15 : K.lookup f15 = some ⟨oc15, od15, .func (PySem.W.fnOf "_law_back" "_law_back" (defArgs sLBack) (defBody sLBack) (defScope sLBack) .none kV15 dc15 pm15 an15 cd15 ct15), sl15⟩)
    (c15 : PySem.W.codeIn K cd15 "_law_back" = true) (k15 : PySem.W.keepIn K (.ref f15) = true)
    (a16 : PySem.W.nsIn K mainGlobals "law" = some (some (.ref f16)))
    (l16 : K.lookup f16 = some ⟨oc16, od16, .func (PySem.W.fnOf "law" "law" (defArgs sLaw) (defBody sLaw) (defScope sLaw) .none kV16 dc16 pm16 an16 cd16 ct16), sl16⟩)
    (c16 : PySem.W.codeIn K cd16 "law" = true) (k16 : PySem.W.keepIn K (.ref f16) = true)
    (z1 : PySem.W.nsIn K mainGlobals "enumerate" = some none)
    (z2 : PySem.W.nsIn K mainGlobals "dict" = some none)
    (z3 : PySem.W.nsIn K mainGlobals "zip" = some none)
    (z4 : PySem.W.nsIn K mainGlobals "int" = some none)
    (z5 : PySem.W.nsIn K mainGlobals "list" = some none)
    (z6 : PySem.W.nsIn K mainGlobals "len" = some none)
    (z7 : PySem.W.nsIn K mainGlobals "isinstance" = some none)
    (z8 : PySem.W.nsIn K mainGlobals "tuple" = some none)
    (z9 : PySem.W.nsIn K mainGlobals "all" = some none)
    (z10 : PySem.W.nsIn K mainGlobals "bool" = some none)
    (z11 : PySem.W.nsIn K mainGlobals "str" = some none)
    (z12 : PySem.W.nsIn K mainGlobals "min" = some none)
    (z13 : PySem.W.nsIn K mainGlobals "range" = some none)
    : ∃ fd : FuncData, (∀ (s : Shared) (v : Value), BindsTo s fd ⟨[v], []⟩ [("_law_script", v)]) ∧
      ∀ base : Heap, K.In base → base.Ns mainGlobals mg → FnOk l.prog w K mg base CX0 5 fa fd ["_law_script"] (spLaw K) := by
  have e := hfa.symm.trans (PySem.W.mg_of X G a16)
  cases e
  have F1 := fun_mk (st := sCheck) l1 c1 k1
  have g1 := PySem.W.mg_of X G a1
  have F2 := fun_mk (st := sTurned) l2 c2 k2
  have g2 := PySem.W.mg_of X G a2
  have F3 := fun_mk (st := sAfter) l3 c3 k3
  have g3 := PySem.W.mg_of X G a3
  have F4 := fun_mk (st := sUndone) l4 c4 k4
  have g4 := PySem.W.mg_of X G a4
  have F5 := fun_mk (st := sOrder) l5 c5 k5
  have g5 := PySem.W.mg_of X G a5
  have F6 := fun_mk (st := sDraws) l6 c6 k6
  have g6 := PySem.W.mg_of X G a6
  have F7 := fun_mk (st := sDraw) l7 c7 k7
  have g7 := PySem.W.mg_of X G a7
  have F8 := fun_mk (st := sPick) l8 c8 k8
  have g8 := PySem.W.mg_of X G a8
  have F9 := fun_mk (st := sSame) l9 c9 k9
  have g9 := PySem.W.mg_of X G a9
  have F10 := fun_mk (st := sLetters) l10 c10 k10
  have g10 := PySem.W.mg_of X G a10
  have F11 := fun_mk (st := sTurn) l11 c11 k11
  have g11 := PySem.W.mg_of X G a11
  have F12 := fun_mk (st := sWord) l12 c12 k12
  have g12 := PySem.W.mg_of X G a12
  have F13 := fun_mk (st := sLTurned) l13 c13 k13
  have g13 := PySem.W.mg_of X G a13
  have F14 := fun_mk (st := sLAfter) l14 c14 k14
  have g14 := PySem.W.mg_of X G a14
  have F15 := fun_mk (st := sLBack) l15 c15 k15
  have g15 := PySem.W.mg_of X G a15
  have F16 := fun_mk (st := sLaw) l16 c16 k16
  have g16 := PySem.W.mg_of X G a16
  have m_enumerate := PySem.W.mg_none_of X G z1
  have m_dict := PySem.W.mg_none_of X G z2
  have m_zip := PySem.W.mg_none_of X G z3
  have m_int := PySem.W.mg_none_of X G z4
  have m_list := PySem.W.mg_none_of X G z5
  have m_len := PySem.W.mg_none_of X G z6
  have m_isinstance := PySem.W.mg_none_of X G z7
  have m_tuple := PySem.W.mg_none_of X G z8
  have m_all := PySem.W.mg_none_of X G z9
  have m_bool := PySem.W.mg_none_of X G z10
  have m_str := PySem.W.mg_none_of X G z11
  have m_min := PySem.W.mg_none_of X G z12
  have m_range := PySem.W.mg_none_of X G z13
  have b1 := F1.binds (ps := ["letters", "text"]) fun _ _ _ _ _ _ us hl => match us, hl with | [_, _], _ => rfl
  have b2 := F2.binds (ps := ["letters", "turn", "text"]) fun _ _ _ _ _ _ us hl => match us, hl with | [_, _, _], _ => rfl
  have b3 := F3.binds (ps := ["letters", "one", "other"]) fun _ _ _ _ _ _ us hl => match us, hl with | [_, _, _], _ => rfl
  have b4 := F4.binds (ps := ["letters", "turn"]) fun _ _ _ _ _ _ us hl => match us, hl with | [_, _], _ => rfl
  have b5 := F5.binds (ps := ["letters", "turn"]) fun _ _ _ _ _ _ us hl => match us, hl with | [_, _], _ => rfl
  have b6 := F6.binds (ps := ["_law_script"]) fun _ _ _ _ _ _ us hl => match us, hl with | [_], _ => rfl
  have b7 := F7.binds (ps := ["_law_rng", "_law_sides"]) fun _ _ _ _ _ _ us hl => match us, hl with | [_, _], _ => rfl
  have b8 := F8.binds (ps := ["_law_rng", "_law_things"]) fun _ _ _ _ _ _ us hl => match us, hl with | [_, _], _ => rfl
  have b9 := F9.binds (ps := ["_law_found", "_law_due"]) fun _ _ _ _ _ _ us hl => match us, hl with | [_, _], _ => rfl
  have b10 := F10.binds (ps := ["_law_rng", "_law_most"]) fun _ _ _ _ _ _ us hl => match us, hl with | [_, _], _ => rfl
  have b11 := F11.binds (ps := ["_law_rng", "_law_signs"]) fun _ _ _ _ _ _ us hl => match us, hl with | [_, _], _ => rfl
  have b12 := F12.binds (ps := ["_law_rng", "_law_signs", "_law_most"]) fun _ _ _ _ _ _ us hl => match us, hl with | [_, _, _], _ => rfl
  have b13 := F13.binds (ps := ["_law_signs", "_law_my_turn", "_law_shown"]) fun _ _ _ _ _ _ us hl => match us, hl with | [_, _, _], _ => rfl
  have b14 := F14.binds (ps := ["_law_signs", "_law_mine", "_law_yours"]) fun _ _ _ _ _ _ us hl => match us, hl with | [_, _, _], _ => rfl
  have b15 := F15.binds (ps := ["_law_signs", "_law_my_turn"]) fun _ _ _ _ _ _ us hl => match us, hl with | [_, _], _ => rfl
  refine ⟨PySem.W.fnOf "law" "law" (defArgs sLaw) (defBody sLaw) (defScope sLaw) .none kV16 dc16 pm16 an16 cd16 ct16, fun s v => .of_eq rfl, fun base _ _ => ?_⟩
  have T : SameT mg := ⟨m_isinstance, m_list, m_tuple, m_len, m_all, m_zip, m_bool, m_int, m_str⟩
  have G2 : FnOk l.prog w K mg base CX0 2 f2 _ ["letters", "turn", "text"] spTd := ok_turned F2 F1 b1 g1 m_enumerate m_dict m_zip
  have G3 : FnOk l.prog w K mg base CX0 3 f3 _ ["letters", "one", "other"] spAf := ok_after F3 G2 F2.kp b2 g2
  have G5 : FnOk l.prog w K mg base CX0 4 f5 _ ["letters", "turn"] spOrd := ok_order F5 G3 F3.kp b3 g3
  exact ok_law F16 m_range ⟨ok_draws F6 m_int m_list, g6, F6.kp, b6⟩ ⟨ok_letters F10 F7 b7 g7 F8 b8 g8 m_int m_len m_min m_range, g10, F10.kp, b10⟩
    ⟨ok_turn F11 F7 b7 g7 m_int m_len m_range, g11, F11.kp, b11⟩ ⟨ok_word F12 F7 b7 g7 F8 b8 g8 m_int m_len m_range, g12, F12.kp, b12⟩
    ⟨G3, g3, F3.kp, b3⟩ (kb_after F3) ⟨ok_lturned F13, g13, F13.kp, b13⟩ ⟨ok_same F9 T b9 g9 2, g9, F9.kp, b9⟩ ⟨ok_undone F4, g4, F4.kp, b4⟩ (kb_undone F4)
    ⟨ok_lback F15, g15, F15.kp, b15⟩ ⟨ok_lafter F14 F13 b13 g13, g14, F14.kp, b14⟩ ⟨G5, g5, F5.kp, b5⟩
end Own
open PySem PySem.W PyProof.Rows
set_option maxHeartbeats 0 in
theorem PySem.Challenge.cw_ownfill_k03_turns_done_one_after_the_oth_holds : PySem.Challenge.rw_ownfill_k03_turns_done_one_after_the_oth.Holds := by
  w_on; o_law; k_head; (case hw => w_witness2)
  k_fill
  refine L2.walk_of (l := PySem.Challenge.rw_ownfill_k03_turns_done_one_after_the_oth) (n := 63) (k := 5) (x := "_law_script") (CX := fun _ => L2.CX0) (sp := fun w => Own.spLaw _) rfl (by decide) rfl ⟨rfl, by decide, by decide⟩ (fun w h Y => PySem.W.kIn_of Y) ?F (fun _ _ a ns hl _ hS => ⟨a, ns, rfl, hS, fun _ => rfl⟩) (fun _ _ _ _ _ h => h)
  case F =>
    intro w mg fa h KX G hmg
    refine' Own.all_mk KX G hmg ?a1 ?l1 ?c1 ?k1 ?a2 ?l2 ?c2 ?k2 ?a3 ?l3 ?c3 ?k3 ?a4 ?l4 ?c4 ?k4 ?a5 ?l5 ?c5 ?k5 ?a6 ?l6 ?c6 ?k6 ?a7 ?l7 ?c7 ?k7 ?a8 ?l8 ?c8 ?k8 ?a9 ?l9 ?c9 ?k9 ?a10 ?l10 ?c10 ?k10 ?a11 ?l11 ?c11 ?k11 ?a12 ?l12 ?c12 ?k12 ?a13 ?l13 ?c13 ?k13 ?a14 ?l14 ?c14 ?k14 ?a15 ?l15 ?c15 ?k15 ?a16 ?l16 ?c16 ?k16 ?z1 ?z2 ?z3 ?z4 ?z5 ?z6 ?z7 ?z8 ?z9 ?z10 ?z11 ?z12 ?z13
    (case a1 => k_is); (case l1 => k_is); (case c1 => k_is); (case k1 => k_is); (case a2 => k_is); (case l2 => k_is); (case c2 => k_is); (case k2 => k_is)
    (case a3 => k_is); (case l3 => k_is); (case c3 => k_is); (case k3 => k_is); (case a4 => k_is); (case l4 => k_is); (case c4 => k_is); (case k4 => k_is)
    (case a5 => k_is); (case l5 => k_is); (case c5 => k_is); (case k5 => k_is); (case a6 => k_is); (case l6 => k_is); (case c6 => k_is); (case k6 => k_is)
    (case a7 => k_is); (case l7 => k_is); (case c7 => k_is); (case k7 => k_is); (case a8 => k_is); (case l8 => k_is); (case c8 => k_is); (case k8 => k_is)
    (case a9 => k_is); (case l9 => k_is); (case c9 => k_is); (case k9 => k_is); (case a10 => k_is); (case l10 => k_is); (case c10 => k_is); (case k10 => k_is)
    (case a11 => k_is); (case l11 => k_is); (case c11 => k_is); (case k11 => k_is); (case a12 => k_is); (case l12 => k_is); (case c12 => k_is); (case k12 => k_is)
    (case a13 => k_is); (case l13 => k_is); (case c13 => k_is); (case k13 => k_is); (case a14 => k_is); (case l14 => k_is); (case c14 => k_is); (case k14 => k_is)
    (case a15 => k_is); (case l15 => k_is); (case c15 => k_is); (case k15 => k_is); (case a16 => k_is); (case l16 => k_is); (case c16 => k_is); (case k16 => k_is)
    (case z1 => k_is); (case z2 => k_is); (case z3 => k_is); (case z4 => k_is); (case z5 => k_is); (case z6 => k_is); (case z7 => k_is); (case z8 => k_is)
    (case z9 => k_is); (case z10 => k_is); (case z11 => k_is); (case z12 => k_is); (case z13 => k_is)
