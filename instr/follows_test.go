package instr_test

import (
	"slices"
	"testing"

	"paddock/api"
	"paddock/instr"
)

// rows are rows of instructions, of none up to four, each beginning at another sample.
func rows() [][]api.Inst {
	all := everySample()
	l := [][]api.Inst{nil}
	for n := 1; n <= 4; n++ {
		for from := 0; from+n <= len(all); from += 37 {
			l = append(l, all[from:from+n])
		}
	}
	return l
}

func written(t *testing.T, l []api.Inst) string {
	t.Helper()
	s, e, _ := instr.Encode(l...)
	if e != api.OK {
		t.Fatalf("Encode(%+v): %d", l, e)
	}
	return s
}

func TestWhatIsWrittenIsRead(t *testing.T) {
	for _, l := range rows() {
		got, e, at := instr.Decode(written(t, l))
		if !slices.Equal(got, l) || e != api.OK || at != 0 {
			t.Errorf("3.8: %+v was read as %+v, %d, %d", l, got, e, at)
		}
	}
}

func TestWrittenAlikeIsTheSame(t *testing.T) {
	was := map[string]api.Inst{}
	for _, o := range operations() {
		for _, i := range samples(o) {
			s := written(t, []api.Inst{i})
			if other, there := was[s]; there && other != i {
				t.Errorf("3.8: %+v and %+v are both written %q", i, other, s)
			}
			was[s] = i
		}
	}
	for _, a := range rows() {
		for _, b := range rows()[:40] {
			if written(t, a) == written(t, b) && !slices.Equal(a, b) {
				t.Errorf("3.8: %+v and %+v are written alike", a, b)
			}
		}
	}
}

func TestRowBehindRow(t *testing.T) {
	for _, a := range rows()[:60] {
		for _, b := range rows()[:60] {
			if got, want := written(t, slices.Concat(a, b)), written(t, a)+written(t, b); got != want {
				t.Errorf("3.8: %+v behind %+v is written %q, want %q", b, a, got, want)
			}
		}
	}
}

// holds tells what is right by the numbers of the bytes alone.
func holds(o operation, i api.Inst) api.Errno {
	if o.name == "" {
		return api.ErrOp
	}
	for f, n := range [fields]int{i.A, i.B, i.C, i.Imm} {
		if r := places(o.shape)[f]; n < r.lo || n > r.hi {
			return api.ErrField
		}
	}
	return api.OK
}

// TestWhatIsReadIsWritten goes through all operations, with bytes of the edges in every field.
func TestWhatIsReadIsWritten(t *testing.T) {
	bytes := []int{0, 1, 15, 16, 128, 255}
	numbers := []int{0, 1, 15, 16, 127, 128, 255, 256, 65535, 65536, 65537, 1 << 24, 1<<31 - 1, -1, -255, -256, -65536, -1 << 31}
	for _, o := range byNumber() {
		for _, a := range bytes {
			for _, b := range bytes {
				for _, c := range bytes {
					for _, n := range numbers {
						readIsWritten(t, o, api.Inst{Op: o.op, A: a, B: b, C: c, Imm: n})
					}
				}
			}
		}
	}
}

func readIsWritten(t *testing.T, o operation, i api.Inst) {
	t.Helper()
	s := bytesOf(i)
	want := holds(o, i)
	l, e, at := instr.Decode(s)
	if e != want || at != 0 {
		t.Fatalf("3.7: Decode(%q) = %+v, %d, %d, want %d", s, l, e, at, want)
	}
	if want != api.OK {
		return
	}
	if len(l) != 1 || l[0] != i {
		t.Fatalf("3.7: Decode(%q) = %+v, want %+v", s, l, i)
	}
	if again := written(t, l); again != s {
		t.Fatalf("3.8: %q is read and written %q", s, again)
	}
}
