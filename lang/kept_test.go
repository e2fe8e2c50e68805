package lang_test

import (
	"reflect"
	"slices"
	"strconv"
	"sync"
	"testing"

	"paddock/api"
	"paddock/image"
	"paddock/lang"
)

// spoil writes over all of a list, its spare room too, and appends to it.
func spoil[T any](l []T, with T) {
	for k := range l[:cap(l)] {
		l[:cap(l)][k] = with
	}
	_ = append(l, with)
}

// spoilers write over each list of an image, one by one.
func spoilers(m api.Image) []func() {
	l := []func(){}
	for k := range m.Comps {
		roots, code := m.Comps[k].Roots, m.Comps[k].Code
		l = append(l, func() { spoil(roots, api.Root{Reg: 77}) }, func() { spoil(code, api.Inst{Op: 77}) })
	}
	for k := range m.Gates {
		args, results := m.Gates[k].Args, m.Gates[k].Results
		l = append(l, func() { spoil(args, api.Type{Seal: 77}) }, func() { spoil(results, api.Type{Seal: 77}) })
	}
	return append(l, func() { spoil(m.Regions, api.Region{Base: 77}) }, func() { spoil(m.Comps, api.Comp{}) }, func() { spoil(m.Gates, api.Gate{Comp: 77}) })
}

// listsOf are copies of an image's inner lists, in the order of the spoilers.
func listsOf(m api.Image) []any {
	l := []any{}
	for _, c := range m.Comps {
		l = append(l, append([]api.Root{}, c.Roots...), append([]api.Inst{}, c.Code...))
	}
	for _, g := range m.Gates {
		l = append(l, append([]api.Type{}, g.Args...), append([]api.Type{}, g.Results...))
	}
	return l
}

// TestListsAreApart: no list of an image shares memory with another one, spare room too.
func TestListsAreApart(t *testing.T) {
	for seed := range uint64(40) {
		d := rolled(seed)
		source := d.laid(d.source())
		m, e, _ := lang.Compile(source)
		if e != api.OK {
			continue
		}
		for n := range listsOf(m) {
			m, _, _ := lang.Compile(source)
			want := listsOf(m)
			spoilers(m)[n]()
			got := listsOf(m)
			got[n], want[n] = nil, nil
			if !reflect.DeepEqual(got, want) {
				t.Fatalf("two lists of the image of %q share memory", source)
			}
		}
	}
}

// TestImagesAreNew: an image that is written over changes no other one.
func TestImagesAreNew(t *testing.T) {
	for _, source := range []string{sums, full, small} {
		first, _, _ := lang.Compile(source)
		second, _, _ := lang.Compile(source)
		want := image.Copy(second)
		for _, s := range spoilers(first) {
			s()
		}
		third, _, _ := lang.Compile(source)
		if !reflect.DeepEqual(image.Copy(second), want) || !reflect.DeepEqual(image.Copy(third), want) {
			t.Errorf("of %q an image changes with another one", source)
		}
	}
}

// TestSourceAlone: what is told does not hang on what else is asked, ahead or at the same time.
func TestSourceAlone(t *testing.T) {
	t.Parallel()
	type ask struct {
		source string
		image  api.Image
		e      api.Errno
		line   int
	}
	var asks []ask
	for seed := range uint64(40) {
		d := rolled(seed)
		d.careless = true
		a := ask{source: d.laid(d.source())}
		a.image, a.e, a.line = lang.Compile(a.source)
		asks = append(asks, a)
	}
	var all sync.WaitGroup
	for n := range 4 {
		all.Go(func() {
			for k := range 10 * len(asks) {
				a := asks[(k*(2*n+1)+n)%len(asks)]
				m, e, line := lang.Compile(a.source)
				if e != a.e || line != a.line || !reflect.DeepEqual(m, a.image) {
					t.Errorf("of the same source unlike answers are told")
				}
			}
		})
	}
	all.Wait()
}

// TestSameBut: blanks, lines, remarks and names change nothing of the image.
func TestSameBut(t *testing.T) {
	for seed := range uint64(100) {
		d := rolled(seed)
		row := d.source()
		first, e, _ := lang.Compile(d.laid(row))
		if e != api.OK {
			continue
		}
		second, e, _ := lang.Compile(d.laid(row))
		if e != api.OK || !reflect.DeepEqual(first, second) {
			t.Fatalf("15.1: the same tokens are another image")
		}
		third, e, _ := lang.Compile(d.laid(renamed(row)))
		if e != api.OK || !reflect.DeepEqual(first, third) {
			t.Fatalf("15.4: the same with other names is another image")
		}
	}
}

// renamed is a row of tokens in which each name is another one.
func renamed(row []string) []string {
	now := map[string]string{}
	l := slices.Clone(row)
	for k, w := range l {
		if !(piece{text: w}).isName() {
			continue
		}
		if now[w] == "" {
			now[w] = "q_" + strconv.Itoa(len(now))
		}
		l[k] = now[w]
	}
	return l
}
