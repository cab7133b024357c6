package suite_test

import (
	"math/rand"
	"slices"
	"strings"
	"sync"
	"testing"

	"offshoot/api"
	"offshoot/suite"
)

// Calls by turns, at suites that may be and ones that may not, tell what each tells alone.
func TestByTurns(t *testing.T) {
	r := rand.New(rand.NewSource(7))
	for range 2000 {
		a, b, fuel := chance(r), chance(r), 1+r.Intn(10000)
		s := written(a, fuel)
		ragged := append([][]int{make([]int, len(a[0])+1)}, a...)
		for range 6 {
			switch r.Intn(7) {
			case 0:
				may(t, a, fuel)
			case 1:
				may(t, b, fuel)
			case 2:
				put(t, ragged, fuel, "", api.ErrTests)
			case 3:
				put(t, a, 0, "", api.ErrFuel)
			case 4:
				none(t, s+"\x00")
				none(t, s[:len(s)-1])
			case 5:
				check(t, len(a[0]), ragged, fuel, api.ErrTests)
				check(t, len(a[0]), a, fuel, api.OK)
			case 6:
				same(t, a, ragged, false)
				same(t, a, roomy(a), true)
			}
		}
	}
}

// What tests become when they are changed by their owner is what is told next: nothing is kept of them from call to call.
func TestNothingKept(t *testing.T) {
	tests := [][]int{{3, -1}, {0, 1}}
	s, e := suite.Put(tests, 5)
	if want := "\x05\x02\x02\x06\x01\x00\x02"; s != want || e != api.OK {
		t.Fatalf("%x %v", s, e)
	}
	tests[0][1] = 64
	both(t, tests, 5, "\x05\x02\x02\x06\x80\x01\x00\x02")
	got(t, s, [][]int{{3, -1}, {0, 1}}, 5, api.OK)
	tests[1] = tests[1][:1]
	check(t, 2, tests, 5, api.ErrTests)
	put(t, tests, 5, "", api.ErrTests)
	tests[0] = tests[0][:1]
	check(t, 1, tests, 5, api.OK)
	both(t, tests, 5, "\x05\x02\x01\x06\x00")
}

// Who appends to a list that was told, or to one of its tests, changes no other one.
func TestAppended(t *testing.T) {
	for _, want := range [][][]int{many(3, 2), many(20, 12), many(1, 1), many(4, 0), many(7, 5)} {
		s := written(want, 9)
		l, _, _ := suite.Get(s)
		m, _, _ := suite.Get(s)
		for i := range l {
			_ = append(l[i], mark, mark, mark)
		}
		_ = append(l, []int{mark})
		if !alike(l, want) || !alike(m, want) {
			t.Errorf("%v and %v are left, of %v", short(l), short(m), short(want))
		}
		got(t, s, want, 9, api.OK)
	}
}

// Calls at one time, with the same arguments, tell the same as one alone.
func TestAtOnce(t *testing.T) {
	r := rand.New(rand.NewSource(8))
	tests := [][][]int{chance(r), chance(r), many(20, 12)}
	var all sync.WaitGroup
	for range 8 {
		all.Add(1)
		go func() {
			defer all.Done()
			for i := range 600 {
				l, fuel := tests[i%3], 1+i
				s, e := suite.Put(l, fuel)
				back, n, f := suite.Get(s)
				if s != written(l, fuel) || e != api.OK || f != api.OK || n != fuel || !suite.Same(back, l) || !slices.EqualFunc(back, l, slices.Equal[[]int]) {
					t.Errorf("%x %v: %v %d %v", s, e, short(back), n, f)
				}
				if e := suite.Check(len(l[0]), l, fuel); e != api.OK {
					t.Errorf("%v", e)
				}
			}
		}()
	}
	all.Wait()
}

// The greatest bytes that there are, and none of what lies beyond them.
func TestGreatest(t *testing.T) {
	least := -1 << 63
	tests := slices.Repeat([][]int{slices.Repeat([]int{least}, 12)}, 20)
	s := "\x90\x4e\x14\x0c" + strings.Repeat("\xff\xff\xff\xff\xff\xff\xff\xff\xff\x01", 240)
	both(t, tests, 10000, s)
	none(t, s+strings.Repeat("\xff\xff\xff\xff\xff\xff\xff\xff\xff\x01", 12))
	none(t, strings.Repeat(s, 1000))
	none(t, strings.Repeat("\x00", 1<<20))
	none(t, strings.Repeat("\xff", 1<<20))
	none(t, strings.Repeat("\x01", 1<<20))
}
