package sites

import (
	"slices"
	"testing"

	"offshoot/api"
)

// A site's path is found when it is first asked for, and no second time: what is kept there then is what is told, each time in a list of its own.
func TestFoundOnce(t *testing.T) {
	body := []api.Node{{Tag: 20, N: 2}, {Tag: 26}, {Tag: 25}, {Tag: 1, N: 1}}
	s := site{body: body, at: 3}
	if s.kept != nil {
		t.Error("found ahead of the first call")
	}
	first := s.path()
	if !slices.Equal(first, []int{1, 0}) || !slices.Equal(s.kept, first) {
		t.Errorf("%v, and %v is kept", first, s.kept)
	}
	first[0] = 9
	if second := s.path(); !slices.Equal(second, []int{1, 0}) {
		t.Errorf("%v, once another answer was changed", second)
	}
	s.at, s.kept = 2, []int{7}
	if third := s.path(); !slices.Equal(third, []int{7}) {
		t.Errorf("%v: found a second time", third)
	}
}

// Who asks for a few mutants only is told no more.
func TestLeft(t *testing.T) {
	body := []api.Node{{Tag: 20, N: 1}, {Tag: 25}, {Tag: 1, N: 1}}
	for most := 1; most <= 5; most++ {
		told := 0
		for range mutants(body) {
			if told++; told == most {
				break
			}
		}
		if told != most {
			t.Errorf("%d, not %d", told, most)
		}
	}
}
