package iso_test

import (
	"slices"
	"strings"
	"testing"

	"swipe/api"
	"swipe/iso"
)

func wantCut(t *testing.T, text string, frames []string, rest string, broken bool) {
	t.Helper()
	gotFrames, gotRest, gotBroken := iso.Cut(text)
	if !slices.Equal(gotFrames, frames) || gotRest != rest || gotBroken != broken {
		t.Errorf("P3: Cut(%.60q) = %.60q, %.60q, %v, want %.60q, %.60q, %v", text, gotFrames, gotRest, gotBroken, frames, rest, broken)
	}
}

func TestCutOfNothing(t *testing.T) {
	wantCut(t, "", nil, "", false)
}

func TestCutOfOneByte(t *testing.T) {
	for b := range 256 {
		text := string([]byte{byte(b)})
		wantCut(t, text, nil, text, false)
		wantCut(t, framed("ab")+text, []string{"ab"}, text, false)
	}
}

func TestCutOfEveryNumber(t *testing.T) {
	for n := range 1 << 16 {
		head := string([]byte{byte(n >> 8), byte(n)})
		broken := n < 1 || n > 200
		wantCut(t, head, nil, head, broken)
		wantCut(t, framed("ab")+head, []string{"ab"}, head, broken)
	}
}

func TestCutAtTheEdgesOfSize(t *testing.T) {
	for _, n := range []int{1, 2, api.MaxFrame - 1, api.MaxFrame} {
		body := strings.Repeat("x", n)
		wantCut(t, framed(body), []string{body}, "", false)
		short := framed(body)[:n+1]
		wantCut(t, short, nil, short, false)
		wantCut(t, framed(body)+"\x00", []string{body}, "\x00", false)
	}
	for _, n := range []int{0, api.MaxFrame + 1, 256, 256 + 1, 1 << 15} {
		text := framed(strings.Repeat("x", n))
		wantCut(t, text, nil, text, true)
	}
}

func TestCutOfEachPrefix(t *testing.T) {
	bodies := []string{"a", "\x00\x00", strings.Repeat("\xff", 200), "zoë", "b"}
	var text string
	ends := []int{0}
	for _, body := range bodies {
		text += framed(body)
		ends = append(ends, len(text))
	}
	for end := range len(text) + 1 {
		n := 0
		for n+1 < len(ends) && ends[n+1] <= end {
			n++
		}
		wantCut(t, text[:end], bodies[:n], text[ends[n]:end], false)
	}
}

func TestCutLeavesAllBehindABrokenNumber(t *testing.T) {
	behind := "\x00\x00" + framed("good")
	wantCut(t, behind, nil, behind, true)
	wantCut(t, framed("a")+framed("b")+behind, []string{"a", "b"}, behind, true)
	behind = "\x00\xc9" + strings.Repeat("x", 201) + framed("good")
	wantCut(t, framed("a")+behind, []string{"a"}, behind, true)
}

func TestCutOfManyFrames(t *testing.T) {
	frames := slices.Repeat([]string{"x"}, 50000)
	wantCut(t, strings.Repeat(framed("x"), len(frames)), frames, "", false)
}

func TestCutGivesNewLists(t *testing.T) {
	text := framed("a") + framed("b") + framed("c")
	first, _, _ := iso.Cut(text)
	second, _, _ := iso.Cut(text)
	first = first[:cap(first)]
	for i := range first {
		first[i] = "spoilt"
	}
	if !slices.Equal(second, []string{"a", "b", "c"}) {
		t.Errorf("P2: a list that came out was changed through another: %q", second)
	}
	wantCut(t, text, []string{"a", "b", "c"}, "", false)
}
