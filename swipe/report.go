package swipe

import (
	"strconv"
	"strings"

	"swipe/api"
)

// How many digits of a number a report shows ahead of those that it hides, and behind them.
const (
	shownAhead  = 6
	shownBehind = 4
)

// row: what a report tells of a card.
func row(pan string, a *account) string {
	return masked(pan) + " " + a.name + " " + strconv.Itoa(a.left)
}

func masked(pan string) string {
	end := len(pan) - shownBehind
	return pan[:shownAhead] + strings.Repeat("*", end-shownAhead) + pan[end:]
}

// wide makes a name api.Wide runes wide: what is more is left off, blanks fill what is less.
func wide(name string) string {
	var b strings.Builder
	room := api.Wide
	for _, c := range name {
		if room == 0 {
			break
		}
		b.WriteRune(c)
		room--
	}
	b.WriteString(strings.Repeat(" ", room))
	return b.String()
}
