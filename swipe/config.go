package swipe

import (
	"slices"
	"strings"

	"swipe/api"
	"swipe/iso"
)

// maxRoute: digits of the beginning of a number.
const maxRoute = 12

// sound tells whether a configuration may be (P6).
func sound(c api.Config) bool {
	return c.Shards >= 1 && c.Shards <= api.MaxShards &&
		len(c.Cards) <= api.MaxCards && all(c.Cards, soundCard) && distinct(c.Cards) &&
		len(c.Routes) <= api.MaxRoutes && all(c.Routes, soundRoute)
}

func all[T any](l []T, right func(T) bool) bool {
	return !slices.ContainsFunc(l, func(x T) bool { return !right(x) })
}

// soundCard tells whether a message can have what a card has. What a number, an
// amount and a name may be is said in package iso, and need not be said again.
func soundCard(c api.Card) bool {
	_, e := iso.Encode(api.Message{
		Kind:   askSpend,
		Fields: []int{api.FieldPan, api.FieldAmount, api.FieldTrace, api.FieldPlace, api.FieldName},
		Pan:    c.Pan,
		Amount: c.Limit,
		Place:  "anywhere",
		Name:   c.Name,
	})
	return e == api.OK
}

func distinct(cards []api.Card) bool {
	for k, c := range cards {
		same := func(other api.Card) bool { return other.Pan == c.Pan }
		if slices.ContainsFunc(cards[:k], same) {
			return false
		}
	}
	return true
}

func soundRoute(route string) bool {
	return len(route) >= 1 && len(route) <= maxRoute && !strings.ContainsFunc(route, noDigit)
}

func noDigit(c rune) bool { return c < '0' || c > '9' }
