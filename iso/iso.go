// Package iso: frames and messages: see DOC.md.
package iso

import (
	"slices"
	"strings"

	"swipe/api"
)

// Why a frame is no message (P4).
const (
	badHead   = "R1"
	badKind   = "R2"
	badMap    = "R3"
	badFields = "R4"
)

const (
	kindBytes = 2
	mapBytes  = 8
	headBytes = kindBytes + mapBytes
)

// Cut cuts bytes into frames (P3).
func Cut(text string) ([]string, string, bool) {
	var whole []string
	rest := text
	for frame, behind := range frames(text) {
		// Clones, so that one who keeps a frame does not keep all that came with it.
		whole = append(whole, strings.Clone(frame))
		rest = behind
	}
	return whole, strings.Clone(rest), broken(rest)
}

// Decode reads a message (P4).
func Decode(frame string) (api.Message, string) {
	if len(frame) < headBytes {
		return api.Message{}, badHead
	}
	kind, ok := unpack(frame[:kindBytes])
	if !ok {
		return api.Message{}, badHead
	}
	if len(layouts(kind)) == 0 {
		return api.Message{}, badKind
	}
	fields := listed(frame[kindBytes:headBytes])
	if !allowed(kind, fields) {
		return api.Message{}, badMap
	}
	m, ok := read(kind, fields, frame[headBytes:])
	if !ok {
		return api.Message{}, badFields
	}
	return m, ""
}

// Encode writes a message (P5).
func Encode(m api.Message) (string, api.Errno) {
	if !allowed(m.Kind, m.Fields) {
		return "", api.ErrField
	}
	frame := write(m)
	// What a field may hold is said in one place, the reading: a message that
	// does not come back the same is one that Decode never answers.
	back, why := Decode(frame)
	if why != "" || !same(back, m) {
		return "", api.ErrField
	}
	return frame, api.OK
}

func same(a, b api.Message) bool {
	return a.Kind == b.Kind && slices.Equal(a.Fields, b.Fields) &&
		a.Pan == b.Pan && a.Amount == b.Amount && a.Trace == b.Trace &&
		a.Code == b.Code && a.Place == b.Place && a.Name == b.Name && a.More == b.More
}
