package swipe

import (
	"swipe/api"
	"swipe/iso"
)

// The kinds of requests.
const (
	askSpend  = "0100"
	askBack   = "0400"
	tellBack  = "0420"
	askTotal  = "0500"
	askEcho   = "0800"
	kindWrong = "9990"
)

// The codes of answers.
const (
	codeOK      = "00"
	codeAmount  = "13"
	codeNoCard  = "14"
	codeNoRoute = "15"
	codeNoSpend = "25"
	codeTooMuch = "51"
	codeAnswer  = "R5"
)

// answerKind tells the kind of the answer to a request.
func answerKind(kind string) string {
	switch kind {
	case askSpend:
		return "0110"
	case askBack:
		return "0410"
	case tellBack:
		return "0430"
	case askTotal:
		return "0510"
	case askEcho:
		return "0810"
	}
	return kindWrong
}

// refusal: the answer to a frame that is no request.
func refusal(why string) string {
	return framed(api.Message{Kind: kindWrong, Fields: []int{api.FieldCode}, Code: why})
}

func echo(m api.Message) string {
	return framed(api.Message{
		Kind:   answerKind(m.Kind),
		Fields: []int{api.FieldTrace, api.FieldCode},
		Trace:  m.Trace,
		Code:   codeOK,
	})
}

// telling: the answer that tells the total.
func telling(m api.Message, total int) string {
	return framed(api.Message{
		Kind:   answerKind(m.Kind),
		Fields: []int{api.FieldAmount, api.FieldTrace, api.FieldCode, api.FieldMore},
		Amount: total % (api.MaxAmount + 1),
		Trace:  m.Trace,
		Code:   codeOK,
		More:   total / (api.MaxAmount + 1),
	})
}

// ruling: the answer to a request of a card.
func ruling(m api.Message, v verdict) string {
	return framed(api.Message{
		Kind:   answerKind(m.Kind),
		Fields: []int{api.FieldPan, api.FieldAmount, api.FieldTrace, api.FieldCode, api.FieldPlace},
		Pan:    m.Pan,
		Amount: v.amount,
		Trace:  m.Trace,
		Code:   v.code,
		Place:  m.Place,
	})
}

// framed: the bytes of an answer, with the two ahead that tell how many they are.
func framed(m api.Message) string {
	// No error can come: an answer has the fields of its kind, and in them
	// what stood in a request, or a code or a total that has room there.
	frame, _ := iso.Encode(m)
	return string([]byte{byte(len(frame) >> 8), byte(len(frame))}) + frame
}
