package desk_test

// This file holds all layers' calls against the chapters' lists: it does not
// compile where a call is missing, or takes or answers other types. It stands
// here as the desk is above all other layers.

import (
	"testing"

	"balise/api"
	"balise/authority"
	"balise/bits"
	"balise/center"
	"balise/chain"
	"balise/crc"
	"balise/desk"
	"balise/detect"
	"balise/graph"
	"balise/image"
	"balise/judge"
	"balise/layout"
	"balise/message"
	"balise/own"
	"balise/plane"
	"balise/point"
	"balise/route"
	"balise/state"
	"balise/timer"
	"balise/train"
	"balise/verify"
	"balise/world"
)

// Layers 1 to 4: plane, bits, crc, layout.
var (
	_ func(complex128) bool                        = plane.Place
	_ func(u, v complex128) float64                = plane.Dot
	_ func(u, v complex128) float64                = plane.Cross
	_ func(complex128) float64                     = plane.Square
	_ func(a, b, c complex128) bool                = plane.Ahead
	_ func(a, b, c complex128) int                 = plane.Turn
	_ func(a, b complex128, length int) bool       = plane.Fits
	_ func(*bits.Writer, uint64, int) *bits.Writer = (*bits.Writer).Put
	_ func(*bits.Writer, bool) *bits.Writer        = (*bits.Writer).Flag
	_ func(*bits.Writer) int                       = (*bits.Writer).Len
	_ func(*bits.Writer) []byte                    = (*bits.Writer).Bytes
	_ func([]byte) *bits.Reader                    = bits.NewReader
	_ func(*bits.Reader, int) uint64               = (*bits.Reader).Get
	_ func(*bits.Reader) bool                      = (*bits.Reader).Flag
	_ func(*bits.Reader) int                       = (*bits.Reader).Left
	_ func(*bits.Reader) bool                      = (*bits.Reader).OK
	_ func(*bits.Reader) bool                      = (*bits.Reader).End
	_ func([]byte) uint16                          = crc.Of
	_ func([]byte) []byte                          = crc.Close
	_ func([]byte) ([]byte, api.Errno)             = crc.Open
	_ func(api.Layout) []byte                      = layout.Encode
	_ func([]byte) (api.Layout, api.Errno)         = layout.Decode
	_ func(a, b api.Layout) bool                   = layout.Same
)

// Layers 5 to 9: graph, verify, message, timer, detect.
var (
	_ = graph.Need{Point: 0, Right: false}

	_ func(api.Layout) *graph.Graph                       = graph.New
	_ func(*graph.Graph, int) []api.End                   = (*graph.Graph).Ends
	_ func(*graph.Graph, int) int                         = (*graph.Graph).Point
	_ func(*graph.Graph, api.End, []bool) (api.End, bool) = (*graph.Graph).Next
	_ func(*graph.Graph, api.End) []api.End               = (*graph.Graph).Around
	_ func(*graph.Graph, int) []int                       = (*graph.Graph).Near
	_ func(*graph.Graph, int) int                         = (*graph.Graph).Part
	_ func(*graph.Graph, int) []int                       = (*graph.Graph).Beside
	_ func(*graph.Graph, []int) ([]graph.Need, bool)      = (*graph.Graph).Path
	_ func(*graph.Graph, int) int                         = (*graph.Graph).Len
	_ func(api.Layout) (int, int)                         = verify.First
	_ func(api.Layout) bool                               = verify.Right
	_ func(api.Message) []byte                            = message.Encode
	_ func([]byte) (api.Message, api.Errno)               = message.Decode
	_ func(a, b api.Message) bool                         = message.Same
	_ func() *timer.Table                                 = timer.New
	_ func(*timer.Table, int, int64) api.Errno            = (*timer.Table).Start
	_ func(*timer.Table, int) bool                        = (*timer.Table).Stop
	_ func(*timer.Table, int, int64) (int64, bool)        = (*timer.Table).Left
	_ func(*timer.Table, int64) []int                     = (*timer.Table).Ended
	_ func(*timer.Table) int                              = (*timer.Table).Len
	_ func(int, int64) *detect.Filter                     = detect.New
	_ func(*detect.Filter, []byte) []bool                 = (*detect.Filter).Step
	_ func(*detect.Filter, int) bool                      = (*detect.Filter).Clear
	_ func(*detect.Filter, int) int64                     = (*detect.Filter).Count
)

// Layers 10 to 14: train, chain, own, state, point.
var (
	_ = train.Train{ID: 0, Heard: int64(0), Sure: int64(0), Dir: 0, Ahead: 0, Trail: []int(nil)}
	_ = own.View{ID: 0, Sure: false, Span: []int(nil)}

	_ func() *train.Register                                                                 = train.New
	_ func(*train.Register, int, int64) api.Errno                                            = (*train.Register).Open
	_ func(*train.Register, int) bool                                                        = (*train.Register).Close
	_ func(*train.Register, int) (train.Train, bool)                                         = (*train.Register).Get
	_ func(*train.Register) []int                                                            = (*train.Register).All
	_ func(*train.Register, *graph.Graph, int64, api.Message, []int) api.Errno               = (*train.Register).Note
	_ func(r *train.Register, now, most int64) []int                                         = (*train.Register).Mute
	_ func(r *train.Register, now, most int64) []int                                         = (*train.Register).Doubt
	_ func(*graph.Graph, api.Message) bool                                                   = train.Fits
	_ func(trail, was []int) []int                                                           = train.Join
	_ func(*graph.Graph, train.Train, int64, int, []bool) []int                              = chain.Span
	_ func(*graph.Graph, train.Train, int64, int, []bool) api.End                            = chain.Front
	_ func(span, sections []int) bool                                                        = chain.Meets
	_ func(int) []int                                                                        = own.Start
	_ func(api.Layout, []int, []bool, []own.View) []int                                      = own.Next
	_ func(api.Layout, []int, []bool, []own.View, int, int) ([]int, api.Errno)               = own.Declare
	_ func([]own.View, int) (own.View, bool)                                                 = own.Find
	_ func(api.Layout, []int, []own.View) []byte                                             = state.Of
	_ func(from, to byte) byte                                                               = state.Kind
	_ func(was, is []byte) []api.Change                                                      = state.Changes
	_ func([]graph.Need, []bool) bool                                                        = point.Stands
	_ func([]graph.Need, []bool) []graph.Need                                                = point.Moves
	_ func(l api.Layout, s []byte, v []own.View, locked []bool, held []bool, point int) bool = point.May
	_ func([]bool, []graph.Need) []bool                                                      = point.Move
)

// Layers 15 to 18: route, authority, image, world.
var (
	_ = route.Lock{Route: 0, Train: 0, Ends: int64(0), Pieces: []byte(nil)}

	_ func(api.Layout) *route.Table                                                = route.New
	_ func(*route.Table, int, int, []byte, []own.View, []bool) ([]bool, api.Errno) = (*route.Table).Set
	_ func(*route.Table, int, int64) api.Errno                                     = (*route.Table).Cancel
	_ func(*route.Table, int64, []byte, []int)                                     = (*route.Table).Step
	_ func(*route.Table) []route.Lock                                              = (*route.Table).Locks
	_ func(*route.Table) []bool                                                    = (*route.Table).Sections
	_ func(*route.Table) []bool                                                    = (*route.Table).Held
	_ func(*route.Table, int) int                                                  = (*route.Table).Whose
	_ func(*route.Table, []route.Lock) api.Errno                                   = (*route.Table).Load
	_ func(*route.Table, int64)                                                    = (*route.Table).Anew
	_ func(api.Layout, []route.Lock, []byte, []int, []own.View, []bool, int) []int = authority.Of
	_ func([]route.Lock) []byte                                                    = image.Encode
	_ func([]byte) ([]route.Lock, api.Errno)                                       = image.Decode
	_ func(api.Layout) *world.World                                                = world.New
	_ func(w *world.World, id, length, ahead, dir int, trail []int) api.Errno      = (*world.World).Add
	_ func(w *world.World, id, metres int, right []bool) (int, api.Errno)          = (*world.World).Go
	_ func(w *world.World, id, other, behind int) api.Errno                        = (*world.World).Split
	_ func(*world.World) []byte                                                    = (*world.World).Detect
	_ func(*world.World, int) bool                                                 = (*world.World).Inside
	_ func(*world.World, int) []int                                                = (*world.World).Under
	_ func(w *world.World, id, part int) bool                                      = (*world.World).In
	_ func(*world.World, int, int64) (api.Message, bool)                           = (*world.World).Report
	_ func(*world.World) []int                                                     = (*world.World).All
)

// Layers 19 to 21: center, judge, desk.
var (
	_ func(p []byte, image []byte, now int64, right []bool) (*center.Center, api.Errno) = center.New
	_ func(*center.Center, api.Input) api.Output                                        = (*center.Center).Step
	_ func(*center.Center) int64                                                        = (*center.Center).Now
	_ func(*center.Center) []byte                                                       = (*center.Center).Image
	_ func(*center.Center) api.Layout                                                   = (*center.Center).Layout
	_ func(*center.Center) []int                                                        = (*center.Center).Owners
	_ func(*center.Center) []int                                                        = (*center.Center).Trains
	_ func(*center.Center, int) (train.Train, bool)                                     = (*center.Center).Train
	_ func(*center.Center, int) []int                                                   = (*center.Center).Span
	_ func(*center.Center) []route.Lock                                                 = (*center.Center).Locks
	_ func(*center.Center, int) []int                                                   = (*center.Center).Authority
	_ func(*center.Center) int                                                          = (*center.Center).Bad
	_ func(*world.World, []byte) bool                                                   = judge.Safe
	_ func([][]int) bool                                                                = judge.Apart
	_ func(*center.Center) bool                                                         = judge.Within
	_ func(l api.Layout, was, is []bool, states []byte, locked []bool) bool             = judge.Still
	_ func(*world.World, int, []int) bool                                               = judge.Sole
	_ func(*center.Center) bool                                                         = judge.Right
	_ func() *desk.Desk                                                                 = desk.New
	_ func(*desk.Desk, string) string                                                   = (*desk.Desk).Line
	_ func(string) []string                                                             = desk.Run
	_ func(n, length int) api.Layout                                                    = desk.Track
	_ func(int) api.Layout                                                              = desk.Fork
)

// TestFaces is there so that the lists above are compiled with the tests.
func TestFaces(t *testing.T) {
	if route.Loose != 0 || route.Locked != 1 || route.Used != 2 {
		t.Error("what a piece is has other numbers")
	}
}
