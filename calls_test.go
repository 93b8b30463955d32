// Package placket_test holds the layers' calls against their chapters: it doesn't build once one of them differs.
package placket_test

import (
	"testing"

	"placket/api"
	"placket/arena"
	"placket/attr"
	"placket/bound"
	"placket/code"
	"placket/denote"
	"placket/dom"
	"placket/esc"
	"placket/ins"
	"placket/keys"
	"placket/match"
	"placket/mut"
	"placket/name"
	"placket/parse"
	"placket/patch"
	"placket/path"
	"placket/script"
	"placket/serial"
	"placket/sess"
	"placket/tree"
	"placket/valid"
	"placket/walk"
	"placket/wish"
)

// Layers 1 to 4.
var (
	_ func(string) bool           = name.May
	_ func(string) bool           = name.Text
	_ func(string) bool           = name.Void
	_ func(string) string         = esc.Put
	_ func(string) (string, bool) = esc.Get

	_ func([]api.Attr) bool                           = attr.May
	_ func([]api.Attr, string) (api.Attr, bool)       = attr.Find
	_ func([]api.Attr, []api.Attr) []api.Attr         = attr.Join
	_ func([]api.Attr) []api.Attr                     = attr.New
	_ func([]api.Attr, []api.Attr) bool               = attr.Same
	_ func(int) (*arena.Arena[int], error)            = arena.New[int]
	_ func(*arena.Arena[string], string) (int, error) = (*arena.Arena[string]).Put
	_ func(*arena.Arena[string], int) (string, bool)  = (*arena.Arena[string]).Get
	_ func(*arena.Arena[string], int, string) bool    = (*arena.Arena[string]).Set
	_ func(*arena.Arena[int], int) bool               = (*arena.Arena[int]).Drop
	_ func(*arena.Arena[int]) int                     = (*arena.Arena[int]).Live
	_ func(*arena.Arena[int]) int                     = (*arena.Arena[int]).Next
	_ func(*arena.Arena[int]) int                     = (*arena.Arena[int]).Room
	_ func(*arena.Arena[int]) *arena.Arena[int]       = (*arena.Arena[int]).Clone
)

// Layers 5 to 7.
var (
	_ func(int) (*dom.Doc, error)          = dom.New
	_ func(*dom.Doc, api.Rec) error        = (*dom.Doc).Apply
	_ func(*dom.Doc, int) (api.Node, bool) = (*dom.Doc).Node
	_ func(*dom.Doc) []int                 = (*dom.Doc).Ids
	_ func(*dom.Doc) int                   = (*dom.Doc).Next
	_ func(*dom.Doc) int                   = (*dom.Doc).Free
	_ func(*dom.Doc) int                   = (*dom.Doc).Focus
	_ func(*dom.Doc, int) error            = (*dom.Doc).SetFocus
	_ func(*dom.Doc, int, int64) error     = (*dom.Doc).Note
	_ func(*dom.Doc) *dom.Doc              = (*dom.Doc).Clone
	_ func(*dom.Doc, int) []int            = path.Up
	_ func(*dom.Doc, int, int) bool        = path.Inside
	_ func(*dom.Doc, int) []int            = path.All
	_ func(*dom.Doc, []int) (int, bool)    = path.At
	_ func(*dom.Doc) *mut.Log              = mut.New
	_ func(*mut.Log, api.Rec) error        = (*mut.Log).Do
	_ func(*mut.Log) []api.Rec             = (*mut.Log).All
	_ func(*dom.Doc, []api.Rec) error      = mut.Replay
)

// Layers 8 to 14.
var (
	_ func(api.Tree) bool                                       = tree.May
	_ func(api.Tree, api.Tree) bool                             = tree.Same
	_ func(api.Tree) int                                        = tree.Count
	_ func(*dom.Doc, int) (api.Tree, bool)                      = tree.Of
	_ func(*mut.Log, *dom.Doc, int, int, api.Tree) (int, error) = tree.Build
	_ func(api.Tree) string                                     = serial.Put
	_ func([]api.Tree) string                                   = serial.All
	_ func(string) ([]api.Tree, error)                          = parse.Get
	_ func(api.Ins) bool                                        = ins.May
	_ func(int) bool                                            = ins.Makes
	_ func(int) bool                                            = ins.Tells
	_ func([]api.Ins) ([]byte, error)                           = code.Put
	_ func([]byte) ([]api.Ins, error)                           = code.Get
	_ func([]api.Ins) error                                     = valid.Check
	_ func([]api.Ins) ([]wish.Want, error)                      = wish.Of
	_ func([]wish.Want) []api.Ins                               = wish.Back
	_ func([]wish.Want) int                                     = wish.Count
	_ func([]wish.Want, []wish.Want) bool                       = wish.Same
)

// Layers 15 to 22.
var (
	_ func(*dom.Doc, []int) *keys.Map                              = keys.New
	_ func(*keys.Map, string, string) (int, bool)                  = (*keys.Map).Find
	_ func(*keys.Map, int) bool                                    = (*keys.Map).Drop
	_ func(*keys.Map) int                                          = (*keys.Map).Len
	_ func([]match.Old, []wish.Want) match.Res                     = match.Of
	_ func([]wish.Want, []api.Tree) []api.Tree                     = denote.Of
	_ func([]wish.Want) int                                        = bound.Nodes
	_ func([]wish.Want, int) int                                   = bound.Changes
	_ func(*mut.Log, *dom.Doc, int, []int, int, []wish.Want) error = walk.Patch
	_ func(*mut.Log, *dom.Doc, int, []byte) error                  = patch.Inner
	_ func(*mut.Log, *dom.Doc, int, []byte) error                  = patch.Outer
	_ func(int) (*sess.Session, error)                             = sess.New
	_ func(*sess.Session, sess.Step) sess.Res                      = (*sess.Session).Do
	_ func(*sess.Session) *dom.Doc                                 = (*sess.Session).Doc
	_ func(*sess.Session) []api.Rec                                = (*sess.Session).Last
	_ func(int, []sess.Step) ([]sess.Res, error)                   = script.Run
)

// The types' fields, by their names and types.
var (
	_ = wish.Want{Kind: 0, Tag: "", Key: "", Text: "", Attrs: []api.Attr(nil), Kids: []wish.Want(nil)}
	_ = struct{ Tag, Key string }(match.Old{})
	_ = struct {
		Take       []int
		Kept, Gone []int
	}(match.Res{})
	_ = struct {
		Kind, Id int
		N        int64
		Text     string
		Bytes    []byte
		Places   []int
	}(sess.Step{})
	_ = struct {
		Code    int
		Text    string
		Id      int
		Changes int
	}(sess.Res{})
)

func TestKinds(t *testing.T) {
	if wish.Elem != 1 || wish.Text != 2 || wish.Node != 3 || wish.All != 4 {
		t.Error("the kinds of what is wanted aren't 1 to 4")
	}
}
