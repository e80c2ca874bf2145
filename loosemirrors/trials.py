"""Trials: blocks behind which a board is as it was ahead of them, if it is not kept."""


class Trial:
    """One block of a board's."""

    def __init__(self, board):
        self.board = board
        self.outer = None
        self.kept = None

    def __enter__(self):
        board = self.board
        self.outer = board.inner
        self.moments = board.moments
        self.deeds = board.deeds
        self.done = board.done
        self.drawing = board.drawing
        self.row = board.row
        self.dots = board.dots
        board.inner = self
        return board

    def __exit__(self, kind, value, trace):
        board = self.board
        board.inner = self.outer
        if kind is not None or self.kept is None:
            board.moments = self.moments
            board.deeds = self.deeds
            board.done = self.done
            board.drawing = self.drawing
            board.row = self.row
            board.dots = self.dots
